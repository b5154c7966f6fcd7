import PyProof.Rows.All
import Wide.All
import OpenK.AllK
import Wide.FinOn
import Lean
import PyProof.EqAt
import PyProof.EqKinds
import PyProof.TupleCall
import PyProof.ZipIter
import PyProof.AttrMissHeap
import PyProof.Walks
import PyProof.WalksS
import PySem.SetTable
import KE.KSortTup
import KE.KRevIter
import PyProof.Rows.SetFrom
import PyProof.CollectWalk
import PyProof.DictWalks
import PyProof.DictItems
import KE.KDictList
import PyProof.ListRange
import PyProof.EqAt
import PyProof.WalkInts
import PyProof.StrBlockG
import PyProof.SumWalk
import PyProof.Rows.TupIter
import PyProof.StrLawsIdx
import PyProof.CallStr
import PyProof.StrCalls2
import PyProof.StrWalks
import KE.KIntText
import PyProof.SetRoads
import PyProof.StrLawsTight
import PyProof.Rows.FStr
import PyProof.SumAny
import PyProof.MinMaxWalk
import PyProof.DefCall
import KE.KMinKey
import KE.KEqDict
import PyProof.DictFindH
import PyProof.Rows.CallKw2
import PyProof.Rows.CallKwBuiltin
import KE.KDictOf
import PyProof.ExcArgsOwn
import PyProof.Draws
import PyProof.EnumMake
import PyProof.ConsumeWalk
import PySem.Challenge.RW_callwalk_k25_way_is_walked
section
open PySem PySem.W PyProof.Rows
def PySem.W.Vw:Program:={PySem.Challenge.pw_callwalk_k25_way_is_walked with main:={PySem.Challenge.pw_callwalk_k25_way_is_walked.main with body:=PySem.Challenge.pw_callwalk_k25_way_is_walked.main.body.filter fun s=>match s with|.FunctionDef n ..=>!(["way"]:List Str).contains n|.ClassDef ..=>true|_=>false}}
local macro_rules | `(tactic| o_head $H) => `(tactic| refine holds_open (q := PySem.W.Vw) (loose := ["way"]) (Xt := fun s => xlAt PySem.W.Vw [] s && recOk (RowW.records PySem.Challenge.rw_callwalk_k25_way_is_walked.row.toRowW) s) (XP := XL PySem.W.Vw []) (Yf := Hook.obs $H) (Ya := Hook.val $H) (YP := Hook.says $H) (N := 5090) (fun w => by kernel_rfl) (Hook.of $H) (Hook.keeps $H) (fun s e => xl_of s (Bool.and_eq_true_iff.mp e).1) XL.keeps (by rfl) (by rfl) (by rfl) (fun s e => recFacts_of (Bool.and_eq_true_iff.mp e).2) (by rfl) (by first | assumption | decide +kernel) (by decide +kernel) ⟨rfl, rfl, rfl, rfl, rfl, by decide +kernel⟩ ?_ ?_)
set_option Elab.async false
set_option maxRecDepth 100000
set_option maxHeartbeats 0
theorem PySem.W.Ew:PySem.Challenge.rw_callwalk_k25_way_is_walked.wellSaid=true:=by kernel_rfl
def PySem.W.Ea:=fun hc=>(by
 w_on;refine holds_law PySem.W.Ew fun said=>?_;k_head;(· w_witness2)
 exact hc:PySem.Challenge.rw_callwalk_k25_way_is_walked.Holds)
end
set_option autoImplicit true
set_option Elab.async false
set_option linter.all false
set_option genSizeOf false
set_option genSizeOfSpec false
set_option compiler.extract_closed false
set_option maxRecDepth 100000
set_option maxHeartbeats 4000000
set_option bootstrap.genMatcherCode false
noncomputable section
abbrev KE:=@PySem.wpAny_bind
abbrev Oo:=@PySem.Heap.get?_push_of_some
abbrev Oq:=@Nat.le_refl
abbrev Os:=@PySem.wpAny_pure
abbrev Ot:=@List.length_map
abbrev Ou:=@List.getElem?_eq_getElem
abbrev Ov:=@List.getElem?_eq_some_iff
abbrev Ow:=@List.mem_cons_of_mem
abbrev Ox:=@List.mem_cons_self
abbrev Oy:=@PySem.Heap.lt_size
abbrev Oz:=@PySem.Heap.get?_push_size
abbrev OA:=@List.size_toArray
abbrev OB:=@List.mem_map
abbrev OC:=@List.mem_cons
abbrev OD:=@List.getElem?_map
abbrev OE:=@List.map_cons
abbrev OF:=@List.length_append
abbrev OG:=@PySem.sizeLine_eq
abbrev OH:=@List.not_mem_nil
abbrev OI:=@List.mem_singleton
abbrev OJ:=@List.length_cons
abbrev OK:=@if_pos
abbrev OL:=@if_neg
abbrev OM:=@Bool.false_eq_true
abbrev ON:=@Bool.false_ne_true
abbrev OO:=@decide_eq_true
abbrev OP:=@Nat.zero_le
abbrev OQ:=@Nat.ne_of_lt
abbrev OR:=@Nat.le_trans
abbrev OS:=@List.mem_iff_getElem?
abbrev OT:=@List.pairwise_iff_getElem
abbrev OU:=@List.mem_of_getElem?
abbrev OV:=@Nat.lt_of_lt_of_le
abbrev OW:=@Option.some.inj
abbrev OX:=@List.mem_append
abbrev OY:=@Array.getElem?_toList
abbrev OZ:=@decide_eq_false
abbrev O0:=@List.mem_append_right
abbrev O1:=@PySem.Heap.get?_update_other
abbrev O2:=@of_decide_eq_true
abbrev O3:=@List.map_append
abbrev O4:=@PySem.W.mg_none_of
abbrev O5:=@List.mem_append_left
abbrev O6:=@PySem.F.plainAttrs_list
abbrev O7:=@PySem.PassesOwn.never
abbrev O8:=@PySem.F.plainAttrs_dict
abbrev O9:=@List.mem_range
abbrev O_:=@List.nodup_nil
abbrev Pa:=@List.mem_filter
abbrev Pb:=@Array.length_toList
abbrev Pc:=@PySem.Heap.SameBut.update
abbrev Pd:=@Option.map_eq_some_iff
abbrev Pe:=@List.take_of_length_le
abbrev Pf:=@Nat.exists_eq_add_of_le'
abbrev Pg:=@PySem.F.slot_list_append
abbrev Ph:=@PySem.F.type_list_append
abbrev Pi:=@List.take_add_one
abbrev Pj:=@List.length_range
abbrev Pk:=@List.nodup_cons
abbrev Pl:=@PySem.wpAny_holding
abbrev Pn:=@List.length_eq_zero_iff
abbrev Po:=@PySem.F.slot_dict_setdefault
abbrev Pp:=@Nat.lt_of_le_of_lt
abbrev Pq:=@PySem.Heap.get?_update_self
abbrev Ps:=@PySem.wpAny_mono
abbrev Pt:=@List.map_congr_left
abbrev Pu:=@Int.eq_ofNat_of_zero_le
abbrev Pw:=@Ne.symm
abbrev Px:=@PySem.W.kia_one
abbrev Py:=@List.length_take
abbrev PB:=@PySem.wpAny_call_entry
abbrev PC:=@PySem.F.slot_dict_itemiterator_next
abbrev PD:=@List.pairwise_map
abbrev PF:=@PySem.wpAny_setState_of
abbrev PH:=@PyProof.Rows.callWith_type1
abbrev PJ:=@congrArg
abbrev PL:=@if_false
abbrev PN:=@List.map_map
abbrev PP:=@List.length_eq_one_iff
abbrev PQ:=@PyProof.Rows.F.plain_set_update_loop
abbrev PR:=@Nat.shiftRight_eq_div_pow
abbrev PU:=@Bool.and_eq_true
abbrev PV:=@List.take_length
abbrev PX:=@PySem.wpAny_truthy_bool
abbrev PY:=@PySem.wpAny_newObj_type
abbrev PZ:=@PySem.F.type_dict_setdefault
abbrev P0:=@PySem.wpAny_execs_nil
abbrev P3:=@List.mem_filterMap
abbrev P7:=@List.length_nil
abbrev P8:=@PySem.codeAny_builtin
abbrev P9:=@List.mem_of_mem_take
abbrev P_:=@Nat.lt_succ_self
abbrev Qa:=@List.getElem?_append_right
abbrev Qb:=@Array.getElem?_eq_some_iff
abbrev Qc:=@PySem.Calls.callWith_builtin
abbrev Qd:=@PySem.mem_of_lookup
abbrev Qe:=@Nat.lt_irrefl
abbrev Qf:=@Classical.byContradiction
abbrev Qg:=@List.getElem?_append_left
abbrev Qh:=@PySem.boot_len
abbrev Qi:=@List.length_filter_le
abbrev Qj:=@PySem.F.slot_dict_get
abbrev Qk:=@List.take_append_drop
abbrev Ql:=@PySem.wpAny_typeNameOfWhole_itemiter
abbrev Qm:=@PySem.wpAny_Call_Name_kw
abbrev Qn:=@List.Pairwise.imp_of_mem
abbrev Qo:=@PySem.Around.under_plainId
abbrev Qp:=@Bool.not_true
abbrev Qq:=@List.Perm.refl
abbrev Qr:=@Int.le_trans
abbrev Qs:=@List.nodup_append
abbrev Qu:=@List.find?_cons
abbrev Qw:=@List.length_drop
abbrev Qx:=@PySem.F.plain_min_loop
abbrev Qy:=@PySem.Calls.spliced_cons
abbrev Qz:=@PySem.tupleKind_room_in1
abbrev QA:=@List.getElem?_eq_none
abbrev QB:=@List.filter_append
abbrev QC:=@PySem.Heap.size_push
abbrev QD:=@PySem.wpAny_typeNameOf_itemiter
abbrev QE:=@PySem.Calls.evalArgs_plain
abbrev QF:=@PySem.wpAny_passesOwn
abbrev QG:=@Nat.lt_succ_of_lt
abbrev QH:=@List.foldl_append
abbrev QI:=@List.foldl_cons
abbrev QJ:=@List.map_nil
abbrev QK:=@List.filterMap_cons
abbrev QL:=@PySem.plainId_quiet
abbrev QM:=@PySem.wpAny_callSpecial?_slot
abbrev QN:=@List.filter_cons_of_neg
abbrev QO:=@List.filter_cons_of_pos
abbrev QP:=@PySem.W.mg_of
abbrev QQ:=@List.all_eq_true
abbrev QR:=@beq_self_eq_true
abbrev QS:=@List.lookup_cons
abbrev QT:=@if_true
abbrev QU:=@PySem.F.entry_dict_get
abbrev QV:=@PySem.wpAny_setField_rec
abbrev QW:=@List.length_singleton
abbrev QX:=@Int.le_refl
abbrev QY:=@PySem.Paired.length
abbrev QZ:=@PySem.Calls.spliced_nil
abbrev Q0:=@List.any_cons
abbrev Q1:=@List.append_assoc
abbrev Q2:=@List.flatMap_cons
abbrev Q3:=@Int.fdiv_eq_ediv_of_nonneg
abbrev Q5:=@PySem.Obj.data_mapDictKeys
abbrev Q7:=@List.mem_iff_getElem
abbrev Q8:=@List.getElem?_zip_eq_some
abbrev Q9:=@PyProof.Rows.F.entry_set_update_loop
abbrev Q_:=@List.drop_eq_getElem_cons
abbrev Ra:=@PySem.wpAny_execs_cons
abbrev Rb:=@List.nodup_range
abbrev Rc:=@PySem.Heap.SameBut.extBut
abbrev Re:=@List.map_eq_nil_iff
abbrev Rf:=@Nat.le_of_lt
abbrev Rg:=@Nat.ne_of_gt
abbrev Rh:=@beq_iff_eq
abbrev Rj:=@PySem.codeAny_mono
abbrev Rk:=@PySem.call_meetsIn
abbrev Rl:=@Int.le_of_lt
abbrev Rm:=@Bool.eq_iff_iff
abbrev Rn:=@List.append_nil
abbrev Ro:=@PySem.W.callWith_K
abbrev Rp:=@List.zip_cons_cons
abbrev Rq:=@PySem.wpAny_Call_method0_late
abbrev Rr:=@PySem.wpAny_attempt
abbrev Rt:=@Nat.lt_or_gt_of_ne
abbrev Ru:=@PySem.W.KasT.kasWp_bind
abbrev Rv:=@PySem.wpAny_updateSeq
abbrev Rx:=@Nat.add_sub_cancel_left
abbrev Ry:=@List.getElem?_set_self
abbrev Rz:=@PySem.wpAny_isOneOf_itemiter
abbrev RB:=@PySem.wpAny_pyIter_list
abbrev RC:=@Int.toNat_natCast
abbrev RD:=@Nat.lt_trichotomy
abbrev RE:=@PySem.wpAny_storeSet_of
abbrev RF:=@bne_self_eq_false
abbrev RG:=@PySem.wpAny_pyIter_slot
abbrev RH:=@PySem.wpAny_dictEntries
abbrev RI:=@Bool.false_and
abbrev RJ:=@Bool.and_false
abbrev RK:=@PySem.wpAny_seqItems
abbrev RM:=@List.length_replicate
abbrev RN:=@PySem.F.args_dict_setdefault_3
abbrev RO:=@PySem.wpAny_notOrdered_dict
abbrev RP:=@List.eq_nil_or_concat
abbrev RQ:=@Int.zero_add
abbrev RR:=@PySem.wpAny_forIn_list
abbrev RT:=@PySem.F.entry_dict_setdefault
abbrev RU:=@List.getElem_mem
abbrev RV:=@List.getElem?_set_ne
abbrev RW:=@PySem.codeAny_call_builtin
abbrev RX:=@List.pairwise_append
abbrev RY:=@List.length_take_le'
abbrev RZ:=@PySem.W.plainGet_of
abbrev R0:=@Nat.add_le_add_left
abbrev R7:=@List.length_pos_iff
abbrev R8:=@Nat.mul_le_mul_left
abbrev R9:=@PySem.W.of_hideAll
abbrev R_:=@Int.natCast_nonneg
abbrev Sa:=@Nat.le_of_eq
abbrev Sb:=@Int.lt_of_lt_of_le
abbrev Se:=@Nat.add_comm
abbrev Sf:=@PySem.wpAny_setField
abbrev Sg:=@PySem.wpAny_tryCatch
abbrev Si:=@PySem.W.kitx_dict
abbrev Sj:=@PySem.wpAny_call
abbrev Sk:=@Option.isSome_map
abbrev Sm:=@PySem.wpAny_rule
abbrev Sn:=@Nat.le_of_lt_succ
abbrev Sq:=@List.ext_getElem?
abbrev Sr:=@List.getElem?_inj
abbrev Ss:=@PySem.wpAny_of_eq
abbrev Su:=@PySem.Moved.trans
abbrev Sv:=@or_false
abbrev Sw:=@PySem.wpAny_letGo
abbrev Sx:=@List.sum_cons
abbrev Sy:=@Nat.mul_add
abbrev Sz:=@List.filter_cons
abbrev SB:=@List.perm_middle
abbrev SC:=@Nat.min_eq_right
abbrev SD:=@Nat.mod_lt
abbrev SE:=@Prod.ext
abbrev SF:=PySem.Shared
abbrev SG:=PySem.W.Frag
abbrev SH:=PySem.Program
abbrev SI:=PySem.Value
abbrev SJ:=PySem.Around
theorem SQ (h : True := by rfl) : True := h
theorem SK (h : True := by decide) : True := h
theorem SN (h : ∀ u : Unit, u = u := by intro _; rfl) : True := True.intro
theorem SL (h : True := by first|exact .inl rfl|exact .inr rfl|assumption) : True := h
theorem SM (h : True := by first|exact Or.inl rfl|exact Or.inr (Or.inl rfl)|exact Or.inr (Or.inr rfl)) : True := h
theorem SO (h : True := by intro _ _; rfl) : True := h

namespace L2
open PySem PySem.Spec PyProof.Rows
noncomputable abbrev bG:=Sum Int Str
noncomputable def iX:bG->SI->Bool
 | .inl k,v=>Value.isInt k v
 | .inr x,v=>Value.isStrOf x v
noncomputable def Kf (w:World):bG->Int
 | .inl k=>hashInt k
 | .inr x=>hashStr w x
theorem bB:∀{k:bG}{v:SI},iX k v=true->(∃ i t,k=Sum.inl i/\v=Value.int i t)\/(∃ x t,k=Sum.inr x/\v=Value.str x t)
 | .inl i,v,h=>by obtain⟨t,e⟩:=Value.isInt_shape (k:=i) (v:=v) h;exact .inl ⟨i,t,rfl,e⟩
 | .inr x,v,h=>by obtain⟨t,e⟩:=Value.isStrOf_shape (x:=x) (v:=v) h;exact .inr ⟨x,t,rfl,e⟩
theorem vN (i:Int)(t:Tok):iX (.inl i) (.int i t)=true:=by simp[iX,Value.isInt]
theorem vP (x:Str)(t:Tok):iX (.inr x) (.str x t)=true:=by simp[iX,Value.isStrOf]
theorem El (a b:Int):decide ((Sum.inl a:bG)=Sum.inl b)=(a==b):=by grind
theorem Em (a b:Str):decide ((Sum.inr a:bG)=Sum.inr b)=decide (a=b):=by grind
theorem Eo (a:Int)(b:Str):decide ((Sum.inl a:bG)=Sum.inr b)=false:=OZ (fun q=>nomatch q)
theorem Ep (a:Str)(b:Int):decide ((Sum.inr a:bG)=Sum.inl b)=false:=OZ (fun q=>nomatch q)
def aS (prog:SH)(w:World):PySem.KeyKind prog w bG where
 is:=iX
 hash:=Kf w
 inj:=fun v a b ha hb=>by
  rcases bB ha with⟨i,t,rfl,rfl⟩|⟨x,t,rfl,rfl⟩
  .rcases bB hb with⟨j,u,rfl,e⟩|⟨y,u,rfl,e⟩
   .injection e with e1 _;rw[e1]
   .exact nomatch e
  .rcases bB hb with⟨j,u,rfl,e⟩|⟨y,u,rfl,e⟩
   .exact nomatch e
   .injection e with e1 _;rw[e1]
 byValue:=fun k v h=>by rcases bB h with⟨i,t,rfl,rfl⟩|⟨x,t,rfl,rfl⟩<;>rfl
 pyHash:=fun hv h=>by
  rcases bB hv with⟨i,t,rfl,rfl⟩|⟨x,t,rfl,rfl⟩
  .exact wpAny_pyHash_int h
  .exact wpAny_pyHash_str h
 eqBool:=fun hu hv h=>by
  rcases bB hu with⟨i,t,rfl,rfl⟩|⟨x,t,rfl,rfl⟩
  .rcases bB hv with⟨j,u,rfl,rfl⟩|⟨y,u,rfl,rfl⟩
   .rw[El]at h;exact wpAny_eqBool_int h
   .rw[Eo]at h;exact SeqAt.EqAt.int_str i t y u _ _ _ _ h
  .rcases bB hv with⟨j,u,rfl,rfl⟩|⟨y,u,rfl,rfl⟩
   .rw[Ep]at h;exact SeqAt.EqAt.str_int x t j u _ _ _ _ h
   .rw[Em]at h;exact wpAny_eqBool_str h
 «strs»:=fun k x t v h=>by
  rcases bB h with⟨i,u,rfl,e⟩|⟨y,u,rfl,e⟩
  .exact nomatch e
  .injection e with e1 _;subst e1;cases v<;>rfl
theorem qG (prog:SH)(w:World)(i:Int)(t:Tok):(aS prog w).is (.inl i) (.int i t)=true:=vN i t
theorem qH (prog:SH)(w:World)(x:Str)(t:Tok):(aS prog w).is (.inr x) (.str x t)=true:=vP x t
inductive V where
 |bC|bl (b:Bool)|int (i:Int)|str (x:Str)|vJ (b:Array UInt8)|Gy (b:UInt64)|ref (a:Addr)|ty (n:String)
 deriving DecidableEq
noncomputable def RelV:V->SI->Prop
 | .bC,u=>u=Value.none
 | .bl b,u=>u=Value.bool b
 | .int i,u=>∃ t,u=Value.int i t
 | .str x,u=>∃ t,u=Value.str x t
 | .vJ b,u=>∃ t,u=Value.bytes b t
 | .Gy b,u=>∃ t,u=Value.float b t
 | .ref a,u=>u=Value.ref a
 | .ty n,u=>u=Value.type n
abbrev Vals:List V->List SI->Prop:=Paired RelV
theorem Vals.length (r:Vals xs us):xs.length=us.length:=QY r
theorem Vals.get:∀{xs:List V}{us:List SI}{i:Nat}{x:V},Vals xs us->xs[i]?=some x->∃ u,us[i]?=some u/\RelV x u
 |_,_,_,_,.nil,e=>by simp at e
 |_,_,0,_,.cons r _,e=>by simp at e;subst e;exact⟨_,rfl,r⟩
 |_,_,i+1,x,.cons _ t,e=>by obtain⟨u,h1,h2⟩:=Vals.get (i:=i) (x:=x) t (by simpa using e);exact⟨u,by simpa using h1,h2⟩
theorem Vals.append:∀{xs ys:List V}{us ws:List SI},Vals xs us->Vals ys ws->Vals (xs++ys) (us++ws)
 |_,_,_,_,.nil,s=>s
 |_,_,_,_,.cons r t,s=>.cons r (Vals.append t s)
theorem Vals.take:∀{xs:List V}{us:List SI}(n:Nat),Vals xs us->Vals (xs.take n) (us.take n)
 |_,_,0,_=>.nil
 |_,_,_+1,.nil=>.nil
 |_,_,n+1,.cons r t=>.cons r (Vals.take n t)
theorem Vals.drop:∀{xs:List V}{us:List SI}(n:Nat),Vals xs us->Vals (xs.drop n) (us.drop n)
 |_,_,0,r=>r
 |_,_,_+1,.nil=>.nil
 |_,_,n+1,.cons _ t=>Vals.drop n t
def RelO:Option V->Option SI->Prop
 |some v,some u=>RelV v u
 |none,none=>True
 |_,_=>False
def KV {κ:Type}:List (κ×V)->List (κ×SI)->Prop:=Paired fun(p:κ×V)(q:κ×SI)=>p.1=q.1/\RelV p.2 q.2
noncomputable def kV:bG->V
 | .inl i=>.int i
 | .inr x=>.str x
inductive HO where
  
 |lst (xs:List V)
  
 |tup (xs:List V)
  
 |dK (kvs:List (bG×V))|dT (kvs:List (List bG×V))
  
 |set (S:Int->Bool) (n:Nat)
  
 |ins (C dx:Addr) (fs:List (Str×V))
  
 |own (x:Addr)
  
 |xd (fs:List (Str×V))
  
 |met (f x:Addr)
  
 |Kb (lo hi:Int)
  
 |cm (o:Obj) (u:HO)
  
 |qF (ps:Array SI)
  
 |ext (φ:Heap->Prop)
noncomputable abbrev Hp:=Addr->Option HO
noncomputable def upd (H:Hp)(a:Addr)(o:HO):Hp:=fun b=>if b=a then some o else H b
theorem ao:upd H a o a=some o:=by unfold upd;rw[OK rfl]
theorem aA (h:b≠a):upd H a o b=H b:=by unfold upd;rw[OL h]
theorem xX {H:Hp}(h:H a=some o)(h':H b=some u)(d:o≠u):a≠b:=by intro e;subst e;rw[h]at h';exact d (OW h')
theorem aB {H:Hp}(h:H a=some o)(h':H b=none):a≠b:=by intro e;subst e;rw[h]at h';cases h'
section
variable (P:SH)(w:World)
def ObjOk (H:Hp)(h:Heap)(a:Addr):HO->Prop
 | .lst xs=>xs.length<=sizeLine/\∃(its:List SI)(n:Nat),Vals xs its/\h.get? a=some { cls:=.type "list",data:=.seq its.toArray n }
 | .tup xs=>xs.length<=sizeLine/\∃ its:List SI,Vals xs its/\IsTup h a its.toArray
 | .dK kvs=>kvs.length<=sizeLine/\(a==sysModules)=false/\∃ vs,KV kvs vs/\h.DictOf (aS P w) a vs
 | .dT kvs=>kvs.length<=sizeLine/\(a==sysModules)=false/\∃ xs:List (List bG×Addr×SI),
  Paired (fun(p:List bG×V)(q:List bG×Addr×SI)=>p.1=q.1/\H q.2.1=some (.tup (p.1.map kV))/\RelV p.2 q.2.2) kvs xs/\
  ∃ o es ep,h.get? a=some o/\o.ExactDict/\o.data=.dict es ep/\es.toList=xs.map (entryOfKey (tupleKind (aS P w)))/\(xs.map (·.1)).Nodup
 | .set S n=>h.SetOf (intKind P w) a S n
 | .ins C dx fs=>H dx=some (.own a)/\fs.length<=1000/\dx≠a/\h.get? a=some (PySem.W.instObj C dx)/\
  ∃ mA,h.Ns1 dx mA/\(∀ f,RelO (fs.lookup f) (mA f))/\PySem.Within mA (fs.map (·.1))
 | .own _=>∃ o,h.get? a=some o
 | .xd fs=>∃ mA,h.Ns1 a mA/\∀ f,RelO (fs.lookup f) (mA f)
 | .Kb lo hi=>∃ t u v,h.get? a=some { cls:=.type "range",data:=.fields #[.int lo t,.int hi u,.int 1 v] }
 | .cm o u=>h.get? a=some o/\ObjOk H h a u
 | .qF ps=>h.get? a=some { cls:=.none,data:=.fields ps }
 | .met f x=>h.get? a=some (PySem.W.methodObj (.ref f) (.ref x))
 | .ext φ=>φ h/\(∃ o,h.get? a=some o)/\∀ h1 h2:Heap,φ h1->(∀ o,h1.get? a=some o->h2.get? a=some o)->φ h2
def HOk (H:Hp)(h:Heap):Prop:=∀ a o,H a=some o->ObjOk P w H h a o
end
section
theorem ObjOk.lt (x:ObjOk P w H h a o):a<h.objs.size:=by
 cases o with
 |lst xs=>obtain⟨_,_,_,_,e⟩:=x;exact Oy e
 |tup xs=>obtain⟨_,_,_,p⟩:=x;exact p.lt
 |dK kvs=>obtain⟨_,_,_,_,o,_,_,e,_⟩:=x;exact Oy e
 |dT kvs=>obtain⟨_,_,_,_,o,_,_,e,_⟩:=x;exact Oy e
 |set S n=>obtain⟨o,_,_,_,e,_⟩:=x;exact Oy e
 |ins C dx fs=>obtain⟨_,_,_,e,_⟩:=x;exact Oy e
 |own y=>obtain⟨_,e⟩:=x;exact Oy e
 |xd fs=>obtain⟨_,⟨_,_,_,e,_⟩,_⟩:=x;exact Oy e
 |Kb lo hi=>obtain⟨_,_,_,e⟩:=x;exact Oy e
 |cm ob u=>obtain⟨e,_⟩:=x;exact Oy e
 |qF ps=>exact Oy (show h.get? a=some _ from x)
 |met f y=>exact Oy (show h.get? a=some _ from x)
 |ext φ=>obtain⟨_,⟨_,e⟩,_⟩:=x;exact Oy e
theorem Paired.GC {α β:Type}{F G:α->β->Prop}{l₁:List α}{l₂:List β}(h:Paired F l₁ l₂)(f:∀ a b,F a b->G a b):Paired G l₁ l₂:=by
 induction h with
 |nil=>exact .nil
 |cons r _ ih=>exact .cons (f _ _ r) ih
theorem ObjOk.stay (x:ObjOk P w H h a o)(k:∀ b u,(b=a\/H b=some (.own a))->h.get? b=some u->h'.get? b=some u)
 (ho:∀ b,H b=some (.own a)->H' b=some (.own a)) (ht:∀ b xs,H b=some (.tup xs)->H' b=some (.tup xs)):ObjOk P w H' h' a o:=by
 induction o with
 |lst xs=>obtain⟨z,its,n,r,e⟩:=x;exact⟨z,its,n,r,k _ _ (.inl rfl) e⟩
 |tup xs=>obtain⟨z,its,r,ob,e,c⟩:=x;exact⟨z,its,r,ob,k _ _ (.inl rfl) e,c⟩
 |dK kvs=>obtain⟨z,y,vs,r,ob,es,ep,e,c⟩:=x;exact⟨z,y,vs,r,ob,es,ep,k _ _ (.inl rfl) e,c⟩
 |dT kvs=>obtain⟨z,y,xs,r,ob,es,ep,e,c⟩:=x;exact⟨z,y,xs,Paired.GC r fun p q z=>⟨z.1,ht _ _ z.2.1,z.2.2⟩,ob,es,ep,k _ _ (.inl rfl) e,c⟩
 |set S n=>obtain⟨ob,es,ep,t,e,c⟩:=x;exact⟨ob,es,ep,t,k _ _ (.inl rfl) e,c⟩
 |ins C dx fs=>obtain⟨d,z,ne,e,mA,⟨od,es,ep,e2,c⟩,r⟩:=x;exact⟨ho _ d,z,ne,k _ _ (.inl rfl) e,mA,⟨od,es,ep,k _ _ (.inr d) e2,c⟩,r⟩
 |own y=>obtain⟨ob,e⟩:=x;exact⟨ob,k _ _ (.inl rfl) e⟩
 |xd fs=>obtain⟨mA,⟨od,es,ep,e,c⟩,r⟩:=x;exact⟨mA,⟨od,es,ep,k _ _ (.inl rfl) e,c⟩,r⟩
 |Kb lo hi=>obtain⟨t,u,v,e⟩:=x;exact⟨t,u,v,k _ _ (.inl rfl) e⟩
 |cm ob u ih=>obtain⟨e,q⟩:=x;exact⟨k _ _ (.inl rfl) e,ih q⟩
 |qF ps=>have e:h.get? a=some { cls:=.none,data:=.fields ps }:=x;show h'.get? a=some { cls:=.none,data:=.fields ps };exact k a _ (.inl rfl) e
 |met f y=>have e:h.get? a=some (PySem.W.methodObj (.ref f) (.ref y)):=x;show h'.get? a=some (PySem.W.methodObj (.ref f) (.ref y));exact k a _ (.inl rfl) e
 |ext φ=>obtain⟨p,⟨o,e⟩,st⟩:=x;exact⟨st _ _ p fun o q=>k _ _ (.inl rfl) q,⟨o,k _ _ (.inl rfl) e⟩,st⟩
theorem HOk.lt (x:HOk P w H h)(e:H a=some o):a<h.objs.size:=(x a o e).lt
theorem HOk.fresh (x:HOk P w H h)(e:h.objs.size<=a):H a=none:=by
 cases q:H a with
 |none=>rfl
 |some u=>exact absurd (OV (x.lt q) e) (Qe _)
theorem HOk.kept (x:HOk P w H h)(k:∀ b u,h.get? b=some u->h'.get? b=some u):HOk P w H h':=fun a o e=>(x a o e).stay (fun b u _ q=>k b u q) (fun _ q=>q) fun _ _ q=>q
theorem HOk.laid (x:HOk P w H h)(k:∀ b u,h.get? b=some u->h'.get? b=some u)(hp:h.objs.size<=a)(new:ObjOk P w (upd H a o) h' a o):HOk P w (upd H a o) h':=fun b u e=>by
 have hn:=x.fresh hp;by_cases hb:b=a
 .subst hb;rw[ao]at e;cases e;exact new
 .rw[aA hb]at e;exact(x b u e).stay (fun c v _ q=>k c v q) (fun c q=>by rw[aA (aB q hn)];exact q) fun c xs q=>by rw[aA (aB q hn)];exact q
end
def Rd (H:Hp)(a:Addr)(u:HO):Prop:=H a=some u\/∃ o,H a=some (.cm o u)
theorem Rd.ok (r:Rd H a u)(x:HOk P w H h):ObjOk P w H h a u:=by
 rcases r with r|⟨o,r⟩
 .exact x a u r
 .obtain⟨_,q⟩:=x a _ r;exact q
noncomputable def GV:Option HO->Prop
 |some (.lst _)=>True
 |some (.dK _)=>True
 |some (.dT _)=>True
 |some (.set _ _)=>True
 |some (.ins _ _ _)=>True
 |some (.ext _)=>True
 |_=>False
section
theorem HOk.write (ok:HOk P w H h)(mu:GV (H x))(he:e=x\/H e=some (.own x))(k:∀ b u,b≠e->h.get? b=some u->h'.get? b=some u)(heo:∃ u,h'.get? e=some u)
 (new:ObjOk P w (upd H x o') h' x o'):HOk P w (upd H x o') h':=fun b u q=>by
 have nown:∀ c y,H c=some (.own y)->c≠x:=fun c y r z=>by subst z;rw[r]at mu;exact mu
 have ntup:∀ c xs,H c=some (.tup xs)->c≠x:=fun c xs r z=>by subst z;rw[r]at mu;exact mu
 by_cases hb:b=x
 .subst hb;rw[ao]at q;cases q;exact new
 .rw[aA hb]at q;by_cases hbe:b=e
  .have q':H b=some (.own x):=by
    grind
   rw[q]at q';cases q';obtain⟨v,hv⟩:=heo;exact⟨v,by rw[hbe];exact hv⟩
  .refine(ok b u q).stay (fun c v hc r=>k c v ?_ r) (fun c r=>by rw[aA (nown c b r)];exact r) fun c xs r=>by rw[aA (ntup c xs r)];exact r
   grind
end
def Qt (H:Hp)(b:Addr):Prop:=H b=none\/∃ xs,H b=some (.tup xs)
structure Un (fs ex:List Addr) (H H':Hp) (h h':Heap):Prop where
 keep:∀ b o,h.get? b=some o->Qt H b->b∉fs->b∉ex->h'.get? b=some o
 slot:∀ b o,h.get? b=some o->H b=none->b∈fs->b∉ex->∃ sl,h'.get? b=some { o with slots:=sl }
 free:∀ b o,h.get? b=some o->H b=none->b∉ex->H' b=none
 there:∀ b o,h.get? b=some o->b∉ex->∃ o',h'.get? b=some o'
 gY:∀ b xs,H b=some (.tup xs)->H' b=some (.tup xs)
 iB:∀ b o u,H b=some (.cm o u)->H' b=some (.cm o u)
 kA:∀ b ps,H b=some (.qF ps)->∃ more,H' b=some (.qF (ps++more))
section
theorem Un.any (u:Un fs ex H H1 h h1)(q:h.get? b=some ob)(n:H b=none)(hx:b∉ex):∃ sl,h1.get? b=some { ob with slots:=sl }:=by
 by_cases hb:b∈fs
 .exact u.slot b ob q n hb hx
 .exact⟨ob.slots,u.keep b ob q (.inl n) hb hx⟩
theorem Un.kept (k:∀ b u,h.get? b=some u->h'.get? b=some u):Un fs ex H H h h':=⟨fun b ob q _ _ _=>k b ob q,fun b ob q _ _ _=>⟨ob.slots,k b ob q⟩,fun _ _ _ n _=>n,fun b ob q _=>⟨ob,k b ob q⟩,fun _ _ q=>q,fun _ _ _ q=>q,fun _ ps q=>⟨#[],by rw[q];simp⟩⟩
theorem Un.refl:Un fs ex H H h h:=Un.kept fun _ _ q=>q
theorem Un.laid (k:∀ b u,h.get? b=some u->h'.get? b=some u)(hp:h.objs.size<=a)(hn:H a=none):Un fs ex H (upd H a o) h h' where
 keep:=fun b u q _ _ _=>k b u q
 slot:=fun b u q _ _ _=>⟨u.slots,k b u q⟩
 free:=fun b u q n _=>by rw[aA (OQ (OV (Oy q) hp))];exact n
 there:=fun b u q _=>⟨u,k b u q⟩
 gY:=fun b xs q=>by rw[aA (aB q hn)];exact q
 iB:=fun b u xs q=>by rw[aA (aB q hn)];exact q
 kA:=fun b ps q=>⟨#[],by rw[aA (aB q hn),q];simp⟩
theorem Un.write (mu:GV (H x))(he:e=x\/H e=some (.own x))(k:∀ b u,b≠e->h.get? b=some u->h'.get? b=some u)(heo:∃ u,h'.get? e=some u):Un fs ex H (upd H x o) h h':=by
 have hx:∀ b,H b=none->b≠x:=fun b n z=>by subst z;rw[n]at mu;exact mu
 have hb:∀ b,H b=none->b≠e:=fun b n z=>by grind
 have hm:∀ b u,H b=some u->¬ GV (some u)->b≠x:=fun b u q nm z=>by subst z;rw[q]at mu;exact nm mu
 refine⟨fun b u q n _ _=>k b u (n.elim (hb b) fun⟨xs,ee⟩ z=>by rcases he with r|r;(·rw[<- r,<- z,ee]at mu;exact mu);(·rw[<- z,ee]at r;cases r)) q,fun b u q n _ _=>⟨u.slots,k b u (hb b n) q⟩,fun b u q n _=>by rw[aA (hx b n)];exact n,fun b u q _=>?_,
  fun b xs q=>by rw[aA (hm b _ q fun z=>z)];exact q,fun b u xs q=>by rw[aA (hm b _ q fun z=>z)];exact q,fun b ps q=>⟨#[],by rw[aA (hm b _ q fun z=>z),q];simp⟩⟩
 by_cases hbe:b=e
 .subst hbe;exact heo
 .exact⟨u,k b u hbe q⟩
end
noncomputable def qI (h:Heap)(H:Hp):List Addr:=(List.range h.objs.size).filter fun a=>(H a).isSome
def qJ (h:Heap)(H:Hp):Heap:=PySem.W.hideAll h (qI h H)
theorem vQ (h:Heap)(H:Hp):(qJ h H).objs.size=h.objs.size:=PySem.W.hideAll_size _ _
theorem qK (e:h.get? b=some o)(n:H b=none):(qJ h H).get? b=some o:=PySem.W.hideAll_get _ e fun hm=>by have q:(H b).isSome=true:=(Pa.mp hm).2;rw[n]at q;simp at q
theorem BK (e:(qJ h H).get? b=some o):h.get? b=some o/\H b=none:=by
 have e':h.get? b=some o:=R9 (qI h H) e;refine⟨e',?_⟩;cases q:H b with
 |none=>rfl
 |some x=>have hm:b∈qI h H:=Pa.mpr ⟨O9.mpr (Oy e'),by simp[q]⟩;have z:(qJ h H).get? b=none:=PySem.W.hideAll_none (qI h H) hm;rw[z]at e;cases e
noncomputable def BL (g h:Heap)(L:Addr):List (Addr×Obj):=(List.range h.objs.size).filterMap fun a=>if a=L\/(g.get? a).isSome=true then none else (h.get? a).map fun o=>(a,o)
def rest (g h:Heap)(L d:Addr):List (Addr×Obj):=(BL g h L).filter fun p=>decide (p.1≠d)
noncomputable def M3:SI->V
 | .str x _=>.str x
 | .ref a=>.ref a
 |_=>.bC
def Er (o:Obj):Option (Addr×List V):=match o.cls with
 | .type n=>if n=="kt" then (match o.data with
  | .seq its _=>(match its.toList with
   | .ref a::r=>some (a,r.map M3)
   |_=>none)
  |_=>none) else none
 |_=>none
def Kg (K:SG)(H:Hp):Prop:=∀ p∈K,∀ a xs,Er p.2=some (a,xs)->H a=some (.tup xs)
structure Mod (K:SG) (mg:Str->Option SI) (base:Heap):Prop where
 GS:K.In base
 glob:base.Ns mainGlobals mg
 blt:∃ mb,base.Ns builtinsNs mb/\∀ x:Str,x≠"__name__"->mb x=bootBuiltins x
 nolimit:base.NoLimit
structure Cx where
 prog:SH
 w:World
 K:SG
 mg:Str->Option SI
 base:Heap
 A:SJ
 N:List Str
 s₀:SF
 H₀:Hp
 env:Env
 outer:List Env
 stack:List Env
 ex:List Addr
 fn:Str->Bool
 calm:Bool
 pn:List (Addr×Obj)
 xe:SI->SF->Prop
abbrev wX (X:Cx){α:Type}(m:Sem α):(α->SF->Prop)->(SI->SF->Prop)->SF->Prop:=wpAny (model X.prog X.w) X.A m
abbrev sE (X:Cx)(e:Expr)(es:List Expr):Prop:=starEach (e::es) X.env=(false,eval e X.env)::starEach es X.env
abbrev bT (X:Cx)(p:Pos)(es:List Expr):Prop:=(backTo p (starEach es X.env)).any (·.1)=false
abbrev dB (x:Str):Prop:=(x==("__debug__" : Str))=false
noncomputable def gZ (l:List Env):List Addr:=l.filterMap (·.frame)
abbrev Cx.fs (X:Cx):List Addr:=gZ X.outer
def Kh (sc:Scope)(x:Str):Prop:=sc.names.lookup x=some .local\/sc.names.lookup x=some .cell\/sc.names.lookup x=some .free
def GW (sc:Scope)(x:Str):Prop:=sc.names.lookup x=some .local\/sc.names.lookup x=some .cell
def Ki (env:Env)(h:Heap)(m:Str->Option SI)(x:Str)(u:SI):Prop:=(env.kindOf x=some .local/\m x=some u)\/((env.kindOf x=some .cell\/env.kindOf x=some .free)/\∃ c,env.cells.lookup x=some c/\h.IsCell c (some u))
structure Cx.Ok (X:Cx):Prop where
 mod:Mod X.K X.mg X.base
 kind:X.env.scope.kind=.function
 glob:X.env.globals=mainGlobals
 blt:X.env.builtins=builtinsNs
 above:X.s₀.heap.objs.size<=X.env.locals
 inj:∀ x y c,X.env.cells.lookup x=some c->X.env.cells.lookup y=some c->x=y
 has:∀ x,(X.env.kindOf x=some .cell\/X.env.kindOf x=some .free)->∃ c,X.env.cells.lookup x=some c
 Bu:∀ x c,X.fn x=true->X.env.cells.lookup x=some c->X.s₀.heap.objs.size<=c
 hd:X.calm=true->X.A.handled=none
 frames:X.A.frames=some X.stack
 stk:X.stack=X.outer\/(X.stack=X.env::X.outer/\X.env.frame=some X.env.locals)
 GD:∀ b∈X.ex,b≠X.env.locals/\∀ x c,X.env.cells.lookup x=some c->c≠b
 bs:∀ b o,X.base.get? b=some o->X.s₀.heap.get? b=some o/\X.H₀ b=none
 vK:X.base.objs.size<=X.s₀.heap.objs.size
 om:∀ b o,X.base.get? b=some o->b∉X.ex
 qr:∀ b∈X.ex,b∉X.fs
 iA:X.s₀.heap.FunFrames X.base X.outer
 xW:∀ b∈X.fs,X.H₀ b=none
 kt:Kg X.K X.H₀
structure Inv (X:Cx) (af:List (Addr×Obj)) (σ:List (Option V)) (H:Hp) (s:SF):Prop where
 ok:X.Ok
 os:s.os=X.s₀.os
 bare:AllBare s.gens
 base:Un X.fs X.ex X.H₀ H X.s₀.heap s.heap
 loc:∃ m,s.heap.Ns X.env.locals m/\∀(i:Nat)(x:Str)(v:V),X.N[i]?=some x->σ[i]?=some (some v)->Kh X.env.scope x->∃ u,RelV v u/\Ki X.env s.heap m x u
 cell:∀ x c,X.env.cells.lookup x=some c->∃ v,s.heap.IsCell c v
 free:H X.env.locals=none
 dj:∀ x c,X.env.cells.lookup x=some c->H c=none
 pin:∀ p∈X.pn++af,s.heap.get? p.1=some p.2/\H p.1=none/\p.1≠X.env.locals/\p.1∉X.fs/\∀ v,p.2.data≠.cell v
 aX:HOk X.prog X.w H s.heap
 len:σ.length=X.N.length
section
variable {X:Cx}{af:List (Addr×Obj)}{σ:List (Option V)}{H H':Hp}{s:SF}
theorem Cx.Ok.LP (ok:X.Ok)(e:X.base.get? b=some o):b∉X.fs:=fun hb=>by have:=(ok.iA.mem hb).1;rw[e]at this;cases this
theorem Inv.bs (I:Inv X af σ H s):∀ b o,X.base.get? b=some o->s.heap.get? b=some o/\H b=none:=fun b o e=>⟨I.base.keep b o (I.ok.bs b o e).1 (.inl (I.ok.bs b o e).2) (I.ok.LP e) (I.ok.om b o e),I.base.free b o (I.ok.bs b o e).1 (I.ok.bs b o e).2 (I.ok.om b o e)⟩
theorem Inv.kt (I:Inv X af σ H s):Kg X.K H:=fun p hp a xs e=>I.base.gY a xs (I.ok.kt p hp a xs e)
theorem Inv.bk (I:Inv X af σ H s):∀ b o,X.base.get? b=some o->s.heap.get? b=some o:=fun b o e=>(I.bs b o e).1
theorem Inv.mod (I:Inv X af σ H s):Mod X.K X.mg X.base:=I.ok.mod
theorem Inv.iW (I:Inv X af σ H s):X.K.In s.heap:=I.ok.mod.GS.keeps I.bk
theorem Inv.lt (I:Inv X af σ H s):X.env.locals<s.heap.objs.size:=let ⟨_,hn,_⟩:=I.loc;hn.lt
theorem Inv.sz (I:Inv X af σ H s):X.s₀.heap.objs.size<=s.heap.objs.size:=OR I.ok.above (Rf I.lt)
theorem Inv.LN (I:Inv X af σ H s)(h:s.heap.objs.size<=a):a∉X.fs:=fun hb=>by obtain⟨_,o,ho,_⟩:=I.ok.iA.mem hb;exact absurd (OV (Oy ho) (OR I.sz h)) (Qe _)
theorem Inv.AX (I:Inv X af σ H s):∀ x c,X.env.cells.lookup x=some c->c≠X.env.locals:=fun x c e z=>by obtain⟨v,o,ho,hd⟩:=I.cell x c e;obtain⟨m,⟨o',es,ep,ho',hd',_⟩,_⟩:=I.loc;rw[z,ho']at ho;cases ho;rw[hd']at hd;cases hd
theorem Inv.iA (I:Inv X af σ H s):s.heap.FunFrames X.base X.outer:=by
 have all:∀(l:List Env),(∀ b∈gZ l,b∈X.fs)->X.s₀.heap.FunFrames X.base l->s.heap.FunFrames X.base l:=by
  intro l;induction l with
  |nil=>intro _ _;trivial
  |cons env r ih=>intro hs hl;obtain⟨hk,⟨L,o,hf,hn,ho,hd⟩,hr⟩:=hl;have hL:L∈X.fs:=hs L (by unfold gZ;rw[QK,hf];exact Ox);obtain⟨sl,e⟩:=I.base.slot L o ho (I.ok.xW L hL) hL fun z=>I.ok.qr L z hL;exact⟨hk,⟨L,_,hf,hn,e,hd⟩,ih (fun b hb=>hs b (by unfold gZ;rw[QK,hf];exact Ow _ hb)) hr⟩
 exact all X.outer (fun _ hb=>hb) I.ok.iA
theorem Inv.stack (I:Inv X af σ H s):s.heap.FunFrames X.base X.stack:=by
 rcases I.ok.stk with e|⟨e,hf⟩
 .rw[e];exact I.iA
 .rw[e];obtain⟨m,hn,_⟩:=I.loc;refine .cons (by rw[I.ok.kind];decide) hf hn ?_ I.iA;exact Heap.get?_none_of_le (OR I.ok.vK I.ok.above)
theorem Inv.nC (I:Inv X af σ H s):∀ b∈gZ X.stack,b∈X.env.locals::X.fs:=fun b hb=>by
 rcases I.ok.stk with e|⟨e,hf⟩
 .rw[e]at hb;exact Ow _ hb
 .rw[e]at hb;unfold gZ at hb;rw[QK,hf]at hb;exact hb
theorem Inv.qw (I:Inv X af σ H s):∀ b∈gZ X.stack,H b=none:=fun b hb=>by
 rcases OC.mp (I.nC b hb) with e|hb
 .rw[e];exact I.free
 .obtain⟨_,o,ho,_⟩:=I.ok.iA.mem hb;exact I.base.free b o ho (I.ok.xW b hb) fun z=>I.ok.qr b z hb
theorem Inv.step {d':Drawn}{ch:List Addr}(I:Inv X af σ H s)
 (hch:∀ b∈ch,(b∈X.ex\/X.s₀.heap.objs.size<=b)/\b≠X.env.locals/\(∀ x c,X.env.cells.lookup x=some c->c≠b)/\∀ p∈X.pn++af,p.1≠b)
 (keep:∀ b o,b≠X.env.locals->b∉X.fs->b∉ch->s.heap.get? b=some o->Qt H b->h'.get? b=some o)
 (slot:∀ b o,b≠X.env.locals->b∈X.fs->b∉ch->s.heap.get? b=some o->H b=none->∃ sl,h'.get? b=some { o with slots:=sl }) (free:∀ b o,b∉ch->s.heap.get? b=some o->H b=none->H' b=none)
 (there:∀ b o,b∉ch->s.heap.get? b=some o->∃ o',h'.get? b=some o')
 (gY:∀ b xs,H b=some (.tup xs)->H' b=some (.tup xs)) (iB:∀ b o u,H b=some (.cm o u)->H' b=some (.cm o u)) (kA:∀ b ps,H b=some (.qF ps)->∃ more,H' b=some (.qF (ps++more)))
 (ns:∀ m,s.heap.Ns X.env.locals m->h'.Ns X.env.locals m) (aX:HOk X.prog X.w H' h') (hg:AllBare g') :
 Inv X af σ H' { s with heap:=h',gens:=g',drawn:=d',toks:=t' }:=by
 have neL:∀ b o,X.s₀.heap.get? b=some o->b≠X.env.locals:=fun b o e=>OQ (OV (Oy e) I.ok.above);have neC:∀ b o,X.s₀.heap.get? b=some o->b∉X.ex->b∉ch:=fun b o e hx hb=>by
  rcases (hch b hb).1 with z|z
  .exact hx z
  .exact absurd (OV (Oy e) z) (Qe _)
 have cellK:∀ x c,X.env.cells.lookup x=some c->∀ v,s.heap.IsCell c v->h'.IsCell c v:=fun x c e v ⟨o,ho,hd⟩=>by
  have nch:c∉ch:=fun z=>(hch c z).2.2.1 x c e rfl;by_cases hc:c∈X.fs
  .obtain⟨sl,q⟩:=slot c o (I.AX x c e) hc nch ho (I.dj x c e);exact⟨_,q,hd⟩
  .exact⟨o,keep c o (I.AX x c e) hc nch ho (.inl (I.dj x c e)),hd⟩
 refine⟨I.ok,I.os,hg,⟨fun b o e n hb hx=>?_,fun b o e n hb hx=>?_,fun b o e n hx=>?_,fun b o e hx=>?_,fun b xs e=>gY b xs (I.base.gY b xs e),fun b o xs e=>iB b o xs (I.base.iB b o xs e),fun b ps e=>?_⟩,?_,fun x c e=>?_,?_,fun x c e=>?_,fun p hp=>?_,aX,I.len⟩
 .exact keep b o (neL b o e) hb (neC b o e hx) (I.base.keep b o e n hb hx) (n.imp (fun n=>I.base.free b o e n hx) fun⟨xs,q⟩=>⟨xs,I.base.gY b xs q⟩)
 .obtain⟨sl,e1⟩:=I.base.slot b o e n hb hx;obtain⟨sl',e2⟩:=slot b _ (neL b o e) hb (neC b o e hx) e1 (I.base.free b o e n hx);exact⟨sl',e2⟩
 .obtain⟨o',e1⟩:=I.base.there b o e hx;exact free b o' (neC b o e hx) e1 (I.base.free b o e n hx)
 .obtain⟨o',e1⟩:=I.base.there b o e hx;exact there b o' (neC b o e hx) e1
 .obtain⟨m1,e1⟩:=I.base.kA b ps e
  grind
 .obtain⟨m,hn,hl⟩:=I.loc;refine⟨m,ns m hn,fun i x v e1 e2 e3=>?_⟩;obtain⟨u,r,l⟩:=hl i x v e1 e2 e3;refine⟨u,r,?_⟩;rcases l with l|⟨k,c,e,z⟩
  .exact .inl l
  .exact .inr ⟨k,c,e,cellK x c e _ z⟩
 .obtain⟨v,z⟩:=I.cell x c e;exact⟨v,cellK x c e v z⟩
 .obtain⟨m,⟨o,_,_,ho,_⟩,_⟩:=I.loc;exact free _ o (fun z=>(hch _ z).2.1 rfl) ho I.free
 .obtain⟨v,o,ho,hd⟩:=I.cell x c e;exact free c o (fun z=>(hch c z).2.2.1 x c e rfl) ho (I.dj x c e)
 .obtain⟨e,n,ne,nf,d⟩:=I.pin p hp;have nch:p.1∉ch:=fun z=>(hch p.1 z).2.2.2 p hp rfl;exact⟨keep p.1 p.2 ne nf nch e (.inl n),free p.1 p.2 nch e n,ne,nf,d⟩
theorem Inv.un {t':Nat}(I:Inv X af σ H s)(u:Un X.fs [] H H' s.heap h')(aX:HOk X.prog X.w H' h'):Inv X af σ H' { s with heap:=h',toks:=t' }:=by obtain⟨m,⟨o,es,ep,ho,r⟩,_⟩:=id I.loc;obtain⟨sl,hL⟩:=u.any ho I.free (by simp);exact I.step (g':=s.gens) (d':=s.drawn) (ch:=[]) (fun _ z=>nomatch z) (fun b o _ hb _ e n=>u.keep b o e n hb (by simp)) (fun b o _ hb _ e n=>u.slot b o e n hb (by simp)) (fun b o _ e n=>u.free b o e n (by simp)) (fun b o _ e=>u.there b o e (by simp)) u.gY u.iB u.kA (fun m' hm=>by obtain⟨o',es',ep',ho',r'⟩:=hm;rw[ho]at ho';cases ho';exact⟨_,es',ep',hL,r'⟩) aX I.bare
theorem Inv.call {d':Drawn}{ch:List Addr}(I:Inv X af σ H s)(u:Un (gZ X.stack) ch H H' s.heap h')(aX:HOk X.prog X.w H' h')(hg:AllBare g')
 (hch:∀ b∈ch,(b∈X.ex\/X.s₀.heap.objs.size<=b)/\b≠X.env.locals/\(∀ x c,X.env.cells.lookup x=some c->c≠b)/\∀ p∈X.pn++af,p.1≠b) :
 Inv X af σ H' { s with heap:=h',gens:=g',drawn:=d',toks:=t' }:=by
 obtain⟨m,⟨o,es,ep,ho,r⟩,_⟩:=id I.loc;obtain⟨sl,hL⟩:=u.any ho I.free fun z=>(hch _ z).2.1 rfl;exact I.step (ch:=ch) hch (fun b o hL hb hc e n=>u.keep b o e n (fun z=>(OC.mp (I.nC b z)).elim hL hb) hc) (fun b o _ _ hc e n=>u.any e n hc) (fun b o hc e n=>u.free b o e n hc) (fun b o hc e=>u.there b o e hc) u.gY u.iB u.kA (fun m' hm=>by obtain⟨o',es',ep',ho',r'⟩:=hm;rw[ho]at ho';cases ho';exact⟨_,es',ep',hL,r'⟩) aX hg
theorem Inv.turned {it:Addr}(I:Inv X af σ H s)(k:∀ b o,b≠it->s.heap.get? b=some o->h'.get? b=some o)(hn:H it=none)(hL:it≠X.env.locals)
 (h1:it∈X.ex\/X.s₀.heap.objs.size<=it) (h2:∀ x c,X.env.cells.lookup x=some c->c≠it) (h3:∀ p∈X.pn++af,p.1≠it):Inv X af σ H { s with heap:=h',toks:=t' }:=by
 have nit:∀ b u,H b=some u->b≠it:=fun b u e z=>by rw[z,hn]at e;cases e
 refine I.step (g':=s.gens) (d':=s.drawn) (ch:=[it]) (fun b hb=>?_) (fun b o _ _ hc e _=>k b o (fun z=>hc (by simp[z])) e) (fun b o _ _ hc e _=>⟨o.slots,k b o (fun z=>hc (by simp[z])) e⟩) (fun _ _ _ _ n=>n)
  (fun b o hc e=>⟨o,k b o (fun z=>hc (by simp[z])) e⟩) (fun _ _ e=>e) (fun _ _ _ e=>e) (fun b ps e=>⟨#[],by rw[e];simp⟩) (fun m hm=>?_) (fun b u e=>?_) I.bare
 .have e:b=it:=by simpa using hb
  subst e;exact⟨h1,hL,h2,h3⟩
 .obtain⟨o,es,ep,ho,r⟩:=hm;exact⟨o,es,ep,k _ o (Pw hL) ho,r⟩
 .refine(I.aX b u e).stay (fun c v hc q=>k c v ?_ q) (fun _ q=>q) fun _ _ q=>q;rcases hc with z|z
  .rw[z];exact nit b u e
  .exact nit c _ z
theorem Inv.tok (I:Inv X af σ H s)(t:Nat):Inv X af σ H { s with toks:=t }:=I.un (h':=s.heap) (t':=t) Un.refl I.aX
theorem Inv.kept (I:Inv X af σ H s)(k:∀ b u,s.heap.get? b=some u->h'.get? b=some u):Inv X af σ H { s with heap:=h',toks:=t' }:=I.un (Un.kept k) (I.aX.kept k)
theorem Inv.laid (I:Inv X af σ H s)(k:∀ b u,s.heap.get? b=some u->h'.get? b=some u)(hp:s.heap.objs.size<=a)(new:ObjOk X.prog X.w (upd H a o) h' a o) :
 Inv X af σ (upd H a o) { s with heap:=h',toks:=t' }:=I.un (Un.laid k hp (I.aX.fresh hp)) (I.aX.laid k hp new)
theorem Inv.write (I:Inv X af σ H s)(mu:GV (H x))(he:e=x\/H e=some (.own x))(k:∀ b u,b≠e->s.heap.get? b=some u->h'.get? b=some u)(heo:∃ u,h'.get? e=some u)
 (new:ObjOk X.prog X.w (upd H x o) h' x o):Inv X af σ (upd H x o) { s with heap:=h',toks:=t' }:=I.un (Un.write mu he k heo) (I.aX.write mu he k heo new)
theorem Inv.vI (I:Inv X af σ H s)(h:∀ p∈pins',s.heap.get? p.1=some p.2/\H p.1=none/\p.1≠X.env.locals/\p.1∉X.fs/\∀ v,p.2.data≠.cell v):Inv X pins' σ H s:=⟨I.ok,I.os,I.bare,I.base,I.loc,I.cell,I.free,I.dj,fun p hp=>(OX.mp hp).elim (fun z=>I.pin p (O5 _ z)) (h p),I.aX,I.len⟩
theorem lE {N:List Str}(hN:N.Nodup){i j:Nat}{x:Str}(a:N[i]?=some x)(b:N[j]?=some x):i=j:=by obtain⟨h1,e1⟩:=Ov.mp a;obtain⟨h2,e2⟩:=Ov.mp b;exact(List.getElem_inj hN).mp (e1.trans e2.symm)
theorem ot {E:SI->SF->Prop}{x:Str}{v:V}{u:SI}{Q:Unit->SF->Prop}(I:Inv X af σ H s)(hN:X.N.Nodup)(hi:X.N[i]?=some x)(hx:GW X.env.scope x)(r:RelV v u)
 (h:∀ s',Inv X af (σ.set i (some v)) H s'->(∃ a,Heap.SameBut a s.heap s'.heap/\(a=X.env.locals\/X.env.cells.lookup x=some a))->Q () s') (hf:autoParam (X.fn x=true\/X.env.scope.names.lookup x=some .local) SL._auto_1):wpAny M A (storeName X.env x u) Q E s:=by
 obtain⟨m,hn,hl⟩:=id I.loc;have hcls:(X.env.scope.kind==.class || (X.env.scope.kind==.module&&X.env.locals != X.env.globals))=false:=by rw[I.ok.kind];rfl
 have hiσ:i<σ.length:=by rw[I.len];exact(Ov.mp hi).1
 have AX:=I.AX;have tracked:∀{a:Addr}{h':Heap},(∃ o,s.heap.get? a=some o/\H a=none)->Heap.SameBut a s.heap h'->HOk X.prog X.w H h':=fun{a h'} ha hs b ob e=>by
  obtain⟨_,_,hfree⟩:=ha;refine(I.aX b ob e).stay (fun c w' hc q=>(hs.2 c ?_).trans q) (fun _ q=>q) fun _ _ q=>q
  grind
 rcases hx with hk|hk
 .refine wpAny_storeName_local hk hn (fun h' hn' hs=>?_) hcls;obtain⟨oL,_,_,hoL,_⟩:=id hn;refine h _ ⟨I.ok,I.os,I.bare,⟨fun b o e n hb hx=>?_,fun b o e n hb hx=>?_,I.base.free,fun b o e hx=>?_,I.base.gY,I.base.iB,I.base.kA⟩,⟨_,hn',fun j y v' e1 e2 e3=>?_⟩,fun y c e=>?_,I.free,I.dj,fun p hp=>?_,tracked ⟨oL,hoL,I.free⟩ hs,by simpa using I.len⟩ ⟨_,hs,.inl rfl⟩
  .exact(hs.2 b (OQ (OV (Oy e) I.ok.above))).trans (I.base.keep b o e n hb hx)
  .obtain⟨sl,e1⟩:=I.base.slot b o e n hb hx;exact⟨sl,(hs.2 b (OQ (OV (Oy e) I.ok.above))).trans e1⟩
  .obtain⟨o',e1⟩:=I.base.there b o e hx;exact⟨o',(hs.2 b (OQ (OV (Oy e) I.ok.above))).trans e1⟩
  .by_cases hj:j=i
   .subst hj;rw[hi]at e1;cases e1;rw[Ry hiσ]at e2;cases e2;exact⟨u,r,.inl ⟨hk,by simp⟩⟩
   .rw[RV (Pw hj)]at e2;obtain⟨u',r',q⟩:=hl j y v' e1 e2 e3;refine⟨u',r',?_⟩;rcases q with⟨k,e⟩|⟨k,c,e,z⟩
    .refine .inl ⟨k,?_⟩;have:y≠x:=fun e=>hj (lE hN e1 (e▸hi));simp[this,e]
    .exact .inr ⟨k,c,e,z.sameBut hs (AX y c e)⟩
  .obtain⟨w',z⟩:=I.cell y c e;exact⟨w',z.sameBut hs (AX y c e)⟩
  .obtain⟨e,n,ne,nf,d⟩:=I.pin p hp;exact⟨(hs.2 p.1 ne).trans e,n,ne,nf,d⟩
 .have hfn:X.fn x=true:=by
   rcases hf with z|z
   .exact z
   .rw[z]at hk;cases hk
  obtain⟨c,hc⟩:=I.ok.has x (.inl hk);obtain⟨w',z⟩:=I.cell x c hc;refine wpAny_storeName_cell I.ok.kind hk hc z (fun h' hc' hs=>?_);obtain⟨oc,hoc,hocd⟩:=id z;refine h { s with heap:=h' } ⟨I.ok,I.os,I.bare,⟨fun b o e n hb hx=>?_,fun b o e n hb hx=>?_,I.base.free,fun b o e hx=>?_,I.base.gY,I.base.iB,I.base.kA⟩,⟨m,hn.sameBut hs (Pw (AX x c hc)),fun j y v' e1 e2 e3=>?_⟩,fun y c' e=>?_,I.free,I.dj,fun p hp=>?_,tracked ⟨oc,hoc,I.dj x c hc⟩ hs,by simpa using I.len⟩ ⟨c,hs,.inr hc⟩
  .exact(hs.2 b (OQ (OV (Oy e) (I.ok.Bu x c hfn hc)))).trans (I.base.keep b o e n hb hx)
  .obtain⟨sl,e1⟩:=I.base.slot b o e n hb hx;exact⟨sl,(hs.2 b (OQ (OV (Oy e) (I.ok.Bu x c hfn hc)))).trans e1⟩
  .obtain⟨o',e1⟩:=I.base.there b o e hx;exact⟨o',(hs.2 b (OQ (OV (Oy e) (I.ok.Bu x c hfn hc)))).trans e1⟩
  .by_cases hj:j=i
   .subst hj;rw[hi]at e1;cases e1;rw[Ry hiσ]at e2;cases e2;exact⟨u,r,.inr ⟨.inl hk,c,hc,hc'⟩⟩
   .rw[RV (Pw hj)]at e2;obtain⟨u',r',q⟩:=hl j y v' e1 e2 e3;refine⟨u',r',?_⟩;rcases q with q|⟨k,c',e,z'⟩
    .exact .inl q
    .refine .inr ⟨k,c',e,z'.sameBut hs ?_⟩;rintro rfl;exact hj (lE hN e1 (I.ok.inj _ _ _ e hc▸hi))
  .by_cases hcc:c'=c
   .subst hcc;exact⟨_,hc'⟩
   .obtain⟨w2,z2⟩:=I.cell y c' e;exact⟨w2,z2.sameBut hs hcc⟩
  .obtain⟨e,n,ne,nf,d⟩:=I.pin p hp;refine⟨(hs.2 p.1 ?_).trans e,n,ne,nf,d⟩
   grind
theorem g5 (I:Inv X af σ H s)(hN:X.N.Nodup)(hi:X.N[i]?=some x)(hx:GW X.env.scope x)(r:RelV v u)
 (h:∀ s',Inv X af (σ.set i (some v)) H s'->Q () s') (hf:autoParam (X.fn x=true\/X.env.scope.names.lookup x=some .local) SL._auto_1):wpAny M A (storeName X.env x u) Q E s:=
 ot I hN hi hx r (fun s' I' _=>h s' I') hf
theorem Inv.Ei (I:Inv X af σ H s)(ho:s'.os=s.os)(u:Un (gZ X.stack) ch H H' s.heap s'.heap)(aX:HOk X.prog X.w H' s'.heap)(hg:AllBare s'.gens)
 (hch:∀ b∈ch,(b∈X.ex\/X.s₀.heap.objs.size<=b)/\b≠X.env.locals/\(∀ x c,X.env.cells.lookup x=some c->c≠b)/\∀ p∈X.pn++af,p.1≠b):Inv X af σ H' s':=by
 obtain⟨h',g',d',t',o'⟩:=s';have e:o'=s.os:=ho;subst e;exact I.call (g':=g') (t':=t') (d':=d') u aX hg hch
end
abbrev XK:=SI->Option Addr->Hp->Prop
noncomputable abbrev St:=List (Option V)
abbrev VK:=V->Hp->Prop
abbrev TE:=St->Hp->VK->Prop
abbrev TT:=St->Hp->(Bool->Hp->Prop)->Prop
abbrev TA:=St->Hp->(List V->Hp->Prop)->Prop
structure Ends where
 nx:St->Hp->Prop
 rt:VK
 bk:St->Hp->Prop:=fun _ _=>False
 ct:St->Hp->Prop:=fun _ _=>False
abbrev TS:=Ends->St->Hp->Prop
def EP (X:Cx)(af:List (Addr×Obj))(σ:St)(Q:VK)(u:SI)(s':SF):Prop:=∃ v H',Inv X af σ H' s'/\RelV v u/\Q v H'
def TP (X:Cx)(af:List (Addr×Obj))(σ:St)(Q:Bool->Hp->Prop)(b:Bool)(s':SF):Prop:=∃ H',Inv X af σ H' s'/\Q b H'
def AP (X:Cx)(af:List (Addr×Obj))(σ:St)(Q:List V->Hp->Prop)(us:List SI)(s':SF):Prop:=∃ vs H',Inv X af σ H' s'/\Vals vs us/\Q vs H'
def SP (X:Cx)(af:List (Addr×Obj))(D:Ends)(f:Flow)(s':SF):Prop:=
 match f with
 | .next=>∃ σ' H',Inv X af σ' H' s'/\D.nx σ' H'
 | .brk=>∃ σ' H',Inv X af σ' H' s'/\D.bk σ' H'
 | .cont=>∃ σ' H',Inv X af σ' H' s'/\D.ct σ' H'
 | .ret u=>∃ v σ' H',Inv X af σ' H' s'/\RelV v u/\D.rt v H'
def PE (X:Cx)(e:Expr)(t:TE):Prop:=∀(af:List (Addr×Obj))(s:SF)(σ:St)(H:Hp)(Q:VK),Inv X af σ H s->t σ H Q->wpAny (model X.prog X.w) X.A (eval e X.env) (EP X af σ Q) X.xe s
def PT (X:Cx)(e:Expr)(t:TT):Prop:=∀(af:List (Addr×Obj))(s:SF)(σ:St)(H:Hp)(Q:Bool->Hp->Prop),Inv X af σ H s->t σ H Q->wpAny (model X.prog X.w) X.A (isTrue e X.env (eval e X.env)) (TP X af σ Q) X.xe s
def PW (X:Cx)(e:Expr)(t:TT):Prop:=∀(whole:Sem SI)(af:List (Addr×Obj))(s:SF)(σ:St)(H:Hp)(Q:Bool->Hp->Prop),Inv X af σ H s->t σ H Q->wpAny (model X.prog X.w) X.A (isTrue e X.env whole) (TP X af σ Q) X.xe s
theorem PW.pt (h:PW X e t):PT X e t:=h _
def PA (X:Cx)(es:List Expr)(t:TA):Prop:=∀(pos:Pos)(af:List (Addr×Obj))(s:SF)(σ:St)(H:Hp)(Q:List V->Hp->Prop),Inv X af σ H s->t σ H Q->wpAny (model X.prog X.w) X.A (spliced (backTo pos (starEach es X.env))) (AP X af σ Q) X.xe s
def PS (X:Cx)(st:Stmt)(t:TS):Prop:=∀(af:List (Addr×Obj))(s:SF)(σ:St)(H:Hp)(D:Ends),Inv X af σ H s->t D σ H->wpAny (model X.prog X.w) X.A (exec st X.env) (SP X af D) X.xe s
def PSs (X:Cx)(st:List Stmt)(t:TS):Prop:=∀(af:List (Addr×Obj))(s:SF)(σ:St)(H:Hp)(D:Ends),Inv X af σ H s->t D σ H->wpAny (model X.prog X.w) X.A (execs st X.env) (SP X af D) X.xe s
theorem b7 {α:Type}{t:Sem α}{Q Q':α->SF->Prop}{M:Model}{A:SJ}{E:SI->SF->Prop}{s:SF}(h:wpAny M A t Q E s)(hQ:∀ a s,Q a s->Q' a s):wpAny M A t Q' E s:=Ps h hQ fun _ _ x=>x
section
variable {X:Cx}
noncomputable def au (i:Nat):TE:=fun σ H Q=>∃ v,σ[i]?=some (some v)/\Q v H
noncomputable def tC (v:V):TE:=fun _ H Q=>Q v H
theorem xY (hN:X.N[i]?=some x) (hv:Kh X.env.scope x) (hd:autoParam (dB x) SK._auto_1) (hcd:autoParam ((x==("__classdict__" : Str))=false) SK._auto_1):PE X (.Name x pos) (au i):=by
 intro af s σ H Q I h;obtain⟨v,e,h⟩:=h;obtain⟨m,hn,hl⟩:=I.loc;obtain⟨u,r,l⟩:=hl i x v hN e hv;have fin:EP X af σ Q u s:=⟨v,H,I,r,h⟩;rcases l with⟨hk,hm⟩|⟨hk,c,hc,hcell⟩
 .exact wpAny_Name (wpAny_loadName_local I.ok.kind hk hn hm fin) hd
 .rcases hk with hk|hk
  .exact wpAny_Name (wpAny_loadName_cell I.ok.kind hk hc hcell fin) hd
  .exact wpAny_Name (wpAny_loadName_free I.ok.kind hk hc hcell fin hcd) hd
theorem aw {i j pos}:PE X (.Constant (.int i) j pos) (tC (.int i)):=fun _ _ _ H _ I h=>wpAny_Constant_int ⟨.int i,H,I.tok _,⟨_,rfl⟩,h⟩
theorem iY {b j pos}:PE X (.Constant (.bool b) j pos) (tC (.bl b)):=fun _ _ _ H _ I h=>Constant_bool ⟨.bl b,H,I,rfl,h⟩
theorem b_ {j pos}:PE X (.Constant .none j pos) (tC .bC):=fun _ _ _ H _ I h=>Constant_none ⟨.bC,H,I,rfl,h⟩
theorem gv {x j pos}:PE X (.Constant (.str x) j pos) (tC (.str x)):=fun _ _ _ H _ I h=>Calls.Constant_str ⟨.str x,H,I.tok _,⟨_,rfl⟩,h⟩
def Gl (X:Cx)(x:Str):Prop:=X.env.kindOf x=some .globalImplicit
theorem fB (I:Inv X af σ H s)(hg:Gl X x)(hm:X.mg x=some u)(h:Q u s)
 (hd:autoParam (dB x) SK._auto_1):wX X (eval (.Name x pos) X.env) Q E s:=
 Calls.Name_function_global I.ok.kind hg (Calls.loadGlobal_global (by rw[I.ok.glob];exact I.mod.glob.keeps I.bk) hm h) hd
theorem gw (I:Inv X af σ H s)(hg:Gl X x)(hm:X.mg x=none)(hv:bootBuiltins x=some u)(h:Q u s)
 (hn:autoParam (x≠"__name__") SK._auto_1) (hd:autoParam (dB x) SK._auto_1):wX X (eval (.Name x pos) X.env) Q E s:=by
 obtain⟨mb,h1,h2⟩:=I.mod.blt;exact Calls.Name_function_global I.ok.kind hg (Calls.loadGlobal_builtin (by rw[I.ok.glob];exact I.mod.glob.keeps I.bk) hm (by rw[I.ok.blt];exact h1.keeps I.bk) ((h2 x hn).trans hv) h) hd
theorem iC (hg:Gl X x)(hm:X.mg x=some u)(r:RelV v u)(hd:autoParam (dB x) SK._auto_1):PE X (.Name x pos) (tC v):=fun _ _ _ H _ I h=>fB I hg hm ⟨v,H,I,r,h⟩ hd
theorem pd (hg:Gl X x) (hm:X.mg x=none) (hv:bootBuiltins x=some u) (r:RelV v u) (hn:autoParam (x≠"__name__") SK._auto_1) (hd:autoParam (dB x) SK._auto_1):PE X (.Name x pos) (tC v):=fun _ _ _ H _ I h=>gw I hg hm hv ⟨v,H,I,r,h⟩ hn hd
variable {a b:Expr}{ta tb:TE}{pos:Pos}
noncomputable def tB (t:TE):TT:=fun σ H Q=>t σ H fun x H1=>∃ c,x=.bl c/\Q c H1
theorem lF (h:PE X e t)(he:autoParam (∀ whole,isTrue e X.env whole=(do let v <- whole;standAt e.pos;holding [v] (truthy v))) SN._auto_1):PT X e (tB t):=by intro af s σ H Q I hw;refine isTrue_plain (b7 (h af s σ H _ I hw) fun v s1 ⟨x,H1,I1,r1,q1⟩=>?_) (he _);obtain⟨d,rfl,q⟩:=q1;cases r1;exact PX ⟨H1,I1,q⟩
variable {tA tB':TT}{rest:List Expr}
noncomputable def Hf (t u:TT):TT:=fun σ H Q=>t σ H fun c H1=>if c=true then u σ H1 Q else Q false H1
noncomputable def Be (t u:TT):TT:=fun σ H Q=>t σ H fun c H1=>if c=true then Q true H1 else u σ H1 Q
noncomputable def sM (t:TT):TT:=fun σ H Q=>t σ H fun c H1=>Q (!c) H1
theorem BM (ha:PT X a tA):PW X (.BoolOp .And [a] pos) tA:=by
 intro wh af s σ H Q I h;refine isTrue_and (b7 (ha af s σ H Q I h) fun c s1 e=>?_);cases c with
 |true=>exact isTrue_and_nil e
 |false=>exact e
theorem g7 (ha:PT X a tA):PW X (.BoolOp .Or [a] pos) tA:=by
 intro wh af s σ H Q I h;refine isTrue_or (b7 (ha af s σ H Q I h) fun c s1 e=>?_);cases c with
 |false=>exact isTrue_or_nil e
 |true=>exact e
theorem Es (ha:PT X a tA)(hb:PW X (.BoolOp .And (b::rest) pos) tB'):PW X (.BoolOp .And (a::b::rest) pos) (Hf tA tB'):=by
 intro wh af s σ H Q I h;refine isTrue_and (b7 (ha af s σ H _ I h) fun c s1 ⟨H1,I1,q1⟩=>?_);cases c with
 |true=>exact hb wh af s1 σ H1 Q I1 q1
 |false=>exact⟨H1,I1,q1⟩
theorem jl (ha:PT X a tA)(hb:PW X (.BoolOp .Or (b::rest) pos) tB'):PW X (.BoolOp .Or (a::b::rest) pos) (Be tA tB'):=by
 intro wh af s σ H Q I h;refine isTrue_or (b7 (ha af s σ H _ I h) fun c s1 ⟨H1,I1,q1⟩=>?_);cases c with
 |true=>exact⟨H1,I1,q1⟩
 |false=>exact hb wh af s1 σ H1 Q I1 q1
theorem jX (ha:PT X a tA):PT X (.UnaryOp .Not a pos) (sM tA):=by intro af s σ H Q I h;exact isTrue_not (ha af s σ H (fun c H1=>Q (!c) H1) I h)
noncomputable def DE (ta tb:TE):TE:=fun σ H Q=>ta σ H fun x H1=>∃ c,x=.bl c/\if c=true then tb σ H1 Q else Q (.bl false) H1
noncomputable def DF (ta:TE):TE:=fun σ H Q=>ta σ H fun x H1=>∃ c,x=.bl c/\Q (.bl (!c)) H1
theorem Et {op}(h:PE X a t):PE X (.BoolOp op [a] pos) t:=fun af s σ H Q I hw=>BoolOp_one (h af s σ H Q I hw)
theorem Eu (ha:PE X a ta)(hb:PE X (.BoolOp .And (b::rest) pos) tb):PE X (.BoolOp .And (a::b::rest) pos) (DE ta tb):=by
 intro af s σ H Q I h;refine BoolOp_and (b7 (ha af s σ H _ I h) fun v s1 ⟨x,H1,I1,r1,q1⟩=>?_);obtain⟨c,rfl,q1⟩:=q1;cases r1;refine PX ?_;cases c with
 |true=>exact hb af s1 σ H1 Q I1 q1
 |false=>exact⟨.bl false,H1,I1,rfl,q1⟩
theorem Ew (ha:PE X a ta):PE X (.UnaryOp .Not a pos) (DF ta):=by intro af s σ H Q I h;refine UnaryOp_ (b7 (ha af s σ H _ I h) fun v s1 ⟨x,H1,I1,r1,q1⟩=>?_);obtain⟨c,rfl,q1⟩:=q1;cases r1;exact not_of (PX ⟨.bl (!c),H1,I1,rfl,q1⟩)
noncomputable def L5 (t:TT)(ta tb:TE):TE:=fun σ H Q=>t σ H fun c H1=>if c=true then ta σ H1 Q else tb σ H1 Q
theorem xZ (hc:PT X c tA)(ha:PE X a ta)(hb:PE X b tb):PE X (.IfExp c a b pos) (L5 tA ta tb):=by
 intro af s σ H Q I h;refine wpAny_IfExp (b7 (hc af s σ H _ I h) fun d s1 ⟨H1,I1,q1⟩=>?_);cases d with
 |true=>exact ha af s1 σ H1 Q I1 q1
 |false=>exact hb af s1 σ H1 Q I1 q1
end
def SqL (K:SG)(H:Hp)(a:Addr)(xs:List V):Prop:=
 Rd H a (.lst xs)\/
  ∃(o:Obj)(its:Array SI)(n:Nat),K.lookup a=some o/\o.cls=.type "list"/\o.dict=none/\o.data=.seq its n/\its.size<=sizeLine/\Vals xs its.toList
def SqT (K:SG)(H:Hp)(a:Addr)(xs:List V):Prop:=
 Rd H a (.tup xs)\/
  ∃(o:Obj)(its:Array SI)(n:Nat),K.lookup a=some o/\o.cls=.type "tuple"/\o.data=.seq its n/\its.size<=sizeLine/\Vals xs its.toList
noncomputable def Kj:SI->Option V
 | .none=>some .bC
 | .bool b=>some (.bl b)
 | .int i _=>some (.int i)
 | .str x _=>some (.str x)
 | .bytes b _=>some (.vJ b)
 | .float b _=>some (.Gy b)
 | .ref a=>some (.ref a)
 | .type n=>some (.ty n)
 |_=>none
theorem RelV.abs (r:RelV x u):Kj u=some x:=by
 cases x with
 |bC=>cases r;rfl
 |bl _=>cases r;rfl
 |int _=>obtain⟨t,rfl⟩:=r;rfl
 |str _=>obtain⟨t,rfl⟩:=r;rfl
 |vJ _=>obtain⟨t,rfl⟩:=r;rfl
 |Gy _=>obtain⟨t,rfl⟩:=r;rfl
 |ref _=>cases r;rfl
 |ty _=>cases r;rfl
theorem RelV.inj (r:RelV x u)(q:RelV y u):x=y:=OW (r.abs.symm.trans q.abs)
theorem Vals.inj {xs ys:List V}{us:List SI}(h:Vals xs us)(k:Vals ys us):xs=ys:=by
 induction h generalizing ys with
 |nil=>cases k;rfl
 |cons r _ ih=>
  cases k with
  |cons r' t'=>rw[r.inj r',ih t']
section
theorem SqL.of {K:SG}(h:H a=some (.lst xs)):SqL K H a xs:=.inl (.inl h)
theorem SqT.of {K:SG}(h:H a=some (.tup xs)):SqT K H a xs:=.inl (.inl h)
theorem Inv.list (I:Inv X af σ H s)(h:SqL X.K H a xs):∃ its:List SI,Vals xs its/\PlainL s.heap a its.toArray/\xs.length<=sizeLine:=by
 rcases h with h|⟨o,its,n,hk,hc,hd,hs,hz,r⟩
 .obtain⟨z,its,n,r,e⟩:=h.ok I.aX;exact⟨its,r,⟨_,n,e,rfl,rfl,rfl⟩,z⟩
 .refine⟨its.toList,r,⟨o,n,I.iW a o hk,hc,hd,by simpa using hs⟩,?_⟩;have e:=r.length;simp only[Pb]at e;lia
theorem Inv.tuple (I:Inv X af σ H s)(h:SqT X.K H a xs):∃ its:List SI,Vals xs its/\IsTup s.heap a its.toArray/\xs.length<=sizeLine:=by
 rcases h with h|⟨o,its,n,hk,hc,hs,hz,r⟩
 .obtain⟨z,its,r,p⟩:=h.ok I.aX;exact⟨its,r,p,z⟩
 .refine⟨its.toList,r,⟨o,I.iW a o hk,hc,n,by simpa using hs⟩,?_⟩;have e:=r.length;simp only[Pb]at e;lia
theorem Inv.nF (I:Inv X af σ H s)(h:SqL X.K H a xs)(h':SqL X.K H a ys):xs=ys:=by
 obtain⟨its,r,⟨o,n,e,_,_,d⟩,_⟩:=I.list h;obtain⟨its',r',⟨o',n',e',_,_,d'⟩,_⟩:=I.list h';rw[e]at e';cases e';rw[d]at d';injection d' with d1 _;have:its=its':=by simpa using PJ Array.toList d1
 subst this;exact r.inj r'
end
noncomputable abbrev Cx.nE (X:Cx)(E:SI->SF->Prop):Cx:={ X with xe:=E }
abbrev Cx.JO (X:Cx):Cx:=X.nE fun _ _=>False
theorem Cx.Ok.nE {X:Cx}(ok:X.Ok)(E:SI->SF->Prop):(X.nE E).Ok:=⟨ok.mod,ok.kind,ok.glob,ok.blt,ok.above,ok.inj,ok.has,ok.Bu,ok.hd,ok.frames,ok.stk,ok.GD,ok.bs,ok.vK,ok.om,ok.qr,ok.iA,ok.xW,ok.kt⟩
theorem Cx.Ok.gO {X:Cx}{E:SI->SF->Prop}(ok:(X.nE E).Ok):X.Ok:=⟨ok.mod,ok.kind,ok.glob,ok.blt,ok.above,ok.inj,ok.has,ok.Bu,ok.hd,ok.frames,ok.stk,ok.GD,ok.bs,ok.vK,ok.om,ok.qr,ok.iA,ok.xW,ok.kt⟩
section
theorem Inv.nE (I:Inv X af σ H s)(E:SI->SF->Prop):Inv (X.nE E) af σ H s:=⟨I.ok.nE E,I.os,I.bare,I.base,I.loc,I.cell,I.free,I.dj,I.pin,I.aX,I.len⟩
theorem Inv.gO (I:Inv (X.nE E) af σ H s):Inv X af σ H s:=⟨I.ok.gO,I.os,I.bare,I.base,I.loc,I.cell,I.free,I.dj,I.pin,I.aX,I.len⟩
theorem SP.gO (h:SP (X.nE E) af D f s'):SP X af D f s':=by
 cases f with
 |next=>obtain⟨σ',H',I,q⟩:=h;exact⟨σ',H',I.gO,q⟩
 |brk=>obtain⟨σ',H',I,q⟩:=h;exact⟨σ',H',I.gO,q⟩
 |cont=>obtain⟨σ',H',I,q⟩:=h;exact⟨σ',H',I.gO,q⟩
 |ret u=>obtain⟨v,σ',H',I,r,q⟩:=h;exact⟨v,σ',H',I.gO,r,q⟩
theorem PSs.JO {st:List Stmt}(h:PSs X.JO st t):PSs X st t:=fun af s σ H D I hw=>Ps (h af s σ H D (I.nE _) hw) (fun _ _ q=>q.gO) fun _ _ z=>False.elim z
end
section
variable {X:Cx}{st:Stmt}{rest:List Stmt}{t u:TS}
noncomputable def bY:TS:=fun D σ H=>D.nx σ H
noncomputable def aP (t u:TS):TS:=fun D σ H=>t { D with nx:=u D } σ H
theorem bq:PSs X [] bY:=fun _ _ σ H _ I h=>P0 ⟨σ,H,I,h⟩
theorem ay (h1:PS X st t)(h2:PSs X rest u):PSs X (st::rest) (aP t u):=by
 intro af s σ H D I h;refine Ra (b7 (h1 af s σ H { D with nx:=u D } I h) fun f s1 q=>?_);cases f with
 |next=>obtain⟨σ',H',I',q⟩:=q;exact h2 af s1 σ' H' D I' q
 |ret v=>exact q
 |brk=>exact q
 |cont=>exact q
theorem aD (h1:PS X st t):PSs X [st] t:=by
 intro af s σ H D I h;refine Ra (b7 (h1 af s σ H D I h) fun f s1 q=>?_);cases f with
 |next=>exact P0 q
 |ret v=>exact q
 |brk=>exact q
 |cont=>exact q
theorem Inv.quiet (I:Inv X af σ H s):interactive X.env=false:=by simp[interactive,I.ok.kind]
noncomputable def cw (te:TE):TS:=fun D σ H=>te σ H fun _ H1=>D.nx σ H1
theorem bL (he:PE X e te)(hs:autoParam (swapsWith e none pos.line X.env=pure false) SQ._auto_1):PS X (.Expr e pos) (cw te):=by intro af s σ H D I h;exact wpAny_Expr_any (b7 (he af s σ H _ I h) fun v s1 ⟨x,H1,I1,r1,q1⟩=>⟨σ,H1,I1,q1⟩) I.quiet hs
noncomputable def bU (te:TE):TS:=fun D σ H=>te σ H D.rt
theorem ba (he:PE X e te):PS X (.Return (some e) pos) (bU te):=by intro af s σ H D I h;exact wpAny_Return_some (b7 (he af s σ H _ I h) fun v s1 ⟨x,H1,I1,r1,q1⟩=>⟨x,σ,H1,I1,r1,q1⟩)
noncomputable def cI (c:TT)(t u:TS):TS:=fun D σ H=>c σ H fun b H1=>if b=true then t D σ H1 else u D σ H1
theorem cc (hc:PT X c tc)(ha:PSs X a t)(hb:PSs X b u):PS X (.If c a b pos) (cI tc t u):=by
 intro af s σ H D I h;refine wpAny_If (b7 (hc af s σ H _ I h) fun d s1 ⟨H1,I1,q1⟩=>?_);cases d with
 |true=>exact ha af s1 σ H1 D I1 q1
 |false=>exact hb af s1 σ H1 D I1 q1
end
abbrev TG:=V->St->Hp->(St->Hp->Prop)->Prop
abbrev Hg:=List V->St->Hp->(St->Hp->Prop)->Prop
def PG (X:Cx)(target:Expr)(t:TG):Prop:=
 ∀(af:List (Addr×Obj))(s:SF)(σ:St)(H:Hp)(v:V)(u:SI)(Q:St->Hp->Prop),Inv X af σ H s->RelV v u->t v σ H Q->
  wpAny (model X.prog X.w) X.A (assign target X.env u) (fun _ s'=>∃ σ' H',Inv X af σ' H' s'/\Q σ' H') X.xe s
def JT (X:Cx)(ts:List Expr)(t:Hg):Prop:=
 ∀(af:List (Addr×Obj))(s:SF)(σ:St)(H:Hp)(vs:List V)(us:List SI)(Q:St->Hp->Prop),Inv X af σ H s->Vals vs us->t vs σ H Q->
  wpAny (model X.prog X.w) X.A (assignInOrder ((assignEach ts X.env).map (·.2)) us) (fun _ s'=>∃ σ' H',Inv X af σ' H' s'/\Q σ' H') X.xe s
section
noncomputable def aE (i:Nat):TG:=fun v σ H Q=>Q (σ.set i (some v)) H
theorem aI (hN:X.N.Nodup)(hi:X.N[i]?=some x)(hx:GW X.env.scope x)(hf:autoParam (X.fn x=true\/X.env.scope.names.lookup x=some .local) SL._auto_1):PG X (.Name x pos) (aE i):=by intro af s σ H v u Q I r h;exact wpAny_assign_Name (g5 I hN hi hx r (fun s' I'=>⟨_,H,I',h⟩) hf)
noncomputable def dP:Hg:=fun vs σ H Q=>vs=[]/\Q σ H
noncomputable def be (t:TG)(u:Hg):Hg:=fun vs σ H Q=>∃ v r,vs=v::r/\t v σ H fun σ' H'=>u r σ' H' Q
theorem bI:JT X [] dP:=by intro af s σ H vs us Q I r h;obtain⟨e,h⟩:=h;subst e;cases r;exact assignInOrder_nil ⟨σ,H,I,h⟩
theorem aK (h1:PG X e t)(h2:JT X es u)
 (hs:autoParam ((assignEach (e::es) X.env).map (·.2)=assign e X.env::(assignEach es X.env).map (·.2)) SQ._auto_1):JT X (e::es) (be t u):=by
 intro af s σ H vs us Q I r h;obtain⟨v,vr,e1,h⟩:=h;subst e1;cases r with
 |cons r rr=>rw[hs];refine assignInOrder_cons (b7 (h1 af s σ H _ _ _ I r h) fun _ s1 ⟨σ1,H1,I1,q1⟩=>?_);exact h2 af s1 σ1 H1 _ _ Q I1 rr q1
noncomputable def dQ (K:SG)(n:Nat)(t:Hg):TG:=fun v σ H Q=>∃ a xs,v=.ref a/\SqT K H a xs/\xs.length=n/\t xs σ H Q
theorem bZ (hc:X.calm=true)(h:JT X es t)
 (hn:autoParam ((assignEach es X.env).length=n) SQ._auto_1) (hst:autoParam ((assignEach es X.env).findIdx? (·.1)=none) SQ._auto_1):PG X (.Tuple es k pos) (dQ X.K n t):=by
 intro af s σ H v u Q I r hw;obtain⟨a,xs,e1,hq,hl,hw⟩:=hw;subst e1;cases r;obtain⟨its,rv,ht,hz⟩:=I.tuple hq;refine assign_Tuple_tuple (I.ok.hd hc) ht (by simp[hn,<- hl,rv.length]) hst fun h' hx=>?_;have I1:Inv X af σ H { s with heap:=h' }:=I.kept (t':=s.toks) fun b o e=>hx b o (OQ (Oy e)) e;exact h af _ σ H xs _ Q I1 (by simpa using rv) hw
noncomputable def bh (te:TE)(g:TG):TS:=fun D σ H=>te σ H fun x H1=>g x σ H1 D.nx
theorem fO (he:PE X e te)(hg:PG X tg g)(hs:autoParam (swapsWithSole [tg] e pos.line X.env=pure false) SQ._auto_1)(hw:autoParam (swappedStores [tg] e X.env=pure none) SQ._auto_1)
 (h1:autoParam ((assignEach [tg] X.env).map (·.2)=[assign tg X.env]) SQ._auto_1):PS X (.Assign [tg] e pos) (bh te g):=by
 intro af s σ H D I h;refine wpAny_Assign_stores (b7 (he af s σ H _ I h) fun v s1 ⟨x,H1,I1,r1,q1⟩=>?_) hs hw;rw[h1];exact b7 (hg af s1 σ H1 x v _ I1 r1 q1) fun _ s2 q=>q
theorem aO (hN:X.N.Nodup)(hi:X.N[i]?=some x)(hx:GW X.env.scope x)(he:PE X e te)(hs:autoParam (swapsWith e (some (.Name x pos')) pos.line X.env=pure false) SQ._auto_1)(hf:autoParam (X.fn x=true\/X.env.scope.names.lookup x=some .local) SL._auto_1) :
 PS X (.Assign [.Name x pos'] e pos) (bh te (aE i)):=by
 intro af s σ H D I h;refine wpAny_Assign_Name (b7 (he af s σ H _ I h) fun v s1 ⟨y,H1,I1,r1,q1⟩=>?_) hs;exact g5 I1 hN hi hx r1 (fun s2 I2=>⟨_,H1,I2,q1⟩) hf
end
section
def ph (c:TT)(tb:TS):TS:=fun D σ H=>∃ W:Nat->St->Hp->Prop,(∃ m,W m σ H)/\∀ m σ H,W m σ H->
 c σ H fun b H1=>if b=true then ∃ N:St->Hp->Prop,(∀ σ' H',N σ' H'->∃ m',m'<m/\W m' σ' H')/\tb { D with nx:=N,ct:=N,bk:=D.nx } σ H1 else D.nx σ H1
theorem qL (hp:PassesOwn (model X.prog X.w) X.A X.env X.xe)(hc:PT X c tc)(hb:PSs X body tb):PS X (.While c body [] pos) (ph tc tb):=by
 intro af s σ H D I h;obtain⟨W,⟨m0,w0⟩,turn⟩:=h;refine wpAny_While (codeAny_whileLoop (fun n s'=>∃ σ' H',Inv X af σ' H' s'/\W n σ' H') ?_ m0 ⟨σ,H,I,w0⟩);rintro n s1 ⟨σ1,H1,I1,w1⟩;refine QF hp (b7 (hc af s1 σ1 H1 _ I1 (turn n σ1 H1 w1)) fun b s2 ⟨H2,I2,q2⟩=>?_);cases b with
 |true=>
  obtain⟨N,hN,q2⟩:=q2;rw[OK rfl];refine QF hp (b7 (hb af s2 σ1 H2 _ I2 q2) fun f s3 q3=>?_);cases f with
  |next=>obtain⟨σ3,H3,I3,n3⟩:=q3;obtain⟨m',hm,w3⟩:=hN σ3 H3 n3;exact⟨m',hm,σ3,H3,I3,w3⟩
  |cont=>obtain⟨σ3,H3,I3,n3⟩:=q3;obtain⟨m',hm,w3⟩:=hN σ3 H3 n3;exact⟨m',hm,σ3,H3,I3,w3⟩
  |brk=>exact q3
  |ret v=>exact q3
 |false=>rw[OL ON];exact P0 ⟨σ1,H2,I2,q2⟩
end
structure It where
 go:Nat->Hp->Prop
 vM:Nat->Hp->V->Hp->Prop
 stop:Nat->Hp->Prop
def iL (X:Cx)(af:List (Addr×Obj))(H:Hp)(b:Addr):Prop:=H b=none/\b≠X.env.locals/\b∉X.fs/\(b∈X.ex\/X.s₀.heap.objs.size<=b)/\(∀ x c,X.env.cells.lookup x=some c->c≠b)/\∀ p∈X.pn++af,p.1≠b
theorem Inv.qu (I:Inv X af σ H s)(hb:s.heap.objs.size<=b)(hn:H' b=none):iL X af H' b:=by
 refine⟨hn,Rg (OV I.lt hb),I.LN hb,.inr (OR I.sz hb),fun x c e z=>?_,fun p hp z=>?_⟩
 .obtain⟨v,q⟩:=I.cell x c e;exact absurd (OV q.lt (by rw[z];exact hb)) (Qe _)
 .exact absurd (OV (Oy (I.pin p hp).1) (by rw[z];exact hb)) (Qe _)
structure Turn (P:SH) (w:World) (K:SG) (tg:Expr) (J:It) (fp:List Addr) (it:Addr) (tn:Nat->Heap->Prop):Prop where
 mem:it∈fp
 obj:∀ i h,tn i h->∀ b∈fp,∃ o,h.get? b=some o/\∀ v,o.data≠.cell v
 keep:∀ i h h',tn i h->(∀ b∈fp,∀ o,h.get? b=some o->h'.get? b=some o)->tn i h'
 item:∀(X:Cx),X.prog=P->X.w=w->X.K=K->X.calm=true->∀(i:Nat)(af:List (Addr×Obj))(s:SF)(σ:St)(H:Hp)(E:SI->SF->Prop),Inv X af σ H s->(∀ b∈fp,iL X af H b)->tn i s.heap->J.go i H->
  wpAny (model P w) X.A (pyNext (.ref it)) (fun r s1=>∃ u,r=some u/\
   wpAny (model P w) X.A (letOwnedTupleGo tg (.ref it) u) (fun _ s2=>∃ x H',Inv X af σ H' s2/\RelV x u/\J.vM i H x H'/\tn (i+1) s2.heap/\∀ b∈fp,H' b=none) E s1) E s
 done:∀(X:Cx),X.prog=P->X.w=w->X.K=K->X.calm=true->∀(i:Nat)(af:List (Addr×Obj))(s:SF)(σ:St)(H:Hp)(E:SI->SF->Prop),Inv X af σ H s->(∀ b∈fp,iL X af H b)->tn i s.heap->J.stop i H->
  wpAny (model P w) X.A (pyNext (.ref it)) (fun r s1=>r=none/\Inv X af σ H s1) E s
 self:∀(A:SJ)(i:Nat)(s:SF)(Q:SI->SF->Prop)(E:SI->SF->Prop),tn i s.heap->Q (.ref it) s->wpAny (model P w) A (pyIter (.ref it)) Q E s
abbrev TI:=St->Hp->(It->Hp->Prop)->Prop
def Hh (X:Cx)(af:List (Addr×Obj))(σ:St)(tg:Expr)(R:It->Hp->Prop)(itv:SI)(s2:SF):Prop:=∃(it:Addr)(fp:List Addr)(tn:Nat->Heap->Prop)(J:It)(H':Hp),itv=.ref it/\Inv X af σ H' s2/\Turn X.prog X.w X.K tg J fp it tn/\tn 0 s2.heap/\(∀ b∈fp,iL X af H' b)/\R J H'
def PI (X:Cx)(tg iter:Expr)(wi:TI):Prop:=
 ∀(af:List (Addr×Obj))(s:SF)(σ:St)(H:Hp)(R:It->Hp->Prop),Inv X af σ H s->wi σ H R->
  wpAny (model X.prog X.w) X.A (eval iter X.env) (fun v s1=>wpAny (model X.prog X.w) X.A (pyIter v) (Hh X af σ tg R) X.xe s1) X.xe s
theorem x_ (ho:s.heap.get? it=some o)(hc:o.cls=.type n)(hd:o.data=.fields vs)
 (hn:["enumerate", "zip", "dict_itemiterator", "dict_reverseitemiterator", "odict_iterator", "itertools.zip_longest", "itertools.pairwise"].contains n=false) (hQ:Q () s):wpAny M A (letOwnedTupleGo tg (.ref it) u) Q E s:=by
 unfold letOwnedTupleGo;cases tg<;>first
  |exact Os hQ
  |(cases u<;>first
     |exact Os hQ
     |(refine KE (wpAny_load ho ?_)
       rw[hc,hd];show wpAny M A (if (["enumerate", "zip", "dict_itemiterator", "dict_reverseitemiterator", "odict_iterator", "itertools.zip_longest", "itertools.pairwise"].contains n&&vs[0]?==some (rawInt _))=true then _ else _) Q E s;rw[OL (by intro h;rw[hn,RI]at h;cases h)];exact Os hQ))
noncomputable def Ex (K:SG)(a:Addr):It:=⟨fun i H=>∃ xs x,SqL K H a xs/\xs[i]?=some x,fun i H x H'=>H'=H/\∀ xs,SqL K H a xs->xs[i]?=some x,fun i H=>∃ xs,SqL K H a xs/\xs.length<=i⟩
noncomputable def Kk (lo:Int)(n:Nat):It:=⟨fun i _=>i<n,fun i H x H'=>H'=H/\x=.int (lo+i),fun i _=>n<=i⟩
theorem vR {K:SG}{tg:Expr}(a it:Addr):Turn P w K tg (Ex K a) [it] it (fun i h=>h.IsListIter it a i) where
 mem:=by simp
 obj:=fun i h st b hb=>by
  have e:b=it:=by simpa using hb
  subst e;obtain⟨o,e,c,d⟩:=st;exact⟨o,e,fun v z=>by rw[d]at z;cases z⟩
 keep:=fun i h h' st k=>st.at fun o e=>k it (by simp) o e
 item:=by intro X hP hw hK hc i af s σ H E I hf st hg;subst hP hw hK;obtain⟨xs,x,hq,hx⟩:=hg;obtain⟨its,rv,p,hz⟩:=I.list hq;obtain⟨u,hu,ru⟩:=rv.get hx;obtain⟨f0,f1,f2,f3,f4,f5⟩:=hf it (by simp);refine wpAny_pyNext_list_item st p.isList (x:=u) (by simpa using hu) fun h' st' sb=>?_;have I1:Inv X af σ H { s with heap:=h' }:=I.turned (t':=s.toks) (fun b o hb e=>(sb.2 b hb).trans e) f0 f1 f3 f4 f5;obtain⟨o,e,c,d⟩:=id st';exact⟨u,rfl,x_ (s:={ s with heap:=h' }) e c d (by decide) ⟨x,H,I1,ru,⟨rfl,fun ys hy=>by rw[I.nF hy hq];exact hx⟩,st',fun b hb=>(hf b hb).1⟩⟩
 done:=by intro X hP hw hK hc i af s σ H E I hf st hg;subst hP hw hK;obtain⟨xs,hq,hx⟩:=hg;obtain⟨its,rv,p,hz⟩:=I.list hq;obtain⟨f0,f1,f2,f3,f4,f5⟩:=hf it (by simp);have hl:=rv.length;exact wpAny_pyNext_list_end (I.ok.hd hc) st p.isList (by simp;lia) fun h' eb=>⟨rfl,I.turned (t':=s.toks) (fun b o hb e=>eb b o hb e) f0 f1 f3 f4 f5⟩
 self:=fun _ _ _ _ _ st h=>wpAny_pyIter_listiter st h
theorem sN {K:SG}{tg:Expr}(it:Addr)(lo:Int)(n:Nat):Turn P w K tg (Kk lo n) [it] it (fun i h=>IsRangeIter h it (lo+(i:Nat)*1) ((n:Int)-(i:Nat)) 1) where
 mem:=by simp
 obj:=fun i h st b hb=>by grind
 keep:=fun i h h' st k=>k it (by simp) _ st
 item:=by intro X hP hw hK hc i af s σ H E I hf st hg;subst hP hw hK;obtain⟨f0,f1,f2,f3,f4,f5⟩:=hf it (by simp);have W:=Walks.range (prog:=X.prog) (w:=X.w) (I.ok.hd hc) it lo 1 n;refine W.item i s _ _ hg st fun v h' tk hv st' kk=>?_;obtain⟨t,rfl⟩:=hv;have I1:Inv X af σ H { s with heap:=h',toks:=tk }:=I.turned (fun b o hb e=>kk b o (by simpa using hb) e) f0 f1 f3 f4 f5;refine⟨_,rfl,x_ (s:={ s with heap:=h',toks:=tk }) (n:="range_iterator") st' rfl rfl (by decide) ⟨.int (lo+i),H,I1,⟨t,?_⟩,⟨rfl,rfl⟩,st',fun b hb=>(hf b hb).1⟩⟩;rw[Int.mul_one]
 done:=by intro X hP hw hK hc i af s σ H E I hf st hg;subst hP hw hK;obtain⟨f0,f1,f2,f3,f4,f5⟩:=hf it (by simp);exact wpAny_pyNext_range_end (I.ok.hd hc) st (by have:n<=i:=hg;lia) fun h' eb=>⟨rfl,I.turned (t':=s.toks) (fun b o hb e=>eb b o hb e) f0 f1 f3 f4 f5⟩
 self:=fun _ _ _ _ _ st h=>wpAny_pyIter_rangeiter st h
section
def cU (K:SG)(tl:TE):TI:=fun σ H R=>tl σ H fun x H1=>∃ a,x=.ref a/\(∃ xs,SqL K H1 a xs)/\R (Ex K a) H1
theorem b8 {tl:TE}(hl:PE X l tl):PI X tg l (cU X.K tl):=by
 intro af s σ H R I h;refine b7 (hl af s σ H _ I h) fun v s1 ⟨x,H1,I1,r1,q1⟩=>?_;obtain⟨a,e,⟨xs,hq⟩,q⟩:=q1;subst e;cases r1;obtain⟨its,rv,p,hz⟩:=I1.list hq;refine RB p.isList ?_;refine⟨s1.heap.objs.size,[s1.heap.objs.size],_,_,H1,rfl,I1.kept (t':=s1.toks) fun b o e=>Oo _ e,vR a _,⟨_,Oz _ rfl,rfl,rfl⟩,fun b hb=>?_,q⟩;have e:b=s1.heap.objs.size:=by simpa using hb
 subst e;exact I1.qu (Oq _) (I1.aX.fresh (Oq _))
theorem ya {s:SF}{R:It->Hp->Prop}{E:SI->SF->Prop}{lo hi:Int}{t u v:Tok}{tk:Nat}(I:Inv X af σ H s)(h1:-(2 ^ 62)<=lo)(h2:lo<2 ^ 62)(h3:-(2 ^ 62)<=hi)(h4:hi<2 ^ 62)
 (q:R (Kk lo (hi-lo).toNat) H):wX X (pyIter (.ref s.heap.objs.size)) (Hh X af σ tg R) E { s with heap:=s.heap.push { cls:=.type "range",data:=.fields #[.int lo t,.int hi u,.int 1 v] },toks:=tk }:=by
 refine wpAny_pyIter_range (IsRange.new ..) (small_one h1 h2 h3 h4) ?_;have I1:Inv X af σ H { s with heap:=s.heap.push { cls:=.type "range",data:=.fields #[.int lo t,.int hi u,.int 1 v] },toks:=tk }:=I.kept fun b o e=>Oo _ e;refine⟨(s.heap.push { cls:=.type "range",data:=.fields #[.int lo t,.int hi u,.int 1 v] }).objs.size,[(s.heap.push { cls:=.type "range",data:=.fields #[.int lo t,.int hi u,.int 1 v] }).objs.size],_,_,H,rfl,
  I1.kept (t':=tk) fun b o e=>Oo _ e,sN _ lo (hi-lo).toNat,?_,fun b hb=>?_,q⟩
 .have e1:lo+((0:Nat):Int)*1=lo:=by simp
  have e2:(((hi-lo).toNat:Nat):Int)-((0:Nat):Int)=Builtin.Range.rangeSize lo hi 1:=by rw[rangeSize_one];split<;>lia
  show IsRangeIter _ _ (lo+((0:Nat):Int)*1) ((((hi-lo).toNat:Nat):Int)-((0:Nat):Int)) 1;rw[e1,e2];exact Oz _ rfl
 .have e:b=(s.heap.push { cls:=.type "range",data:=.fields #[.int lo t,.int hi u,.int 1 v] }).objs.size:=by simpa using hb
  subst e;exact I1.qu (Oq _) (I1.aX.fresh (Oq _))
def uF (ta:TA):TI:=fun σ H R=>ta σ H fun vs H1=>∃ j:Int,vs=[.int j]/\-(2 ^ 62)<=j/\j<2 ^ 62/\R (Kk 0 j.toNat) H1
theorem jY {a:Expr} {ta:TA} {p pos:Pos} (hg:Gl X "range") (hm:X.mg "range"=none) (ha:PA X [a] ta) (hs:autoParam (starEach [a] X.env=[(false,eval a X.env)]) SQ._auto_1):PI X tg (.Call (.Name "range" p) [a] [] pos) (uF ta):=by
 intro af s σ H R I h;refine Call_ (gw I hg hm boot_range (PH (b7 (ha pos af s σ H _ I h) fun us s1 ⟨vs,H1,I1,r1,q1⟩=>?_) hs rfl));obtain⟨j,e,q1,q2,q⟩:=q1;subst e;cases r1 with
 |cons r rr=>cases rr;obtain⟨t,rfl⟩:=r;exact call_range_1 (ya I1 (by lia) (by lia) q1 q2 (by simpa using q))
def f6 (wi:TI)(g:TG)(tb:TS):TS:=fun D σ H=>wi σ H fun J H1=>∃ W:Nat->Nat->St->Hp->Prop,(∃ m,W 0 m σ H1)/\∀ i m σ H,W i m σ H->
 (J.stop i H/\D.nx σ H)\/(J.go i H/\∃ N:St->Hp->Prop,(∀ σ' H',N σ' H'->∃ m',m'<m/\W (i+1) m' σ' H')/\∀ x H',J.vM i H x H'->g x σ H' fun σ2 H2=>tb { D with nx:=N,ct:=N,bk:=D.nx } σ2 H2)
noncomputable def lG (fp:List Addr)(h:Heap):List (Addr×Obj):=fp.filterMap fun b=>(h.get? b).map fun o=>(b,o)
theorem gx (hb:b∈fp)(e:h.get? b=some o):(b,o)∈lG fp h:=P3.mpr ⟨b,hb,by rw[e];rfl⟩
theorem vS (hp:p∈lG fp h):p.1∈fp/\h.get? p.1=some p.2:=by
 obtain⟨b,hb,e⟩:=P3.mp hp;cases q:h.get? b with
 |none=>rw[q]at e;cases e
 |some o=>rw[q]at e;have e':(b,o)=p:=OW e;subst e';exact⟨hb,q⟩
theorem Inv.pinned (I:Inv X af σ H s)(hf:∀ b∈fp,iL X af H b)(ho:∀ b∈fp,∃ o,s.heap.get? b=some o/\∀ v,o.data≠.cell v):Inv X (af++lG fp s.heap) σ H s:=
 I.vI fun p hp=>(OX.mp hp).elim (fun z=>I.pin p (O0 _ z)) fun z=>by
  obtain⟨hb,e⟩:=vS z;obtain⟨f0,f1,f2,_⟩:=hf p.1 hb
  grind
theorem Inv.jN (I:Inv X (af++pl) σ H s):Inv X af σ H s:=I.vI fun p hp=>I.pin p (O0 _ (O5 _ hp))
theorem cF (hp:PassesOwn (model X.prog X.w) X.A X.env X.xe)(hc:X.calm=true)(hi:PI X tg iter wi)(hg:PG X tg g)(hb:PSs X body tb)
 (hs:autoParam (∀ x,foldedSetIterable iter X.env x=pure x) SN._auto_1):PS X (.For tg iter body [] pos) (f6 wi g tb):=by
 intro af s σ H D I h;refine wpAny_For (b7 (hi af s σ H _ I h) fun v s1 h1=>b7 h1 fun itv s2 h2=>?_) hs;obtain⟨it,fp,tn,J,H2,e,I2,T,st2,f2,W,⟨m0,w0⟩,turn⟩:=h2;subst e;have stat:∀{H':Hp},(∀ b∈fp,H' b=none)->∀ b∈fp,iL X af H' b:=fun hn b hb=>⟨hn b hb,(f2 b hb).2⟩;refine codeAny_forLoop_any (fun n s'=>∃ i σ' H',Inv X af σ' H' s'/\tn i s'.heap/\(∀ b∈fp,H' b=none)/\W i n σ' H') ?_ m0 ⟨0,σ,H2,I2,st2,fun b hb=>(f2 b hb).1,w0⟩;rintro n s3 ⟨i,σ3,H3,I3,st3,fr3,w3⟩;rcases turn i n σ3 H3 w3 with⟨stop,qn⟩|⟨go,N,hN,step⟩
 .refine QF hp (b7 (T.done X rfl rfl rfl hc i af s3 σ3 H3 X.xe I3 (stat fr3) st3 stop) fun r s4 ⟨hr,I4⟩=>?_);subst hr;exact P0 ⟨σ3,H3,I4,qn⟩
 .refine QF hp (b7 (T.item X rfl rfl rfl hc i af s3 σ3 H3 X.xe I3 (stat fr3) st3 go) fun r s4 ⟨u,hr,h4⟩=>?_);subst hr;refine QF hp (b7 h4 fun _ s5 ⟨x,H5,I5,r5,y5,st5,fr5⟩=>?_);have I5':=I5.pinned (stat fr5) (T.obj _ _ st5);refine QF hp (b7 (hg _ s5 σ3 H5 x u _ I5' r5 (step x H5 y5)) fun _ s6 ⟨σ6,H6,I6,q6⟩=>?_);refine QF hp (b7 (hb _ s6 σ6 H6 _ I6 q6) fun f s7 q7=>?_);have again:∀{σ7:St}{H7:Hp},Inv X (af++lG fp s5.heap) σ7 H7 s7->N σ7 H7->∃ m,m<n/\∃ i σ' H',Inv X af σ' H' s7/\tn i s7.heap/\(∀ b∈fp,H' b=none)/\W i m σ' H':=fun{σ7 H7} I7 n7=>by obtain⟨m',hm,w7⟩:=hN σ7 H7 n7;refine⟨m',hm,i+1,σ7,H7,I7.jN,T.keep _ _ _ st5 fun b hb o e=>(I7.pin (b,o) (O0 _ (O0 _ (gx hb e)))).1,fun b hb=>?_,w7⟩;obtain⟨o,e,d⟩:=T.obj _ _ st5 b hb;exact(I7.pin (b,o) (O0 _ (O0 _ (gx hb e)))).2.1
  cases f with
  |next=>obtain⟨σ7,H7,I7,n7⟩:=q7;exact again I7 n7
  |cont=>obtain⟨σ7,H7,I7,n7⟩:=q7;exact again I7 n7
  |brk=>obtain⟨σ7,H7,I7,q7⟩:=q7;exact⟨σ7,H7,I7.jN,q7⟩
  |ret v=>obtain⟨x7,σ7,H7,I7,r7,q7⟩:=q7;exact⟨x7,σ7,H7,I7.jN,r7,q7⟩
end
theorem f7 {K:SG}{a:Addr}{xs:List V}{g:TG}{tb:TS}{D:Ends}{σ:St}{H:Hp}(Pv:Nat->St->Hp->Prop)(h0:Pv 0 σ H)(hl:∀ i σ H,i<=xs.length->Pv i σ H->SqL K H a xs)
 (hs:∀ i x σ H,xs[i]?=some x->Pv i σ H->g x σ H fun σ2 H2=>tb { D with nx:=Pv (i+1),ct:=Pv (i+1),bk:=D.nx } σ2 H2) (hd:∀ σ H,Pv xs.length σ H->D.nx σ H) :
 ∃ W:Nat->Nat->St->Hp->Prop,(∃ m,W 0 m σ H)/\∀ i m σ H,W i m σ H->
  ((Ex K a).stop i H/\D.nx σ H)\/((Ex K a).go i H/\∃ N:St->Hp->Prop,(∀ σ' H',N σ' H'->∃ m',m'<m/\W (i+1) m' σ' H')/\∀ x H',(Ex K a).vM i H x H'->g x σ H' fun σ2 H2=>tb { D with nx:=N,ct:=N,bk:=D.nx } σ2 H2):=by
 refine⟨fun i m σ H=>m=xs.length-i/\i<=xs.length/\Pv i σ H,⟨xs.length,by simp,OP _,h0⟩,?_⟩;rintro i m σ H ⟨rfl,hi,p⟩;have q:=hl i σ H hi p;by_cases hlt:i<xs.length
 .refine .inr ⟨⟨xs,xs[i],q,by simp[hlt]⟩,Pv (i+1),fun σ' H' p'=>⟨xs.length-(i+1),by lia,rfl,hlt,p'⟩,fun x H' y=>?_⟩;obtain⟨e,y⟩:=y;subst e;exact hs i x σ _ (y xs q) p
 .have e:i=xs.length:=by lia
  subst e;exact .inl ⟨⟨xs,q,Oq _⟩,hd σ H p⟩
abbrev R2:=V->V->Hp->VK->Prop
def iN (X:Cx)(f:SI->SI->Sem SI)(r:R2):Prop:=
 ∀(af:List (Addr×Obj))(s:SF)(σ:St)(H:Hp)(x y:V)(v u:SI)(Q:VK),Inv X af σ H s->RelV x v->RelV y u->r x y H Q->
  wpAny (model X.prog X.w) X.A (f v u) (EP X af σ Q) X.xe s
def Kl (X:Cx)(f:SI->Sem SI)(r:V->Hp->VK->Prop):Prop:=
 ∀(af:List (Addr×Obj))(s:SF)(σ:St)(H:Hp)(x:V)(v:SI)(Q:VK),Inv X af σ H s->RelV x v->r x H Q->
  wpAny (model X.prog X.w) X.A (f v) (EP X af σ Q) X.xe s
def bQ (X:Cx)(f:SI)(r:List V->Hp->VK->Prop):Prop:=
 ∀(af:List (Addr×Obj))(s:SF)(σ:St)(H:Hp)(xs:List V)(us:List SI)(Q:VK),Inv X af σ H s->Vals xs us->r xs H Q->
  wpAny (model X.prog X.w) X.A (call f us) (EP X af σ Q) X.xe s
def Km (X:Cx)(r:V->Hp->(Bool->Hp->Prop)->Prop):Prop:=
 ∀(af:List (Addr×Obj))(s:SF)(σ:St)(H:Hp)(x:V)(v:SI)(Q:Bool->Hp->Prop),Inv X af σ H s->RelV x v->r x H Q->
  wpAny (model X.prog X.w) X.A (truthy v) (TP X af σ Q) X.xe s
noncomputable def aZ (r:R2)(ta tb:TE):TE:=fun σ H Q=>ta σ H fun x H1=>tb σ H1 fun y H2=>r x y H2 Q
noncomputable def L6 (r:V->Hp->VK->Prop)(ta:TE):TE:=fun σ H Q=>ta σ H fun x H1=>r x H1 Q
noncomputable def rI (C:Int->Int->Prop)(g:Int->Int->V):R2:=fun x y H Q=>∃ i j,x=.int i/\y=.int j/\C i j/\Q (g i j) H
noncomputable def qC (g:Int->Int->V):R2:=fun x y H Q=>∃ i j,x=.int i/\y=.int j/\Q (g i j) H
noncomputable def rU (g:Int->V):V->Hp->VK->Prop:=fun x H Q=>∃ i,x=.int i/\Q (g i) H
section
theorem Ey (ha:PE X a ta)(hb:PE X b tb){R:V->V->Hp->Prop}(I:Inv X af σ H s)
 (h:ta σ H fun x H1=>tb σ H1 fun y H2=>R x y H2) {Q:SI->SF->Prop} {f:SI->SI->Sem SI}
 (hf:∀ v u s2 x y H2,Inv X af σ H2 s2->RelV x v->RelV y u->R x y H2->wX X (f v u) Q X.xe s2) :
 wX X (eval a X.env) (fun v s₁=>wX X (eval b X.env) (fun u s₂=>wX X (f v u) Q X.xe s₂) X.xe s₁) X.xe s:=by
 refine b7 (ha af s σ H _ I h) fun v s1 ⟨x,H1,I1,r1,q1⟩=>?_;refine b7 (hb af s1 σ H1 _ I1 q1) fun u s2 ⟨y,H2,I2,r2,q2⟩=>?_;exact hf v u s2 x y H2 I2 r1 r2 q2
theorem aQ {op:Operator}(ho:iN X (binaryOp op) r)(ha:PE X a ta)(hb:PE X b tb):PE X (.BinOp a op b pos) (aZ r ta tb):=by intro af s σ H Q I h;exact wpAny_BinOp (Ey ha hb I h fun v u s2 x y H2 I2 rx ry q=>ho af s2 σ H2 x y v u Q I2 rx ry q)
theorem yb (ho:Kl X (unaryOp op) r)(ha:PE X a ta):PE X (.UnaryOp op a pos) (L6 r ta):=by intro af s σ H Q I h;exact UnaryOp_ (b7 (ha af s σ H _ I h) fun v s1 ⟨x,H1,I1,r1,q1⟩=>ho af s1 σ H1 x v Q I1 r1 q1)
theorem Hi {f:SI->SI->Sem SI}{C:Int->Int->Prop}{g:Int->Int->Int}
 (rule:∀(i j:Int)(t u:Tok)(s:SF)(Q:SI->SF->Prop)(E:SI->SF->Prop),C i j->Q (.int (g i j) s.toks) { s with toks:=s.toks+1 }->wX X (f (.int i t) (.int j u)) Q E s) :
 iN X f (rI C fun i j=>.int (g i j)):=by
 intro af s σ H x y v u Q I rx ry h;obtain⟨i,j,rfl,rfl,hc,q⟩:=h;obtain⟨t,rfl⟩:=rx;obtain⟨t',rfl⟩:=ry;exact rule i j t t' s _ _ hc ⟨.int (g i j),H,I.tok _,⟨_,rfl⟩,q⟩
theorem BN {f:SI->SI->Sem SI}{g:Int->Int->Int}
 (rule:∀(i j:Int)(t u:Tok)(s:SF)(Q:SI->SF->Prop)(E:SI->SF->Prop),Q (.int (g i j) s.toks) { s with toks:=s.toks+1 }->wX X (f (.int i t) (.int j u)) Q E s) :
 iN X f (qC fun i j=>.int (g i j)):=by
 intro af s σ H x y v u Q I rx ry h;obtain⟨i,j,rfl,rfl,q⟩:=h;obtain⟨t,rfl⟩:=rx;obtain⟨t',rfl⟩:=ry;exact rule i j t t' s _ _ ⟨.int (g i j),H,I.tok _,⟨_,rfl⟩,q⟩
theorem BO {f:SI->SI->Sem SI}{g:Int->Int->Bool}
 (rule:∀(i j:Int)(t u:Tok)(s:SF)(Q:SI->SF->Prop)(E:SI->SF->Prop),Q (.bool (g i j)) s->wX X (f (.int i t) (.int j u)) Q E s) :
 iN X f (qC fun i j=>.bl (g i j)):=by
 intro af s σ H x y v u Q I rx ry h;obtain⟨i,j,rfl,rfl,q⟩:=h;obtain⟨t,rfl⟩:=rx;obtain⟨t',rfl⟩:=ry;exact rule i j t t' s _ _ ⟨.bl (g i j),H,I,rfl,q⟩
def BP (i j:Int):Prop:=0<j/\j<1073741824
def Hj (i j:Int):Prop:=0<=j/\j<=1000000/\i.natAbs<2 ^ 64
def CMul (i j:Int):Prop:=(-(2 ^ 64)<i/\i<2 ^ 64)\/(-(2 ^ 64)<j/\j<2 ^ 64)
theorem CMul.ok (h:CMul i j):IntMulOk i j:=by
 rcases h with⟨h1,h2⟩|⟨h1,h2⟩
 .exact .of_left (intBits_le_64 h1 h2)
 .exact .of_right (intBits_le_64 h1 h2)
theorem sO (k:Nat):(0:Int)<=2 ^ k:=by rw[two_pow_cast];exact R_ _
theorem b6:iN X (binaryOp .Add) (qC fun i j=>.int (i+j)):=BN fun _ _ _ _ _ _ _ q=>add_int q
theorem yc:iN X (binaryOp .Sub) (qC fun i j=>.int (i-j)):=BN fun _ _ _ _ _ _ _ q=>sub_int q
theorem g8:iN X (binaryOp .Mult) (rI CMul fun i j=>.int (i*j)):=Hi fun _ _ _ _ _ _ _ hc q=>mul_int q hc.ok
theorem cC:iN X (binaryOp .FloorDiv) (rI BP fun i j=>.int (i / j)):=Hi fun i j _ _ _ _ _ hc q=>by have h1:(0:Int)<j:=hc.1;have h2:j<1073741824:=hc.2;exact floordiv_int (by lia) (by rw[Q3 i (by lia)];exact q) (.inl (PyProof.noPylong_small (by lia)))
theorem bz:iN X (binaryOp .Mod) (rI (fun _ j=>0<j) fun i j=>.int (i % j)):=Hi fun i j _ _ _ _ _ hc q=>by have h1:(0:Int)<j:=hc;exact mod_int' (by lia) (by rw[Int.fmod_eq_emod_of_nonneg i (by lia)];exact q)
theorem yd:iN X (binaryOp .Pow) (rI Hj fun i j=>.int (i ^ j.toNat)):=Hi fun _ _ _ _ _ _ _ hc q=>pow_int_small hc.1 hc.2.1 hc.2.2 q
theorem Ez:iN X (binaryOp .RShift) (rI (fun _ j=>0<=j) fun i j=>.int (i / 2 ^ j.toNat)):=Hi fun i j _ _ _ _ _ hc q=>rshift_int hc (by rw[Q3 i (sO _)];exact q)
theorem EA:iN X (binaryOp .BitAnd) (qC fun i j=>.int (Builtin.bitAnd i j)):=BN fun _ _ _ _ _ _ _ q=>and_int q
theorem EB:iN X (binaryOp .BitXor) (qC fun i j=>.int (Builtin.bitXor i j)):=BN fun _ _ _ _ _ _ _ q=>xor_int q
theorem M4 {f:SI->Sem SI}{g:Int->Int}
 (rule:∀(i:Int)(t:Tok)(s:SF)(Q:SI->SF->Prop)(E:SI->SF->Prop),Q (.int (g i) s.toks) { s with toks:=s.toks+1 }->wX X (f (.int i t)) Q E s) :
 Kl X f (rU fun i=>.int (g i)):=by
 intro af s σ H x v Q I rx h;obtain⟨i,rfl,q⟩:=h;obtain⟨t,rfl⟩:=rx;exact rule i t s _ _ ⟨.int (g i),H,I.tok _,⟨_,rfl⟩,q⟩
theorem sP:Kl X (unaryOp .USub) (rU fun i=>.int (-i)):=M4 fun _ _ _ _ _ q=>neg_int q
end
noncomputable def Hk:V->V->Bool
 | .bC,.bC=>true|.bC,.int _=>true|.int _,.bC=>true|.bC,.bl _=>true|.bl _,.bC=>true|.bC,.str _=>true|.str _,.bC=>true
 | .int _,.int _=>true|.bl _,.bl _=>true|.str _,.str _=>true|.vJ _,.vJ _=>true
 | .int _,.str _=>true|.str _,.int _=>true|.bl _,.str _=>true|.str _,.bl _=>true
 |_,_=>false
def ou:R2:=fun x y H Q=>Hk x y=true/\Q (.bl (decide (x=y))) H
def Kn:R2:=fun x y H Q=>Hk x y=true/\Q (.bl (!decide (x=y))) H
theorem uG:decide (V.int i=V.int j)=(i==j):=by rw[Rm];simp
theorem ye:decide (V.bl i=V.bl j)=(i==j):=by rw[Rm];simp
theorem uH:decide (V.str i=V.str j)=(i==j):=by rw[Rm];simp
theorem uI:decide (V.vJ i=V.vJ j)=(i.toList==j.toList):=by rw[Rm];cases i;cases j;simp
section
theorem bv (I:Inv X af σ H s)(q:Q (.bl k) H)(e:k=k'):EP X af σ Q (.bool k') s:=by subst e;exact⟨.bl k,H,I,rfl,q⟩
theorem dY:iN X (compareOp .Eq) ou:=by
 intro af s σ H x y v u Q I rx ry h;obtain⟨hs,q⟩:=h;cases x with
 |bC=>
  cases rx;cases y with
  |bC=>cases ry;exact PySem.EqNone.eq_none_none (bv I q (by simp))
  |bl j=>cases ry;exact PySem.EqNone.eq_none_bool (bv I q (by simp))
  |int j=>obtain⟨t',rfl⟩:=ry;exact PySem.EqNone.eq_none_int (bv I q (by simp))
  |str j=>obtain⟨t',rfl⟩:=ry;exact PySem.EqNone.eq_none_str (bv I q (by simp))
  |_=>exact absurd (show false=true from hs) ON
 |bl i=>
  cases rx;cases y with
  |bC=>cases ry;exact PySem.EqNone.eq_bool_none (bv I q (by simp))
  |bl j=>cases ry;exact eq_bool (bv I q ye)
  |str j=>obtain⟨t',rfl⟩:=ry;exact PySem.EqMixed.eq_bool_str (bv I q (by simp))
  |_=>exact absurd (show false=true from hs) ON
 |int i=>
  obtain⟨t,rfl⟩:=rx;cases y with
  |bC=>cases ry;exact PySem.EqNone.eq_int_none (bv I q (by simp))
  |int j=>obtain⟨t',rfl⟩:=ry;exact eq_int (bv I q uG)
  |str j=>obtain⟨t',rfl⟩:=ry;exact PySem.EqMixed.eq_int_str (bv I q (by simp))
  |_=>exact absurd (show false=true from hs) ON
 |str i=>
  obtain⟨t,rfl⟩:=rx;cases y with
  |bC=>cases ry;exact PySem.EqNone.eq_str_none (bv I q (by simp))
  |bl j=>cases ry;exact PySem.EqMixed.eq_str_bool (bv I q (by simp))
  |int j=>obtain⟨t',rfl⟩:=ry;exact PySem.EqMixed.eq_str_int (bv I q (by simp))
  |str j=>obtain⟨t',rfl⟩:=ry;exact eq_str (bv I q uH)
  |_=>exact absurd (show false=true from hs) ON
 |vJ i=>
  obtain⟨t,rfl⟩:=rx;cases y with
  |vJ j=>obtain⟨t',rfl⟩:=ry;exact PySem.W.eq_bytes (bv I q uI)
  |_=>exact absurd (show false=true from hs) ON
 |_=>cases y<;>exact absurd (show false=true from hs) ON
theorem DG:iN X (compareOp .NotEq) Kn:=by
 intro af s σ H x y v u Q I rx ry h;obtain⟨hs,q⟩:=h;cases x with
 |bC=>
  cases rx;cases y with
  |bC=>cases ry;exact PySem.EqNone.ne_none_none (bv I q (by simp))
  |bl j=>cases ry;exact PySem.EqNone.ne_none_bool (bv I q (by simp))
  |int j=>obtain⟨t',rfl⟩:=ry;exact PySem.EqNone.ne_none_int (bv I q (by simp))
  |str j=>obtain⟨t',rfl⟩:=ry;exact PySem.EqNone.ne_none_str (bv I q (by simp))
  |_=>exact absurd (show false=true from hs) ON
 |bl i=>
  cases rx;cases y with
  |bC=>cases ry;exact PySem.EqNone.ne_bool_none (bv I q (by simp))
  |bl j=>cases ry;exact ne_bool (bv I q (PJ not ye))
  |str j=>obtain⟨t',rfl⟩:=ry;exact PySem.EqMixed.ne_bool_str (bv I q (by simp))
  |_=>exact absurd (show false=true from hs) ON
 |int i=>
  obtain⟨t,rfl⟩:=rx;cases y with
  |bC=>cases ry;exact PySem.EqNone.ne_int_none (bv I q (by simp))
  |int j=>obtain⟨t',rfl⟩:=ry;exact ne_int (bv I q (PJ not uG))
  |str j=>obtain⟨t',rfl⟩:=ry;exact PySem.EqMixed.ne_int_str (bv I q (by simp))
  |_=>exact absurd (show false=true from hs) ON
 |str i=>
  obtain⟨t,rfl⟩:=rx;cases y with
  |bC=>cases ry;exact PySem.EqNone.ne_str_none (bv I q (by simp))
  |bl j=>cases ry;exact PySem.EqMixed.ne_str_bool (bv I q (by simp))
  |int j=>obtain⟨t',rfl⟩:=ry;exact PySem.EqMixed.ne_str_int (bv I q (by simp))
  |str j=>obtain⟨t',rfl⟩:=ry;exact ne_str (bv I q (PJ not uH))
  |_=>exact absurd (show false=true from hs) ON
 |vJ i=>
  obtain⟨t,rfl⟩:=rx;cases y with
  |vJ j=>obtain⟨t',rfl⟩:=ry;exact PySem.W.ne_bytes (bv I q (PJ not uI))
  |_=>exact absurd (show false=true from hs) ON
 |_=>cases y<;>exact absurd (show false=true from hs) ON
theorem uJ:iN X (compareOp .Lt) (qC fun i j=>.bl (decide (i<j))):=BO fun _ _ _ _ _ _ _ q=>lt_int q
theorem Hl:iN X (compareOp .LtE) (qC fun i j=>.bl (decide (i<=j))):=BO fun _ _ _ _ _ _ _ q=>le_int q
theorem qM:iN X (compareOp .Gt) (qC fun i j=>.bl (decide (j<i))):=BO fun _ _ _ _ _ _ _ q=>gt_int q
theorem Hm:iN X (compareOp .GtE) (qC fun i j=>.bl (decide (j<=i))):=BO fun _ _ _ _ _ _ _ q=>ge_int q
theorem EC:iN X (compareOp .Is) (fun x y H Q=>y=.bC/\Q (.bl (decide (x=.bC))) H):=by
 intro af s σ H x y v u Q I rx ry h;obtain⟨rfl,q⟩:=h;cases ry;refine is_none_gen (bv I q ?_);cases x<;>first
  |(cases rx;rfl)
  |(obtain⟨t,rfl⟩:=rx;rfl)
theorem BQ:iN X (compareOp .IsNot) (fun x y H Q=>y=.bC/\Q (.bl (!decide (x=.bC))) H):=by
 intro af s σ H x y v u Q I rx ry h;obtain⟨rfl,q⟩:=h;cases ry;refine isnot_none_gen (bv I q ?_);cases x<;>first
  |(cases rx;rfl)
  |(obtain⟨t,rfl⟩:=rx;rfl)
theorem aY (b:Expr)(h:autoParam (op≠.In) SK._auto_1)(h2:autoParam (op≠.NotIn) SK._auto_1):behindInMarks op b=false:=by
 have e1:(op==CmpOp.In)=false:=by cases op<;>first|rfl|exact absurd rfl h
 have e2:(op==CmpOp.NotIn)=false:=by cases op<;>first|rfl|exact absurd rfl h2
 cases b<;>simp[behindInMarks,e1,e2]
theorem gy (ho:iN X (compareOp op) r)(ha:PE X a ta)(hb:PE X b tb)(hm:behindInMarks op b=false):PE X (.Compare a [op] [b] pos) (aZ r ta tb):=by intro af s σ H Q I h;exact wpAny_Compare1 (Ey ha hb I h fun v u s2 x y H2 I2 rx ry q=>ho af s2 σ H2 x y v u Q I2 rx ry q) hm
noncomputable def br (t:TE):TT:=fun σ H Q=>t σ H fun x H'=>∃ k,x=.bl k/\Q k H'
theorem aU (ho:iN X (compareOp op) r)(ha:PE X a ta)(hb:PE X b tb)(hm:behindInMarks op b=false):PT X (.Compare a [op] [b] pos) (br (aZ r ta tb)):=by intro af s σ H Q I h;refine wpAny_isTrue_Compare1 (b7 (ha af s σ H _ I h) fun v s1 ⟨x,H1,I1,r1,q1⟩=>b7 (hb af s1 σ H1 _ I1 q1) fun u s2 ⟨y,H2,I2,r2,q2⟩=>b7 (ho af s2 σ H2 x y v u _ I2 r1 r2 q2) fun c s3 ⟨z,H3,I3,r3,k,e,q3⟩=>?_) hm;subst e;cases r3;exact PX ⟨H3,I3,q3⟩
noncomputable def yf (r r':R2)(ta tb tc:TE):TE:=fun σ H Q=>ta σ H fun x H1=>tb σ H1 fun y H2=>r x y H2 fun z H3=>∃ k,z=.bl k/\
 (if k=true then tc σ H3 fun w' H4=>r' y w' H4 Q else Q (.bl false) H3)
theorem yg (ho:iN X (compareOp op) r)(ho':iN X (compareOp op') r')(ha:PE X a ta)(hb:PE X b tb)(hc:PE X c tc)
 (hm:lastMarks [op,op'] [b,c]=false:=by with_unfolding_all rfl):PT X (.Compare a [op,op'] [b,c] pos) (br (yf r r' ta tb tc)):=by
 intro af s σ H Q I h;refine isTrue_chain (b7 (ha af s σ H _ I h) fun v s1 ⟨x,H1,I1,r1,q1⟩=>test_link (b7 (hb af s1 σ H1 _ I1 q1) fun u s2 ⟨y,H2,I2,r2,q2⟩=>b7 (ho af s2 σ H2 x y v u _ I2 r1 r2 q2) fun d s3 ⟨z,H3,I3,r3,k,e,q3⟩=>?_)) hm;subst e;cases r3;refine PX ?_;cases k with
 |false=>obtain⟨k',e',q'⟩:=q3;cases e';exact ite_ff ⟨H3,I3,q'⟩
 |true=>refine ite_tt (test_last (b7 (hc af s3 σ H3 _ I3 q3) fun w' s4 ⟨z',H4,I4,r4,q4⟩=>b7 (ho' af s4 σ H4 y z' u w' _ I4 r2 r4 q4) fun d' s5 ⟨z2,H5,I5,r5,k2,e2,q5⟩=>?_));subst e2;cases r5;exact PX ⟨H5,I5,q5⟩
def ED (K:SG)(x:V)(H:Hp)(k:Bool):Prop:=
 match x with
 | .bC=>k=false
 | .bl b=>k=b
 | .int i=>k=(i != 0)
 | .str y=>y.length<=sizeLine/\k=((y.length:Int) != 0)
 | .vJ y=>y.size<=sizeLine/\k=((y.size:Int) != 0)
 | .ref p=>(∃ xs,SqL K H p xs/\k=!xs.isEmpty)\/(∃ xs,SqT K H p xs/\k=!xs.isEmpty)\/∃ kvs,H p=some (.dK kvs)/\k=!kvs.isEmpty
 |_=>False
theorem sQ {κ:Type}{kvs:List (κ×V)}{vs:List (κ×SI)}(r:KV kvs vs):(!vs.isEmpty)=!kvs.isEmpty:=by cases r<;>rfl
theorem lH (r:Vals xs its):(!its.toArray.isEmpty)=!xs.isEmpty:=by cases r<;>simp
theorem pj:(sizeLine:Nat)<2 ^ 63:=by rw[OG];decide
theorem EE:Km X (fun x H Q=>∃ k,ED X.K x H k/\Q k H):=by
 intro af s σ H x v Q I rx h;obtain⟨k,e,q⟩:=h;have hl:=pj;have hs:sizeLine=16777216:=OG;cases x with
 |bC=>cases rx;have e':k=false:=e;subst e';exact truthy_none ⟨H,I,q⟩
 |bl b=>cases rx;have e':k=b:=e;subst e';exact PX ⟨H,I,q⟩
 |int i=>obtain⟨t,rfl⟩:=rx;have e':k=(i != 0):=e;subst e';exact PySem.P.truthy_int ⟨H,I,q⟩
 |str y=>obtain⟨t,rfl⟩:=rx;obtain⟨hy,e'⟩ : y.length<=sizeLine/\k=((y.length:Int) != 0):=e;subst e';exact PySem.P.truthy_str (by lia) ⟨H,I.tok _,q⟩
 |vJ y=>obtain⟨t,rfl⟩:=rx;obtain⟨hy,e'⟩ : y.size<=sizeLine/\k=((y.size:Int) != 0):=e;subst e';exact PySem.W.truthy_bytes (by lia) ⟨H,I.tok _,q⟩
 |ref p=>
  cases rx;have e':(∃ xs,SqL X.K H p xs/\k=!xs.isEmpty)\/(∃ xs,SqT X.K H p xs/\k=!xs.isEmpty)\/∃ kvs,H p=some (.dK kvs)/\k=!kvs.isEmpty:=e;rcases e' with⟨xs,hx,e'⟩|⟨xs,hx,e'⟩|⟨kvs,hx,e'⟩
  .subst e';obtain⟨its,r,pl,hz⟩:=I.list hx;have bW:=r.length;exact wpAny_truthy_list pl.isList (by simp only[OA];lia) ⟨H,I.tok _,by rw[lH r];exact q⟩
  .subst e';obtain⟨its,r,pl,hz⟩:=I.tuple hx;have bW:=r.length;exact truthy_tuple pl (by simp only[OA];lia) ⟨H,I.tok _,by rw[lH r];exact q⟩
  .subst e';obtain⟨hz,hS,vs,r,m⟩ : kvs.length<=sizeLine/\(p==sysModules)=false/\∃ vs,KV kvs vs/\s.heap.DictOf (aS X.prog X.w) p vs:=I.aX p _ hx;have bW:kvs.length=vs.length:=QY r;exact wpAny_truthy_dict hS m (by lia) ⟨H,I.tok _,by rw[sQ r];exact q⟩
 |_=>exact(show False from e).elim
theorem yh (ha:PE X a ta)(he:∀ whole,isTrue a X.env whole=(do let v <- whole;standAt a.pos;holding [v] (truthy v))) :
 PT X a (fun σ H Q=>ta σ H fun x H'=>∃ k,ED X.K x H' k/\Q k H'):=by
 intro af s σ H Q I h;exact isTrue_plain (b7 (ha af s σ H _ I h) fun v s1 ⟨x,H1,I1,r1,q1⟩=>EE af s1 σ H1 x v Q I1 r1 q1) (he _)
theorem dm (r:Vals [x] us):∃ u,us=[u]/\RelV x u:=by
 cases r with
 |cons r1 r2=>cases r2;exact⟨_,rfl,r1⟩
theorem lI (r:Vals [x,y] us):∃ u w',us=[u,w']/\RelV x u/\RelV y w':=by
 cases r with
 |cons r1 r2=>
  cases r2 with
  |cons r3 r4=>cases r4;exact⟨_,_,rfl,r1,r3⟩
theorem vT (hc:X.calm=true):bQ X (.builtin "max") (fun xs H Q=>∃ i j,xs=[.int i,.int j]/\Q (.int (if j>i then j else i)) H):=by
 intro af s σ H xs us Q I r h;obtain⟨i,j,rfl,q⟩:=h;obtain⟨u,w',rfl,⟨t,rfl⟩,⟨t',rfl⟩⟩:=lI r;refine max_two_ints (I.ok.hd hc) fun h' tk k=>⟨_,H,I.kept k,?_,q⟩;by_cases hj:j>i
 .rw[OK hj,OK hj];exact⟨_,rfl⟩
 .rw[OL hj,OL hj];exact⟨_,rfl⟩
theorem vU (hc:X.calm=true):bQ X (.builtin "min") (fun xs H Q=>∃ i j,xs=[.int i,.int j]/\Q (.int (if j<i then j else i)) H):=by
 intro af s σ H xs us Q I r h;obtain⟨i,j,rfl,q⟩:=h;obtain⟨u,w',rfl,⟨t,rfl⟩,⟨t',rfl⟩⟩:=lI r;refine min_two_ints (I.ok.hd hc) fun h' tk k=>⟨_,H,I.kept k,?_,q⟩;by_cases hj:j<i
 .rw[OK hj,OK hj];exact⟨_,rfl⟩
 .rw[OL hj,OL hj];exact⟨_,rfl⟩
theorem vV:bQ X (.type "int") (fun xs H Q=>(∃ i,xs=[.int i]/\Q (.int i) H)\/∃ k,xs=[.bl k]/\Q (.int (if k then 1 else 0)) H):=by
 intro af s σ H xs us Q I r h;rcases h with⟨i,rfl,q⟩|⟨k,rfl,q⟩
 .obtain⟨u,rfl,t,rfl⟩:=dm r;exact call_int_int ⟨.int i,H,I,⟨_,rfl⟩,q⟩
 .obtain⟨u,rfl,r1⟩:=dm r;cases r1;exact call_int_bool ⟨.int (if k then 1 else 0),H,I.tok _,⟨_,rfl⟩,q⟩
theorem qN:bQ X (.builtin "divmod") (fun xs H Q=>∃ i j,xs=[.int i,.int j]/\BP i j/\∀ p,H p=none->Q (.ref p) (upd H p (.tup [.int (i / j),.int (i % j)]))):=by intro af s σ H xs us Q I r h;obtain⟨i,j,rfl,⟨h1,h2⟩,q⟩:=h;obtain⟨u,w',rfl,⟨t,rfl⟩,⟨t',rfl⟩⟩:=lI r;refine divmod_int (by lia) ?_ (.inl (PyProof.noPylong_small (by lia)));rw[Q3 i (by lia),Int.fmod_eq_emod_of_nonneg i (by lia)];have hn:H s.heap.objs.size=none:=I.aX.fresh (Oq _);refine⟨.ref s.heap.objs.size,_,?_,rfl,q _ hn⟩;refine I.laid (fun b o e=>Oo _ e) (Oq _) ⟨by simp only[OJ,P7];rw[OG];decide,[.int (i / j) s.toks,.int (i % j) (s.toks+1)],.cons ⟨_,rfl⟩ (.cons ⟨_,rfl⟩ .nil),?_⟩;exact⟨_,Oz s.heap rfl,rfl,0,rfl⟩
end
structure uC (h:Heap) (x dx C:Addr) (mA:Str->Option SI):Prop where
 obj:h.get? x=some (PySem.W.instObj C dx)
 ns:h.Ns1 dx mA
 ne:dx≠x
theorem vW {h:Heap}{mA:Str->Option SI}(n:h.Ns1 dx mA):∃ od,h.get? dx=some od/\∀ name,PySem.W.lookIn name od=some (mA name):=by
 obtain⟨o,es,ep,ho,hd,hk,_,hm⟩:=n;refine⟨o,ho,fun name=>?_⟩;have e:=hm name;unfold nsFind findBy at e;rw[<- Array.find?_toList]at e;unfold PySem.W.lookIn;rw[hd];dsimp only;split
 .rename_i y q;rw[q]at e;exact PJ some e
 .rename_i q;rw[q]at e;have a:es.toList.any (·.refKey)=false:=by rw[List.any_eq_false];intro y hy;obtain⟨z,t,gX⟩:=hk y (Array.mem_toList_iff.mp hy);simp[DictEntry.refKey,gX]
  have a':¬ es.toList.any (·.refKey)=true:=by rw[a];exact ON
  rw[OL a'];exact PJ some e
theorem uC.look (I:uC h x dx C mA):∃ od,PySem.W.InstAt h x (PySem.W.instObj C dx) C (some od)/\∀ name,PySem.W.lookIn name od=some (mA name):=
 let ⟨od,ho,hl⟩:=vW I.ns
 ⟨od,⟨I.obj,rfl,rfl,ho⟩,hl⟩
section
variable {prog:SH}{w:World}{A:SJ}{E:SI->SF->Prop}{s:SF}{K:SG}{x dx C f:Addr}{mA:Str->Option SI}{name:Str}{v:SI}
theorem BR (X:K.In s.heap)(I:uC s.heap x dx C mA)(hg:PySem.W.plainGet K C name=true)(hh:PySem.W.hasDictIn K C=true)
 (ha:PySem.W.findIn K (.ref C) name=some none) (hv:mA name=some v) (hv':PySem.W.handedIn v=true) (h:Q v { s with toks:=s.toks+1 }) :
 wpAny (model prog w) A (getAttr (.ref x) name expr) Q E s:=by
 obtain⟨od,J,hl⟩:=I.look;exact PySem.W.get_value X J (RZ hg).1 (PySem.W.findObj_own hh ha rfl (by rw[hl,hv])) hv' h
theorem yi (X:K.In s.heap)(I:uC s.heap x dx C mA)(hg:PySem.W.plainGet K C name=true)
 (hf:PySem.W.findIn K (.ref C) name=some (some (.ref f))) (ht:PySem.W.isFn K (.ref f)=true) (hv:mA name=none) (h:Q (.ref f,[.ref x]) s) :
 wpAny (model prog w) A (getMethod (.ref x) name pl) Q E s:=by
 obtain⟨od,J,hl⟩:=I.look;exact PySem.W.method_fn X J (RZ hg).1 (RZ hg).2 hf (Rh.mp ht) (by show(PySem.W.lookIn name od).map (·.isSome)=some false;rw[hl,hv];rfl) h
theorem BS (X:K.In s.heap)(I:uC s.heap x dx C mA)
 (hs:PySem.W.findIn K (.ref C) "__setattr__"=some (some (.builtin "object.__setattr__"))) (hp:PySem.W.plainOver K C=true) (ht:PySem.W.takerIn K C name=some none) (hh:PySem.W.hasDictIn K C=true)
 (hw:PySem.Within mA ns) (hsz:ns.length<=sizeLine)
 (h:∀ h',uC h' x dx C (fun y=>if y=name then some v else mA y)->Heap.SameBut dx s.heap h'->Q () { s with heap:=h',toks:=s.toks+2 }) :
 wpAny (model prog w) A (setAttr (.ref x) name v) Q E s:=by
 obtain⟨od,J,hl⟩:=I.look;refine PySem.W.set_plain X J hs (PySem.W.osa_open (s:={ s with toks:=s.toks+1 }) (r:=none) X J hp ht fun b=>?_);obtain⟨cd,hc,hd'⟩:=PySem.W.any_some hh;have hx:s.heap.get? x=some ⟨.ref C,some dx,.plain,#[]⟩:=I.obj;refine KE (Os (KE (KE (wpAny_loadPart hx (KE (PySem.W.Looks.here (s:={ s with toks:=s.toks+1 }) (PySem.W.looks_clsIn X hc) ?_))))));rw[hd'];refine Os (a:=some dx) (KE (Os (KE ?_)));refine wpAny_nsSet1 (s:={ s with toks:=s.toks+1 }) I.ns fun h' hn2 hs2=>?_;obtain⟨oD,esD,epD,hoD,hdD,hcD⟩:=hn2.count (PySem.Within.cons name v hw);refine KE (wpAny_lookBehind hoD (by rw[hdD];exact pastItsLine_dict (OR hcD (by rw[OJ];lia))) ?_);exact Os (h _ ⟨(hs2.2 _ (Pw I.ne)).trans I.obj,hn2,I.ne⟩ hs2)
theorem yj (X:K.In s.heap)(hm:PySem.W.makesIn K C=true)
 (hi:PySem.W.findIn K (.ref C) "__init__"=some (some (.ref f))) (hf:PySem.W.typeIn K (.ref f)=some (.type "function"))
 (h:codeAny (model prog w) (A.under (.builtin "type.__call__" ⟨.ref C::vs,kw⟩)) (.call (.ref f) ⟨.ref (s.heap.objs.size+1)::vs,kw⟩) (PySem.W.InitBack (s.heap.objs.size+1) R)
   { s with heap:=(s.heap.push PySem.W.emptyDict).push (PySem.W.instObj C s.heap.objs.size) }) :
 codeAny (model prog w) A (.call (.ref C) ⟨vs,kw⟩) R s:=by
 obtain⟨hh,g,d,t,os⟩:=s;exact PySem.W.make_core (PySem.W.makes_of X hm) (PySem.W.looks_findIn X hi) (fun self=>PySem.W.bind_fn X self hf) (.inl rfl) h
end
noncomputable def f9 (f:Str)(v:V):List (Str×V)->List (Str×V)
 | []=>[(f,v)]
 |(g,x)::r=>if g=f then (g,v)::r else (g,x)::f9 f v r
theorem kB (f g:Str)(v:V):∀ fs:List (Str×V),(f9 f v fs).lookup g=if g=f then some v else fs.lookup g
 | []=>by
  show List.lookup g [(f,v)]=_
  grind
 |(k,x)::r=>by
  have ih:=kB f g v r
  grind [f9]
theorem jZ (f:Str)(v:V):∀ fs:List (Str×V),f∈(f9 f v fs).map (·.1)/\∀ g,g∈fs.map (·.1)->g∈(f9 f v fs).map (·.1)
 | []=>⟨by simp[f9],fun g h=>by simp at h⟩
 |(k,x)::r=>by
  obtain⟨i1,i2⟩:=jZ f v r
  grind [f9]
theorem kC (f:Str)(v:V):∀ fs:List (Str×V),(f9 f v fs).length<=fs.length+1
 | []=>by simp[f9]
 |(k,x)::r=>by
  have ih:=kC f v r;rw[show f9 f v ((k,x)::r)=(if k=f then (k,v)::r else (k,x)::f9 f v r) from rfl];by_cases hk:k=f
  .rw[OK hk,OJ,OJ];lia
  .rw[OL hk,OJ,OJ];lia
theorem RelO.some_of (r:RelO (some v) o):∃ u,o=some u/\RelV v u:=by
 cases o with
 |none=>exact(show False from r).elim
 |some u=>exact⟨u,rfl,r⟩
theorem RelO.none_of (r:RelO none o):o=none:=by
 cases o with
 |none=>rfl
 |some u=>exact(show False from r).elim
theorem vX (r:RelV v u):PySem.W.handedIn u=true:=by
 cases v with
 |bC=>cases (show u=Value.none from r);rfl
 |bl b=>cases (show u=Value.bool b from r);rfl
 |int i=>obtain⟨t,e⟩:=(show ∃ t,u=Value.int i t from r);cases e;rfl
 |str x=>obtain⟨t,e⟩:=(show ∃ t,u=Value.str x t from r);cases e;rfl
 |vJ b=>obtain⟨t,e⟩:=(show ∃ t,u=Value.bytes b t from r);cases e;rfl
 |Gy b=>obtain⟨t,e⟩:=(show ∃ t,u=Value.float b t from r);cases e;rfl
 |ref a=>cases (show u=Value.ref a from r);rfl
 |ty n=>cases (show u=Value.type n from r);rfl
section
theorem kX (aX:HOk P w H h)(e:H a=some (.ins C dx fs)):∃ mA,uC h a dx C mA/\(∀ f,RelO (fs.lookup f) (mA f))/\PySem.Within mA (fs.map (·.1))/\fs.length<=1000/\H dx=some (.own a):=by obtain⟨d,z,ne,ob,mA,n,r,q⟩:=(show ObjOk P w H h a (.ins C dx fs) from aX a _ e);exact⟨mA,⟨ob,n,ne⟩,r,q,z,d⟩
end
structure qz (K:SG) (C:Addr):Prop where
 pg:PySem.W.plainGet K C Str.empty=true
 hd:PySem.W.hasDictIn K C=true
 po:PySem.W.plainOver K C=true
 sa:PySem.W.findIn K (.ref C) "__setattr__"=some (some (.builtin "object.__setattr__"))
theorem qz.get {K:SG}(c:qz K C)(f:Str):PySem.W.plainGet K C f=true:=c.pg
def NoAttr (K:SG)(C:Addr)(f:Str):Prop:=PySem.W.findIn K (.ref C) f=some none
theorem NoAttr.taker {K:SG}(n:NoAttr K C f):PySem.W.takerIn K C f=some none:=by unfold PySem.W.takerIn;rw[show PySem.W.findIn K (.ref C) f=some none from n];rfl
structure Meth (K:SG) (C:Addr) (m:Str) (f:Addr):Prop where
 at_:PySem.W.findIn K (.ref C) m=some (some (.ref f))
 fn:PySem.W.isFn K (.ref f)=true
 kp:PySem.W.keepIn K (.ref f)=true
section
theorem sR (I:Inv X af σ H s)(e:H a=some (.ins C dx fs))(c:qz X.K C)(n:NoAttr X.K C f)(l:fs.lookup f=some v)
 (h:∀ u s',Inv X af σ H s'->RelV v u->Q u s'):wpAny (model X.prog X.w) A (getAttr (.ref a) f b) Q E s:=by
 obtain⟨mA,O,r,_,_,_⟩:=kX I.aX e;obtain⟨u,hu,ru⟩:=RelO.some_of (v:=v) (o:=mA f) (by rw[<- l];exact r f);exact BR I.iW O (c.get f) c.hd n hu (vX ru) (h u _ (I.tok _) ru)
theorem lJ (I:Inv X af σ H s)(e:H a=some (.ins C dx fs))(c:qz X.K C)(k:Meth X.K C m g)(l:fs.lookup m=none)
 (h:Q (.ref g,[.ref a]) s):wpAny (model X.prog X.w) A (getMethod (.ref a) m pl) Q E s:=by
 obtain⟨mA,O,r,_,_,_⟩:=kX I.aX e;have hn:mA m=none:=RelO.none_of (by rw[<- l];exact r m);exact yi I.iW O (c.get m) k.at_ k.fn hn h
theorem sS (I:Inv X af σ H s)(e:H a=some (.ins C dx fs))(c:qz X.K C)(n:NoAttr X.K C f)(hl:fs.length<1000)(ry:RelV y u)
 (h:∀ s',Inv X af σ (upd H a (.ins C dx (f9 f y fs))) s'->Q () s'):wpAny (model X.prog X.w) A (setAttr (.ref a) f u) Q E s:=by
 obtain⟨mA,O,r,wi,_,ho⟩:=kX I.aX e;have hz:(fs.map (·.1)).length<=sizeLine:=by rw[Ot,OG];lia
 refine BS I.iW O c.sa c.po n.taker c.hd wi hz fun h' O' sb=>h _ ?_;have hd:∃ o,h'.get? dx=some o:=let ⟨o,_,_,e',_⟩:=O'.ns;⟨o,e'⟩;refine I.write (x:=a) (e:=dx) (by rw[e];exact True.intro) (.inr ho) (fun b q hb z=>(sb.2 b hb).trans z) hd ?_;refine⟨by rw[aA O.ne];exact ho,?_,O.ne,O'.obj,_,O'.ns,fun g=>?_,fun g hg=>?_⟩
 .have:=kC f y fs;lia
 .grind [RelO,f9,kB]
 .by_cases q:g=f
  .rw[q];exact(jZ f y fs).1
  .refine(jZ f y fs).2 g (wi g fun z=>hg ?_);show(if g=f then some u else mA g)=none;rw[OL q];exact z
theorem Inv.made (I:Inv X af σ H s):Inv X af σ (upd (upd H s.heap.objs.size (.own (s.heap.objs.size+1))) (s.heap.objs.size+1) (.ins C s.heap.objs.size []))
 { s with heap:=(s.heap.push PySem.W.emptyDict).push (PySem.W.instObj C s.heap.objs.size) }:=by
 have e1:(s.heap.push PySem.W.emptyDict).get? s.heap.objs.size=some PySem.W.emptyDict:=Oz s.heap rfl;have e2:((s.heap.push PySem.W.emptyDict).push (PySem.W.instObj C s.heap.objs.size)).get? (s.heap.objs.size+1)=some (PySem.W.instObj C s.heap.objs.size):=by
  have:=Oz (s.heap.push PySem.W.emptyDict) (o:=PySem.W.instObj C s.heap.objs.size) rfl
  rwa [QC]at this
 have e3:(s.heap.push PySem.W.emptyDict).Ns s.heap.objs.size (fun _=>none):=⟨PySem.W.emptyDict,#[],_,e1,rfl,(fun e he=>absurd he (by simp)),fun _=>rfl⟩;have I1:=I.laid (a:=s.heap.objs.size) (o:=.own (s.heap.objs.size+1)) (h':=s.heap.push PySem.W.emptyDict) (t':=s.toks) (fun b u q=>Oo _ q) (Oq _) ⟨_,e1⟩;refine I1.laid (a:=s.heap.objs.size+1) (o:=.ins C s.heap.objs.size []) (t':=s.toks) (fun b u q=>Oo _ q) (Sa (QC _ _)) ?_;have ne:s.heap.objs.size≠s.heap.objs.size+1:=OQ (P_ _);refine⟨by rw[aA ne,ao],OP _,ne,e2,fun _=>none,(Heap.Ns1.of_empty e3).at fun o q=>Oo _ q,fun _=>True.intro,fun y hy=>absurd rfl hy⟩
theorem BU (hb:attributeBase e f env (eval e env)=eval e env)
 (h:wpAny (model prog w) A (eval e env) (fun o s₁=>wpAny (model prog w) A (getAttr o f true) Q E s₁) E s):wpAny (model prog w) A (eval (.Attribute e f pos) env) Q E s:=
 Attribute_any_ h (by rw[arm_eval_Attribute,hb])
end
def dR (K:SG)(ta:TE)(f:Str):TE:=fun σ H Q=>ta σ H fun x H1=>∃ a C dx fs v,x=.ref a/\H1 a=some (.ins C dx fs)/\qz K C/\NoAttr K C f/\fs.lookup f=some v/\Q v H1
def pk (K:SG)(ta tv:TE)(f:Str):TS:=fun D σ H=>tv σ H fun y H1=>ta σ H1 fun x H2=>∃ a C dx fs,x=.ref a/\H2 a=some (.ins C dx fs)/\qz K C/\NoAttr K C f/\fs.length<1000/\
 D.nx σ (upd H2 a (.ins C dx (f9 f y fs)))
section
theorem cq (he:PE X e ta)(hb:attributeBase e f X.env (eval e X.env)=eval e X.env):PE X (.Attribute e f pos) (dR X.K ta f):=by intro af s σ H Q I h;refine BU hb (b7 (he af s σ H _ I h) fun u s1 z=>?_);obtain⟨x,H1,I1,rx,a,C,dx,fs,v,rfl,ea,c,n,l,q⟩:=z;obtain rfl:u=Value.ref a:=rx;exact sR I1 ea c n l fun u' s2 I2 ru=>⟨v,H1,I2,ru,q⟩
theorem g9 (ha:PE X o ta)(hv:PE X value tv)(hs:swapsWith value (some (.Attribute o f pos')) pos.line X.env=pure false):PS X (.Assign [.Attribute o f pos'] value pos) (pk X.K ta tv f):=by intro af s σ H D I h;refine plainObj_wpAny_Assign_Attribute (b7 (hv af s σ H _ I h) fun u s1 ⟨y,H1,I1,ry,q⟩=>b7 (ha af s1 σ H1 _ I1 q) fun ov s2 z=>?_) hs;obtain⟨x,H2,I2,rx,a,C,dx,fs,rfl,ea,c,n,l,q2⟩:=z;obtain rfl:ov=Value.ref a:=rx;exact sS I2 ea c n l ry fun s3 I3=>⟨σ,_,I3,q2⟩
end
section
inductive kz (K:SG) (H:Hp):V->SI->Prop where
 |bC:kz K H .bC (.type "NoneType")
 |bl (x:Bool):kz K H (.bl x) (.type "bool")
 |int (i:Int):kz K H (.int i) (.type "int")
 |str (x:Str):kz K H (.str x) (.type "str")
 |Gy (x:UInt64):kz K H (.Gy x) (.type "float")
 |lst {a:Addr} {xs:List V} (e:H a=some (.lst xs)):kz K H (.ref a) (.type "list")
 |cm {a:Addr} {o:Obj} {xs:List V} (e:H a=some (.cm o (.lst xs))):kz K H (.ref a) (.type "list")
 |tup {a:Addr} {xs:List V} (e:H a=some (.tup xs)):kz K H (.ref a) (.type "tuple")
 |dK {a:Addr} {kvs:List (bG×V)} (e:H a=some (.dK kvs)):kz K H (.ref a) (.type "dict")
 |dT {a:Addr} {kvs:List (List bG×V)} (e:H a=some (.dT kvs)):kz K H (.ref a) (.type "dict")
 |ins {a C dx:Addr} {fs:List (Str×V)} (e:H a=some (.ins C dx fs)) (cl:qz K C) (ha:PySem.W.findIn K (.ref C) "__class__"=some (some (.builtin "object.__class__")))
  (hn:PySem.W.specialIn K (.builtin "object.__class__") "__get__"=some (some (.builtin "getset_descriptor.__get__"))) (htk:PySem.W.takesIn K (.builtin "object.__class__")=some true)
  (hm:PySem.W.mroIn K C (.type "object")=some true):kz K H (.ref a) (.ref C)
theorem vY (I:Inv X af σ H s)(rx:RelV x u)(ty:kz X.K H x t)(e:PySem.W.kitOne X.K t c=some b)(h:∀ tk,Q (.bool b) { s with toks:=tk }) :
 wpAny (model X.prog X.w) A (call (.builtin "isinstance") [u,c]) Q E s:=by
 cases ty with
 |bC=>cases (show u=Value.none from rx);exact Px PySem.W.kitx_none I.iW True.intro e (fun z=>nomatch z) h
 |bl y=>cases (show u=Value.bool y from rx);exact Px PySem.W.kitx_bool I.iW True.intro e (fun z=>nomatch z) h
 |int i=>obtain⟨t,q⟩:=(show ∃ t,u=Value.int i t from rx);cases q;exact Px PySem.W.kitx_int I.iW True.intro e (fun z=>nomatch z) h
 |str y=>obtain⟨t,q⟩:=(show ∃ t,u=Value.str y t from rx);cases q;exact Px PySem.W.kitx_str I.iW True.intro e (fun z=>nomatch z) h
 |Gy y=>obtain⟨t,q⟩:=(show ∃ t,u=Value.float y t from rx);cases q;exact Px PySem.W.kitx_float I.iW True.intro e (fun z=>nomatch z) h
 | @lst a xs ea=>cases (show u=Value.ref a from rx);obtain⟨_,_,n,_,h1⟩:=(show ObjOk X.prog X.w H s.heap a (.lst xs) from I.aX a _ ea);exact Px PySem.W.kitx_list I.iW ⟨_,h1,rfl⟩ e (fun z=>nomatch z) h
 | @cm a ob xs ea=>cases (show u=Value.ref a from rx);obtain⟨_,_,_,n,_,h1⟩:=(show ObjOk X.prog X.w H s.heap a (.cm ob (.lst xs)) from I.aX a _ ea);exact Px PySem.W.kitx_list I.iW ⟨_,h1,rfl⟩ e (fun z=>nomatch z) h
 | @tup a xs ea=>cases (show u=Value.ref a from rx);obtain⟨_,_,_,p⟩:=(show ObjOk X.prog X.w H s.heap a (.tup xs) from I.aX a _ ea);obtain⟨o,h1,h2,_⟩:=p;exact Px PySem.W.kitx_tuple I.iW ⟨o,h1,h2⟩ e (fun z=>nomatch z) h
 | @dK a kvs ea=>cases (show u=Value.ref a from rx);obtain⟨_,_,vs,_,p⟩:=(show ObjOk X.prog X.w H s.heap a (.dK kvs) from I.aX a _ ea);obtain⟨o,es,ep,h1,h2,_⟩:=p;exact Px Si I.iW ⟨o,h1,h2.1⟩ e (fun z=>nomatch z) h
 | @dT a kvs ea=>cases (show u=Value.ref a from rx);obtain⟨_,_,xs,_,o,es,ep,h1,h2,_⟩:=(show ObjOk X.prog X.w H s.heap a (.dT kvs) from I.aX a _ ea);exact Px Si I.iW ⟨o,h1,h2.1⟩ e (fun z=>nomatch z) h
 | @ins a C dx fs ea cl ha hn htk hm=>cases (show u=Value.ref a from rx);obtain⟨mA,O,_⟩:=kX I.aX ea;obtain⟨od,J,_⟩:=O.look;exact Px (PySem.W.kitx_own (cl.get _) cl.hd ha hn htk hm) I.iW J e (fun z=>nomatch z) h
end
structure cT (k:Nat) (A:SJ):Prop where
 hd:A.handled=none
 dp:A.depth+3*k+5<recursionLimit
 un:A.units+16*k+200<cLine
theorem cT.mono (r:cT k A)(h:j<=k):cT j A:=⟨r.hd,by have:=r.dp;lia,by have:=r.un;lia⟩
theorem cT.deeper (r:cT (k+1) A)(env:Env):cT k (A.deeper env):=⟨r.hd,by have:=r.dp;show A.depth+1+3*k+5<_;lia,by have:=r.un;show A.units+3+16*k+200<_;lia⟩
theorem sU {A:SJ} {C:Addr}:(A.under (.builtin "type.__call__" ⟨.ref C::us,kw⟩)).depth=A.depth+1:=by
 first|rfl|simp[Around.under,Code.weight,Code.isCreation,Code.isGuard,Code.isCaller,Code.frames,Code.isFrame,guardIds]
theorem sV {A:SJ} {C:Addr}:(A.under (.builtin "type.__call__" ⟨.ref C::us,kw⟩)).units=A.units+1:=by
 first|rfl|simp[Around.under,Code.cUnits,Code.frames,Code.isFrame]
theorem cT.make (r:cT (k+1) A) (C:Addr) (us:List SI) (kw:List (Str×SI)):cT k (A.under (.builtin "type.__call__" ⟨.ref C::us,kw⟩)):=⟨r.hd,by have:=r.dp;rw[sU];lia,by have:=r.un;rw[sV];lia⟩
theorem cT.depth (r:cT k A):A.depth<recursionLimit:=by have:=r.dp;lia
theorem cT.units (r:cT k A):A.units+64<cLine:=by have:=r.un;lia
noncomputable def aG:TA:=fun _ H Q=>Q [] H
noncomputable def aj (ta:TE)(tr:TA):TA:=fun σ H Q=>ta σ H fun x H1=>tr σ H1 fun xs H2=>Q (x::xs) H2
section
theorem ax:PA X [] aG:=fun _ _ _ _ H Q I h=>QZ ⟨[],H,I,.nil,h⟩
theorem ac (ha:PE X e te)(hr:PA X es t)(hs:autoParam (starEach (e::es) X.env=(false,eval e X.env)::starEach es X.env) SQ._auto_1):PA X (e::es) (aj te t):=by intro pos af s σ H Q I h;rw[hs];show wpAny _ _ (spliced ((false,eval e X.env)::backTo pos (starEach es X.env))) _ _ s;refine Qy (b7 (ha af s σ H _ I h) fun u s1 ⟨x,H1,I1,r1,q1⟩=>?_);exact b7 (hr pos af s1 σ H1 _ I1 q1) fun us s2 ⟨xs,H2,I2,r2,q2⟩=>⟨x::xs,H2,I2,.cons r1 r2,q2⟩
def cf (t:TA):TE:=fun σ H Q=>t σ H fun xs H1=>xs.length<=sizeLine/\∀ p,H1 p=none->Q (.ref p) (upd H1 p (.tup xs))
def cJ (t:TA):TE:=fun σ H Q=>t σ H fun xs H1=>xs.length<=sizeLine/\∀ p,H1 p=none->Q (.ref p) (upd H1 p (.lst xs))
theorem bf {x1}(h:PA X es t):PE X (.Tuple es x1 pos) (cf t):=by intro af s σ H Q I hq;refine wpAny_Tuple_spliced (b7 (h pos af s σ H _ I hq) fun us s1 ⟨xs,H1,I1,r,z,q⟩=>⟨by rw[<- r.length];exact z,?_⟩);have hf:H1 s1.heap.objs.size=none:=I1.aX.fresh (Oq _);refine⟨.ref s1.heap.objs.size,upd H1 s1.heap.objs.size (.tup xs),I1.laid (t':=s1.toks) (fun b u e=>Oo _ e) (Oq _) ?_,rfl,q _ hf⟩;exact⟨z,us,r,⟨_,Oz _ rfl,rfl,_,rfl⟩⟩
theorem bH (h:PA X es t):PE X (.List es pos) (cJ t):=by intro af s σ H Q I hq;refine wpAny_List_spliced (b7 (h pos af s σ H _ I hq) fun us s1 ⟨xs,H1,I1,r,z,q⟩=>⟨by rw[<- r.length];exact z,?_⟩);have hf:H1 s1.heap.objs.size=none:=I1.aX.fresh (Oq _);refine⟨.ref s1.heap.objs.size,upd H1 s1.heap.objs.size (.lst xs),I1.laid (t':=s1.toks) (fun b u e=>Oo _ e) (Oq _) ?_,rfl,q _ hf⟩;exact⟨z,us,0,r,Oz _ rfl⟩
end
abbrev Sp:=List V->Hp->VK->XK->Prop
abbrev yk:=List Env->Hp->SF->XK->SI->SF->Prop
structure uA (P:SH) (w:World) (K:SG) (mg:Str->Option SI) (base:Heap) (A:SJ) (outer:List Env) (s:SF) (H:Hp):Prop where
 frames:A.frames=some outer
 mod:Mod K mg base
 bs:∀ b o,base.get? b=some o->s.heap.get? b=some o/\H b=none
 vK:base.objs.size<=s.heap.objs.size
 iA:s.heap.FunFrames base outer
 xW:∀ b∈gZ outer,H b=none
 aX:HOk P w H s.heap
 bare:AllBare s.gens
 kt:Kg K H
def CE (outer:List Env)(P:SH)(w:World)(H:Hp)(s:SF)(Q:VK)(u:SI)(s':SF):Prop:=∃ v H',s'.os=s.os/\AllBare s'.gens/\Un (gZ outer) [] H H' s.heap s'.heap/\HOk P w H' s'.heap/\RelV v u/\Q v H'
def CR (CX:yk)(outer:List Env)(P:SH)(w:World)(H:Hp)(s:SF)(Q:VK)(E:XK)(r:Result)(s':SF):Prop:=
 match r with
 | .ok (.ret u)=>CE outer P w H s Q u s'
 | .ok _=>False
 | .error e=>CX outer H s E e s'
structure bF (P:SH) (w:World) (K:SG) (mg:Str->Option SI) (base:Heap) (CX:yk) (k:Nat) (f:Addr) (fd:FuncData) (ps:List Str) (sp:Sp):Prop where
 len:∀ vs H Q E,sp vs H Q E->vs.length=ps.length
 run:∀(A:SJ)(outer:List Env)(s:SF)(H:Hp)(args:Args)(us:List SI)(vs:List V)(Q:VK)(E:XK),cT k A->uA P w K mg base A outer s H->BindsTo s fd args (ps.zip us)->Vals vs us->sp vs H Q E->
  codeAny (model P w) A (.call (.ref f) args) (CR CX outer P w H s Q E) s
theorem bF.imp {P:SH}{w:World}{K:SG}{mg:Str->Option SI}{base:Heap}{CX:yk}(F:bF P w K mg base CX k f fd ps sp)
 (h:∀ vs H Q E,sp' vs H Q E->sp vs H Q E):bF P w K mg base CX k f fd ps sp':=
 ⟨fun vs H Q E q=>F.len vs H Q E (h _ _ _ _ q),fun A outer s H args us vs Q E hr he hb hv hs=>F.run A outer s H args us vs Q E hr he hb hv (h _ _ _ _ hs)⟩
theorem uA.make {P:SH}{w:World}{K:SG}{mg:Str->Option SI}{base:Heap}(e:uA P w K mg base A outer s H)(C:Addr)(us:List SI)(kw:List (Str×SI)) :
 uA P w K mg base (A.under (.builtin "type.__call__" ⟨.ref C::us,kw⟩)) outer s H:=⟨by first|exact e.frames|(simpa[Around.under,Code.envs,Code.isFrame,pushEnvs] using e.frames),e.mod,e.bs,e.vK,e.iA,e.xW,e.aX,e.bare,e.kt⟩
section
theorem Inv.GQ (I:Inv X af σ H s):uA X.prog X.w X.K X.mg X.base X.A X.stack s H:=⟨I.ok.frames,I.ok.mod,I.bs,OR I.ok.vK I.sz,I.stack,I.qw,I.aX,I.bare,I.kt⟩
theorem Inv.after (I:Inv X af σ H s)(h:CE X.stack X.prog X.w H s Q u s'):EP X af σ Q u s':=by obtain⟨v,H',os,bare,un,aX,r,q⟩:=h;obtain⟨hh,g,d,t,os'⟩:=s';obtain rfl:os'=s.os:=os;exact⟨v,H',I.call (h':=hh) (g':=g) (d':=d) (t':=t) (ch:=[]) un aX bare (fun b z=>absurd z (by simp)),r,q⟩
end
noncomputable def bJ (sp:Sp)(dvs:List V)(E:XK)(t:TA):TE:=fun σ H Q=>t σ H fun vs H1=>sp (vs++dvs) H1 Q E
def dZ (C:Addr)(m:Str)(sp:Sp)(dvs:List V)(E:XK)(ta:TE)(t:TA):TE:=fun σ H Q=>ta σ H fun x H1=>∃ a dx fs,x=.ref a/\H1 a=some (.ins C dx fs)/\fs.lookup m=none/\
 t σ H1 fun vs H2=>sp (x::(vs++dvs)) H2 Q E
def uK (C:Addr)(sp:Sp)(dvs:List V)(E:XK)(t:TA):TE:=fun σ H Q=>t σ H fun vs H1=>∀ x dx,H1 x=none->H1 dx=none->dx≠x->
 sp (.ref x::(vs++dvs)) (upd (upd H1 dx (.own x)) x (.ins C dx [])) (fun v H2=>v=.bC/\Q (.ref x) H2) E
def Binds (K:SG)(fd:FuncData)(ps:List Str)(ds:List SI):Prop:=∀(s:SF)(us:List SI),K.In s.heap->(us++ds).length=ps.length->BindsTo s fd ⟨us,[]⟩ (ps.zip (us++ds))
theorem Binds.all {K:SG}(h:∀ us:List SI,us.length=ps.length->bindArgs fd ⟨us,[]⟩=pure (ps.zip us)):Binds K fd ps []:=fun s us _ hl=>by rw[Rn]at hl ⊢;exact .of_eq (h us hl)
def fP (CX:yk)(X:Cx)(E:XK):Prop:=∀(af:List (Addr×Obj))(σ:St)(H:Hp)(s:SF)(e:SI)(s':SF),Inv X af σ H s->CX X.stack H s E e s'->X.xe e s'
section
theorem sW (F:bF X.prog X.w X.K X.mg X.base CX k f fd ps sp)(hr:cT k X.A)(hb:Binds X.K fd ps ds)(hd:Vals dvs ds)(hx:fP CX X E)
 (I:Inv X af σ H s) (r:Vals vs us) (h:sp (vs++dvs) H Q E):wX X (call (.ref f) us) (EP X af σ Q) X.xe s:=by
 have r2:Vals (vs++dvs) (us++ds):=r.append hd;have hl:(us++ds).length=ps.length:=by rw[<- r2.length];exact F.len _ _ _ _ h
 refine Sj (Rj (F.run X.A X.stack s H ⟨us,[]⟩ (us++ds) (vs++dvs) Q E hr I.GQ (hb s us I.iW hl) r2 h) fun r s' hq=>?_);cases r with
 |error e=>exact hx af σ H s e s' I hq
 |ok fl=>
  cases fl with
  |ret u=>exact I.after hq
  |next=>exact False.elim hq
  |brk=>exact False.elim hq
  |cont=>exact False.elim hq
theorem a_ (F:bF X.prog X.w X.K X.mg X.base CX k f fd ps sp)(hr:cT k X.A)(hg:Gl X x)(hm:X.mg x=some (.ref f))(hk:PySem.W.keepIn X.K (.ref f)=true)(hb:Binds X.K fd ps ds)(hd:Vals dvs ds)(hx:fP CX X E)
 (ha:PA X (e::es) t) (hdb:autoParam (dB x) SK._auto_1) (he:autoParam (sE X e es) SQ._auto_1) (hpl:autoParam (bT X pos es) SQ._auto_1) :
 PE X (.Call (.Name x p) (e::es) [] pos) (bJ sp dvs E t):=by
 intro af s σ H Q I h;refine Qm (fB I hg hm ?_ hdb);refine Ro (h₀:=X.base) I.ok.mod.GS hk (b7 (ha pos af s σ H _ I h) fun us s1 ⟨vs,H1,I1,r,q⟩=>⟨I1.iW,?_⟩) he hpl;exact sW F hr hb hd hx I1 r q
theorem d5 (he:PE X o ta)(c:qz X.K C)(hm:Meth X.K C m f)(F:bF X.prog X.w X.K X.mg X.base CX k f fd ps sp)(hr:cT k X.A)(hb:Binds X.K fd ps ds)(hd:Vals dvs ds)(hx:fP CX X E)(ha:PA X (e::es) t)
 (hst:autoParam (starEach (e::es) X.env=(false,eval e X.env)::starEach es X.env) SQ._auto_1) (hpl:autoParam (bT X pos es) SQ._auto_1)
 (ht:autoParam (eval (.Call (.Attribute o m apos) (e::es) [] pos) X.env=(do
   let ov <- eval o X.env
   standAt apos.atName
   let (f,first) <- holding [ov] (getMethod ov m pl)
   callWith pos f first (backTo pos (starEach (e::es) X.env)) (backToKw pos (keywordEach [] X.env)))) SQ._auto_1) :
 PE X (.Call (.Attribute o m apos) (e::es) [] pos) (dZ C m sp dvs E ta t):=by
 intro af s σ H Q I h;refine PySem.W.methodCall_KW (pl:=pl) (b7 (he af s σ H _ I h) fun u s1 z=>?_) ht;obtain⟨x,H1,I1,rx,a,dx,fs,rfl,ea,l,q⟩:=z;obtain rfl:u=Value.ref a:=rx;refine lJ I1 ea c hm l ?_;refine Ro (first:=[.ref a]) (h₀:=X.base) I.ok.mod.GS hm.kp (b7 (ha pos af s1 σ H1 _ I1 q) fun us s2 ⟨vs,H2,I2,r,q2⟩=>⟨I2.iW,?_⟩) hst hpl;exact sW (us:=.ref a::us) (vs:=.ref a::vs) F hr hb hd hx I2 (.cons rfl r) q2
theorem lK (he:PE X o ta)(c:qz X.K C)(hm:Meth X.K C m f)(F:bF X.prog X.w X.K X.mg X.base CX k f fd ps sp)(hr:cT k X.A)(hb:Binds X.K fd ps ds)(hd:Vals dvs ds)(hx:fP CX X E)
 (ht:autoParam (eval (.Call (.Attribute o m apos) [] [] pos) X.env=(do
   let ov <- eval o X.env
   standAt apos.atName
   let (f,first) <- holding [ov] (getMethod ov m pl)
   callWith pos f first (backTo pos (starEach [] X.env)) (backToKw pos (keywordEach [] X.env)))) SQ._auto_1) :
 PE X (.Call (.Attribute o m apos) [] [] pos) (dZ C m sp dvs E ta aG):=by
 intro af s σ H Q I h;refine PySem.W.methodCall_KW (pl:=pl) (b7 (he af s σ H _ I h) fun u s1 z=>?_) ht;obtain⟨x,H1,I1,rx,a,dx,fs,rfl,ea,l,q⟩:=z;obtain rfl:u=Value.ref a:=rx;refine lJ I1 ea c hm l ?_;exact PySem.W.callWith_K0 (first:=[.ref a]) I1.iW hm.kp (sW (us:=[.ref a]) (vs:=[.ref a]) F hr hb hd hx I1 (.cons rfl .nil) q)
structure Mk (K:SG) (C f:Addr):Prop where
 makes:PySem.W.makesIn K C=true
 init:PySem.W.findIn K (.ref C) "__init__"=some (some (.ref f))
 fn:PySem.W.isFn K (.ref f)=true
 kp:PySem.W.keepIn K (.ref C)=true
theorem qO (M:Mk X.K C f)(F:bF X.prog X.w X.K X.mg X.base CX k f fd ps sp)(hr:cT (k+1) X.A)(hb:Binds X.K fd ps ds)(hd:Vals dvs ds)
 (hx:fP CX X E) (I:Inv X af σ H s) (r:Vals vs us)
 (h:∀ x dx,H x=none->H dx=none->dx≠x->sp (.ref x::(vs++dvs)) (upd (upd H dx (.own x)) x (.ins C dx [])) (fun v H2=>v=.bC/\Q (.ref x) H2) E) :
 wX X (call (.ref C) us) (EP X af σ Q) X.xe s:=by
 have hq:=h (s.heap.objs.size+1) s.heap.objs.size (I.aX.fresh (Nat.le_succ _)) (I.aX.fresh (Oq _)) (OQ (P_ _));have I2:=Inv.made (C:=C) I;have r2:Vals (V.ref (s.heap.objs.size+1)::(vs++dvs)) (Value.ref (s.heap.objs.size+1)::(us++ds)):=.cons rfl (r.append hd);have hl:(Value.ref (s.heap.objs.size+1)::us++ds).length=ps.length:=by have e:=r2.length;rw[F.len _ _ _ _ hq]at e;exact e.symm
 refine Sj (yj (f:=f) I.iW M.makes M.init (Rh.mp M.fn) (Rj (F.run _ X.stack _ _ ⟨Value.ref (s.heap.objs.size+1)::us,[]⟩ (Value.ref (s.heap.objs.size+1)::(us++ds)) _ _ E (hr.make C us [])
  (I2.GQ.make C us []) (hb _ (Value.ref (s.heap.objs.size+1)::us) I2.iW hl) r2 hq) fun r s' hq'=>?_))
 cases r with
 |error e=>exact hx af σ _ _ e s' I2 hq'
 |ok fl=>
  cases fl with
  |ret u=>obtain⟨v,H',I3,rv,ev,q3⟩:=I2.after hq';subst ev;exact⟨rv,⟨V.ref (s.heap.objs.size+1),H',I3,rfl,q3⟩⟩
  |next=>exact False.elim hq'
  |brk=>exact False.elim hq'
  |cont=>exact False.elim hq'
theorem BV (M:Mk X.K C f)(F:bF X.prog X.w X.K X.mg X.base CX k f fd ps sp)(hr:cT (k+1) X.A)(hg:Gl X x)(hm:X.mg x=some (.ref C))(hb:Binds X.K fd ps ds)(hd:Vals dvs ds)(hx:fP CX X E)
 (ha:PA X (e::es) t) (hdb:autoParam (dB x) SK._auto_1) (he:autoParam (sE X e es) SQ._auto_1) (hpl:autoParam (bT X pos es) SQ._auto_1) :
 PE X (.Call (.Name x p) (e::es) [] pos) (uK C sp dvs E t):=by
 intro af s σ H Q I h;refine Qm (fB I hg hm ?_ hdb);refine Ro (h₀:=X.base) I.ok.mod.GS M.kp (b7 (ha pos af s σ H _ I h) fun us s1 ⟨vs,H1,I1,r,q⟩=>⟨I1.iW,?_⟩) he hpl;exact qO M F hr hb hd hx I1 r q
theorem yl (M:Mk X.K C f)(F:bF X.prog X.w X.K X.mg X.base CX k f fd ps sp)(hr:cT (k+1) X.A)(hg:Gl X x)(hm:X.mg x=some (.ref C))(hb:Binds X.K fd ps ds)(hd:Vals dvs ds)(hx:fP CX X E)
 (hdb:autoParam (dB x) SK._auto_1):PE X (.Call (.Name x p) [] [] pos) (uK C sp dvs E aG):=by
 intro af s σ H Q I h;refine Qm (fB I hg hm ?_ hdb);exact PySem.W.callWith_K0 I.iW M.kp (qO (us:=[]) M F hr hb hd hx I .nil h)
end
def PK (X:Cx)(kws:List Keyword)(t:TA):Prop:=∀(pos:Pos)(af:List (Addr×Obj))(s:SF)(σ:St)(H:Hp)(Q:List V->Hp->Prop),Inv X af σ H s->t σ H Q->wpAny (model X.prog X.w) X.A (evalAll ((backToKw pos (keywordEach kws X.env)).map (·.2))) (AP X af σ Q) X.xe s
section
theorem EF:PK X [] aG:=fun _ _ _ _ H Q I h=>wpAny_evalAll_nil ⟨[],H,I,.nil,h⟩
theorem BW (ha:PE X e te)(hr:PK X kws t):PK X (⟨nm,e,kpos⟩::kws) (aj te t):=by intro pos af s σ H Q I h;show wpAny _ _ (evalAll ((do let v <- eval e X.env;standAt pos;pure v)::(backToKw pos (keywordEach kws X.env)).map (·.2))) _ _ s;refine wpAny_evalAll_cons (KE (b7 (ha af s σ H _ I h) fun u s1 ⟨x,H1,I1,r1,q1⟩=>KE (wpAny_standAt (Os ?_))));exact b7 (hr pos af s1 σ H1 _ I1 q1) fun us s2 ⟨xs,H2,I2,r2,q2⟩=>⟨x::xs,H2,I2,.cons r1 r2,q2⟩
end
structure aT (N P:List Str) (sc:Scope):Prop where
 kind:sc.kind=.function
 co:sc.isCoroutine=false
 gen:sc.isGenerator=false
 nd:N.Nodup
 pre:N.take P.length=P
 par:∀ x∈P,sc.names.lookup x=some .local\/sc.names.lookup x=some .cell
 GU:∀ y∈sc.names,y.2≠.free
theorem oz {kindOf:Str->Option NameKind}:∀{binds:List (Str×SI)}{m:Str->Option SI},(∀ v,(x,v)∉binds)->bindL kindOf binds m x=m x
 | [],_,_=>rfl
 |(n,v)::r,m,h=>by
  unfold bindL;rw[oz fun w hw=>h w (Ow _ hw)];split
  .have:x≠n:=by rintro rfl;exact h v Ox
   simp[this]
  .rfl
theorem oA {kindOf:Str->Option NameKind}:∀{binds:List (Str×SI)}{m:Str->Option SI},(∀ v,(x,v)∉binds)->bindC kindOf binds m x=m x
 | [],_,_=>rfl
 |(n,v)::r,m,h=>by
  unfold bindC;rw[oA fun w hw=>h w (Ow _ hw)];split
  .rfl
  .have:x≠n:=by rintro rfl;exact h v Ox
   simp[this]
theorem oB {kindOf:Str->Option NameKind}:∀{P:List Str}{vs:List SI}{i:Nat}{m:Str->Option SI},P.Nodup->P[i]?=some x->vs[i]?=some v->kindOf x=some .local->
 bindL kindOf (P.zip vs) m x=some v
 | [],_,_,_,_,h,_,_=>by simp at h
 |_::_,[],_,_,_,_,h,_=>by simp at h
 |p::P,w::vs,0,m,nd,h1,h2,hk=>by simp at h1 h2;subst h1;subst h2;show bindL kindOf ((p,w)::P.zip vs) m p=_;unfold bindL;rw[oz fun v hv=>(Pk.mp nd).1 (List.of_mem_zip hv).1,OK hk];simp
 |p::P,w::vs,i+1,m,nd,h1,h2,hk=>by show bindL kindOf ((p,w)::P.zip vs) m x=_;unfold bindL;exact oB (i:=i) (Pk.mp nd).2 (by simpa using h1) (by simpa using h2) hk
theorem oC {kindOf:Str->Option NameKind}:∀{P:List Str}{vs:List SI}{i:Nat}{m:Str->Option SI},P.Nodup->P[i]?=some x->vs[i]?=some v->kindOf x≠some .local->
 bindC kindOf (P.zip vs) m x=some v
 | [],_,_,_,_,h,_,_=>by simp at h
 |_::_,[],_,_,_,_,h,_=>by simp at h
 |p::P,w::vs,0,m,nd,h1,h2,hk=>by simp at h1 h2;subst h1;subst h2;show bindC kindOf ((p,w)::P.zip vs) m p=_;unfold bindC;rw[oA fun v hv=>(Pk.mp nd).1 (List.of_mem_zip hv).1,OL hk];simp
 |p::P,w::vs,i+1,m,nd,h1,h2,hk=>by show bindC kindOf ((p,w)::P.zip vs) m x=_;unfold bindC;exact oC (i:=i) (Pk.mp nd).2 (by simpa using h1) (by simpa using h2) hk
abbrev nS (n:Nat):List Str:=List.replicate n ""
noncomputable def bj (N:List Str)(vs:List V):St:=vs.map some++List.replicate (N.length-vs.length) none
noncomputable def sX (CX:yk)(P:SH)(w:World)(K:SG)(mg:Str->Option SI)(base:Heap)(N:List Str)(qual:Str)(scope:Scope)(f:Addr)(cd:SI)(A:SJ)(outer:List Env)(s:SF)(H:Hp)(E:XK):Cx where
 prog:=P
 w:=w
 K:=K
 mg:=mg
 base:=base
 A:=A.deeper (envOfC qual scope s.heap.objs.size f cd)
 N:=N
 s₀:=s
 H₀:=H
 env:=envOfC qual scope s.heap.objs.size f cd
 outer:=outer
 stack:=envOfC qual scope s.heap.objs.size f cd::outer
 ex:=[]
 calm:=true
 fn:=fun _=>true
 pn:=[]
 xe:=fun e s'=>wpAny (model P w) (A.deeper (envOfC qual scope s.heap.objs.size f cd)) (leaving (envOfC qual scope s.heap.objs.size f cd) e) (fun _ s''=>CX outer H s E e s'') (fun e' s''=>CX outer H s E e' s'') s'
theorem qP {sc:Scope}(h:sc.names.lookup x=some .cell):∃ c,(cellsFrom n sc.names []).lookup x=some c:=by have q:=PySem.W.cellsFrom_some sc.names n [] (.inl h);exact Option.isSome_iff_exists.mp q
theorem vZ {CX:yk}{P:SH}{w:World}{K:SG}{mg:Str->Option SI}{base:Heap}{N ps:List Str}{qual:Str}{scope:Scope}
 (S:aT N ps scope) (hd:A.handled=none) (e0:uA P w K mg base A outer s H) (hl:vs.length=ps.length) (r:Vals vs us)
 (x:InCallC s s.heap.objs.size (bindL (envOfC qual scope s.heap.objs.size f cd).kindOf (ps.zip us) fun _=>none) (cellsFrom (s.heap.objs.size+1) scope.names []) (bindC (envOfC qual scope s.heap.objs.size f cd).kindOf (ps.zip us) fun _=>none) s1) :
 Inv (sX CX P w K mg base N qual scope f cd A outer s H E) [] (bj N vs) H s1:=by
 have hpl:ps.length<=N.length:=by have:=PJ List.length S.pre;rw[Py]at this;lia
 obtain⟨h1,tk,rfl,hk⟩:=x.done;have noA:∀ b:Addr,b∉(sX CX P w K mg base N qual scope f cd A outer s H E).ex:=fun b z=>absurd (show b∈([]:List Addr) from z) (by simp);refine⟨⟨e0.mod,S.kind,rfl,rfl,Oq _,fun y z c h1 h2=>?_,fun y hy=>?_,fun y c _ h=>?_,fun _=>hd,Around.frames_deeper e0.frames,.inr ⟨rfl,rfl⟩,fun b z=>absurd z (noA b),e0.bs,e0.vK,fun b _ _=>noA b,fun b z=>absurd z (noA b),e0.iA,e0.xW,e0.kt⟩,
  rfl,e0.bare,Un.kept hk,⟨_,x.toInCall.ns,fun i y v h1 h2 h3=>?_⟩,fun y c h=>⟨_,x.cell y c h⟩,e0.aX.fresh (Oq _),fun y c h=>?_,fun p hp=>absurd (show p∈([]:List (Addr×Obj)) from hp) (by simp),e0.aX.kept hk,?_⟩
 .exact name_of_addr x.apart (Qd h1) (Qd h2)
 .have hy:scope.names.lookup y=some .cell\/scope.names.lookup y=some .free:=hy;rcases hy with hy|hy
  .exact qP hy
  .exact absurd rfl (S.GU _ (Qd hy))
 .exact Rf (x.above y c (Qd h))
 .have hi:i<vs.length:=by
   grind [bj]
  have ha:vs[i]?=some v:=by grind [bj]
  obtain⟨u,hu,rv⟩:=r.get ha;have hp:ps[i]?=some y:=by rw[<- S.pre,List.getElem?_take_of_lt (by lia)];exact h1
  have ndP:ps.Nodup:=by rw[<- S.pre];exact S.nd.sublist (List.take_sublist _ _)
  refine⟨u,rv,?_⟩;rcases S.par y (OU hp) with k|k
  .exact .inl ⟨k,oB ndP hp hu k⟩
  .obtain⟨c,e⟩:=qP (n:=s.heap.objs.size+1) k;refine .inr ⟨.inl k,c,e,?_⟩;have q:=x.cell y c e;rw[oC ndP hp hu (by show scope.names.lookup y≠_;rw[k];decide)]at q;exact q
 .exact e0.aX.fresh (Rf (x.above y c (Qd h)))
 .unfold bj;show _=N.length;rw[OF,Ot,RM];lia
abbrev eQ (Q:VK):Ends:={ nx:=fun _ H'=>Q .bC H',rt:=Q }
theorem ym {CX:yk}{P:SH}{w:World}{K:SG}{mg:Str->Option SI}{base:Heap}{k:Nat}{f:Addr}{name qual:Str}{params:Arguments}{body:List Stmt}{scope:Scope}{dV kV doc pm cdv ct oc:SI}{an od:Option Addr}
 {osl:Array (Option SI)} {N ps:List Str} {sp:Sp} (lk:K.lookup f=some ⟨oc,od,.func (PySem.W.fnOf name qual params body scope dV kV doc pm an cdv ct),osl⟩) (hcd:PySem.W.codeIn K cdv qual=true) (S:aT N ps scope)
 (len:∀ vs H Q E,sp vs H Q E->vs.length=ps.length)
 (hbody:∀(A:SJ)(outer:List Env)(s:SF)(H:Hp)(vs:List V)(Q:VK)(E:XK),cT k (A.deeper (envOfC qual scope s.heap.objs.size f cdv))->sp vs H Q E->
   ∃ t,PSs (sX CX P w K mg base N qual scope f cdv A outer s H E) body t/\t (eQ Q) (bj N vs) H) :
 bF P w K mg base CX (k+1) f (PySem.W.fnOf name qual params body scope dV kV doc pm an cdv ct) ps sp:=by
 refine⟨len,fun A outer s H args us vs Q E hr e0 hb r hsp=>?_⟩;have hl:=len _ _ _ _ hsp;have KX:K.In s.heap:=e0.mod.GS.keeps fun b o e=>(e0.bs b o e).1;have lim:s.heap.NoLimit:=e0.mod.nolimit.keeps fun b o e=>(e0.bs b o e).1;have hkind:∀ y∈ps.zip us,scope.names.lookup y.1=some .local\/(scope.names.lookup y.1=some .cell/\((cellsFrom (s.heap.objs.size+1) scope.names []).lookup y.1).isSome=true):=fun⟨n,v⟩ hy=>by
  rcases S.par n (List.of_mem_zip hy).1 with q|q
  .exact .inl q
  .exact .inr ⟨q,PySem.W.cellsFrom_some _ _ _ (.inl q)⟩
 refine codeAny_call_function hr.depth (KX _ _ lk) rfl S.co S.gen rfl (PySem.W.codeRec_of KX hcd) (hb _ _ _ _ ?_);refine wpAny_newFunctionEnv_cells S.kind hkind fun env he s1 x=>?_;subst he;refine⟨lim.keeps x.toInCall.keep,codeAny_func ?_⟩;obtain⟨t,ht,hq⟩:=hbody A outer s H vs Q E (hr.deeper _) hsp;have I:Inv (sX CX P w K mg base N qual scope f cdv A outer s H E) [] (bj N vs) H s1:=vZ S hr.hd e0 hl r x;refine Ps (ht [] s1 (bj N vs) H _ I hq) (fun fl s' hs=>?_) fun e s' hs=>hs;have fin:∀{σ':St}{H':Hp}{v:V}{u:SI},Inv (sX CX P w K mg base N qual scope f cdv A outer s H E) [] σ' H' s'->RelV v u->Q v H'->CE outer P w H s Q u s':=fun{σ' H' v u} J rv q=>⟨v,H',J.os,J.bare,J.base,J.aX,rv,q⟩;cases fl with
 |ret u=>obtain⟨v,σ',H',J,rv,q⟩:=hs;exact fin J rv q
 |next=>obtain⟨σ',H',J,q⟩:=hs;exact fin (v:=V.bC) (u:=Value.none) J rfl q
 |brk=>obtain⟨_,_,_,q⟩:=hs;exact False.elim q
 |cont=>obtain⟨_,_,_,q⟩:=hs;exact False.elim q
section
variable {X:Cx}{x:Str}{p pos:Pos}{e:Expr}{es:List Expr}{t:TA}{id T:String}{r:List V->Hp->VK->Prop}
noncomputable def gS (r:List V->Hp->VK->Prop)(t:TA):TE:=fun σ H Q=>t σ H fun vs H1=>r vs H1 Q
theorem aW (hc:bQ X (.builtin id) r) (hg:Gl X x) (hm:X.mg x=none) (hv:bootBuiltins x=some (.builtin id)) (ha:PA X (e::es) t) (hn:autoParam (x≠"__name__") SK._auto_1) (hdb:autoParam (dB x) SK._auto_1)
 (he:autoParam (starEach (e::es) X.env=(false,eval e X.env)::starEach es X.env) SQ._auto_1) (hpl:autoParam (bT X pos es) SQ._auto_1):PE X (.Call (.Name x p) (e::es) [] pos) (gS r t):=by
 intro af s σ H Q I h;refine Qm (gw I hg hm hv ?_ hn hdb);exact PyProof.Rows.callWith_builtin1 (b7 (ha pos af s σ H _ I h) fun us s1 ⟨vs,H1,I1,r1,q1⟩=>hc af s1 σ H1 vs us Q I1 r1 q1) he hpl
theorem cg (hc:bQ X (.type T) r) (hg:Gl X x) (hm:X.mg x=none) (hv:bootBuiltins x=some (.type T)) (ha:PA X (e::es) t) (hn:autoParam (x≠"__name__") SK._auto_1) (hdb:autoParam (dB x) SK._auto_1)
 (he:autoParam (starEach (e::es) X.env=(false,eval e X.env)::starEach es X.env) SQ._auto_1) (hpl:autoParam (bT X pos es) SQ._auto_1):PE X (.Call (.Name x p) (e::es) [] pos) (gS r t):=by
 intro af s σ H Q I h;refine Qm (gw I hg hm hv ?_ hn hdb);exact PH (b7 (ha pos af s σ H _ I h) fun us s1 ⟨vs,H1,I1,r1,q1⟩=>hc af s1 σ H1 vs us Q I1 r1 q1) he hpl
end
end L2
namespace HT
open PySem PyProof.Rows
noncomputable def lexLt:List Int->List Int->Bool
 | [],[]=>false
 | [],_::_=>true
 |_::_,[]=>false
 |x::xs,y::ys=>if x=y then lexLt xs ys else decide (x<y)
theorem sY (x y:Int)(xs ys:List Int):lexLt (x::xs) (y::ys)=if x=y then lexLt xs ys else decide (x<y):=rfl
theorem nK:lexLt [] []=false:=rfl
theorem lL (y:Int)(ys:List Int):lexLt [] (y::ys)=true:=rfl
theorem lM (x:Int)(xs:List Int):lexLt (x::xs) []=false:=rfl
theorem yn (A:SJ)(s:SF)(a:Int)(t:Tok)(c:Int)(u:Tok):∃ e,SeqAt.EqAt A s (.int a t) (.int c u) e/\(e=true↔a=c):=⟨(a==c),SeqAt.EqAt.int_int a t c u,by simp⟩
theorem rcLt_int (A:SJ)(s:SF)(a:Int)(t:Tok)(c:Int)(u:Tok)(prog:SH)(w:World)(E:SI->SF->Prop)(Q:SI->SF->Prop)(h:Q (.bool (decide (a<c))) s) :
 wpAny (model prog w) A (richCompare .Lt (.int a t) (.int c u)) Q E s:=
 (PyProof.Rows.lt_int h:wpAny (model prog w) A (compareOp .Lt (.int a t) (.int c u)) Q E s)
section
open PySem.SeqAt
open PySem.AutoSeq1 (wpAny_loadPart')
open PySem.MeetsSeq PySem.MeetsSeq2 PySem.MeetsSeq3
theorem nL (l b:Addr)(items items2:Array SI)(n n2:Nat)(dd dd2:Option Addr)(sl sl2:Array (Option SI))(ns ms:List Int)(hi:IntsAre items.toList ns)(hj:IntsAre items2.toList ms) :
 Meets (Builtin.«tuple.__lt__» ⟨[.ref l,.ref b],[]⟩)
  (fun _ R s=>s.heap.get? l=some { cls:=.type "tuple",dict:=dd,data:=.seq items n,slots:=sl }/\s.heap.get? b=some { cls:=.type "tuple",dict:=dd2,data:=.seq items2 n2,slots:=sl2 }/\
    R (.ok (.ret (.bool (lexLt ns ms)))) s):=
 .of_wp fun prog w A R s h=>by
  obtain⟨hp,g,d,tk,os⟩:=s;obtain⟨hl,hb,h⟩:=h;have f2:=AutoSeq1.sub_tuple_tuple;have z1:items.size=ns.length:=by rw[<- hi.length];simp
  have z2:items2.size=ms.length:=by rw[<- hj.length];simp
  wp_walk using wpAny_loadPart' hl,wpAny_loadPart' hb,RR _ (fun rest b s'=>b.1=none/\s'=⟨hp,g,d,tk,os⟩/\∃(vs ws:List SI)(ns' ms':List Int),rest=vs.zip ws/\
   IntsAre vs ns'/\IntsAre ws ms'/\ns'.length+items2.size=ms'.length+items.size/\R (.ok (.ret (.bool (lexLt ns' ms')))) ⟨hp,g,d,tk,os⟩) _
  case turn=>
   rintro⟨y,x⟩ rest b s' ⟨hb',rfl,vs,ws,ns',ms',hz,hvi,hwi,bW,hR⟩;cases hvi with
   |nil=>rw[List.zip_nil_left]at hz;cases hz
   |cons a t hvi'=>
    cases hwi with
    |nil=>rw[List.zip_nil_right]at hz;cases hz
    |cons c u hwi'=>
     rw[Rp]at hz;injection hz with hyx hrest;injection hyx with hy hx;subst hy hx;rw[sY]at hR;simp only[OJ]at bW;obtain⟨e,he,hiff⟩:=yn A.in1 ⟨hp,g,d,tk,os⟩ a t c u;refine KE (he prog w _ _ ?_);cases e with
     |true=>
      rw[OK (hiff.mp rfl)]at hR
      wp_walk
      exact⟨rfl,rfl,_,_,_,_,hrest,hvi',hwi',by lia,hR⟩
     |false=>
      rw[OL (fun q=>absurd (hiff.mpr q) ON)]at hR;have hri:=rcLt_int A.in1 ⟨hp,g,d,tk,os⟩ a t c u prog w
      wp_walk using hri
      exact⟨_,rfl,by simpa using hR⟩
  case fin=>
   rintro⟨b1,b2⟩ s' ⟨hb',rfl,vs,ws,ns',ms',hz,hvi,hwi,bW,hR⟩;simp only at hb';subst hb';have hv:lexLt ns' ms'=decide (items.size<items2.size):=by
    cases hvi with
    |nil=>
     cases hwi with
     |nil=>simp only[P7]at bW;rw[nK];exact(OZ (by lia)).symm
     |cons c u hw=>simp only[P7,OJ]at bW;rw[lL];exact(OO (by lia)).symm
    |cons a t hv=>
     cases hwi with
     |nil=>simp only[P7,OJ]at bW;rw[lM];exact(OZ (by lia)).symm
     |cons c u hw=>rw[Rp]at hz;cases hz
   rw[hv]at hR
   wp_walk
   exact⟨_,rfl,by simpa[Builtin.Tuple.tupleCompareSizes] using hR⟩
  case h=>exact⟨rfl,rfl,items.toList,items2.toList,ns,ms,rfl,hi,hj,by lia,h⟩
end
section
theorem lt_tupInts (hl:IsTup s.heap l items)(hb:IsTup s.heap b items2)(hi:IntsAre items.toList ns)(hj:IntsAre items2.toList ms)
 (hu:A.units<cLine) (h:Q (.bool (lexLt ns ms)) s):wpAny (model prog w) A (compareOp .Lt (.ref l) (.ref b)) Q E s:=by
 obtain⟨⟨cls,dd,data,sl⟩,ho,hc,n,hd⟩:=id hl;obtain⟨⟨cls2,dd2,data2,sl2⟩,ho2,hc2,n2,hd2⟩:=id hb;simp only at hc hd hc2 hd2;subst hc hd hc2 hd2;exact richCompare_meets_room (op:=.Lt) ⟨_,ho,rfl⟩ ⟨_,ho2,rfl⟩ PySem.F.slot_tuple_lt PySem.F.entry_tuple_lt (PySem.F.args_tuple_lt_2 _ _) (nL l b items items2 n n2 dd dd2 sl sl2 ns ms hi hj)
  ⟨ho,ho2,show Value.bool (lexLt ns ms)≠Value.notImplemented/\Q (.bool (lexLt ns ms)) s from⟨(fun x=>nomatch x),h⟩⟩ hu
noncomputable def sIx (n d:Nat):Option Int->Nat
 |none=>d
 |some v=>if v<0 then (v+(n:Int)).toNat else min v.toNat n
theorem sIx_nat (n d k:Nat):sIx n d (some (k:Int))=min k n:=by show(if (k:Int)<0 then ((k:Int)+(n:Int)).toNat else min (k:Int).toNat n)=min k n;rw[OL (by lia),RC]
end
end HT
namespace L2
open PySem PySem.Spec PyProof.Rows
abbrev TO:=St->Hp->(Option Int->Hp->Prop)->Prop
def PO (X:Cx)(e:Option Expr)(t:TO):Prop:=
 ∀(af:List (Addr×Obj))(s:SF)(σ:St)(H:Hp)(Q:Option Int->Hp->Prop),Inv X af σ H s->t σ H Q->
  wpAny (model X.prog X.w) X.A (evalPart e X.env) (fun u s'=>∃ o H',Inv X af σ H' s'/\IsPart u o/\Q o H') X.xe s
noncomputable def jm:TO:=fun _ H Q=>Q none H
noncomputable def jn (t:TE):TO:=fun σ H Q=>t σ H fun x H1=>∃ i,x=.int i/\Q (some i) H1
theorem lN:∀{us:List SI},Vals (ns.map V.int) us->IntsAre us ns:=by
 induction ns with
 |nil=>intro us r;rw[QJ]at r;cases r;exact .nil
 |cons n ns ih=>
  intro us r;rw[OE]at r;cases r with
  |cons r1 r2=>obtain⟨t,e⟩:=r1;subst e;exact .cons n t (ih r2)
section
variable {X:Cx}{e:Expr}{te:TE}{lo hi:Option Expr}{tl th:TO}{pos p2:Pos}
theorem kY:PO X none jm:=by intro af s σ H Q I h;rw[evalPart_none];exact Os ⟨none,H,I,.none,h⟩
theorem fC (h:PE X e te):PO X (some e) (jn te):=by intro af s σ H Q I hw;rw[evalPart_some];refine b7 (h af s σ H _ I hw) fun u s1 ⟨x,H1,I1,r1,q1⟩=>?_;obtain⟨i,rfl,q⟩:=q1;obtain⟨t,rfl⟩:=r1;exact⟨some i,H1,I1,.int i t,q⟩
def L7 (X:Cx)(r:V->Option Int->Option Int->Hp->VK->Prop):Prop:=
 ∀(af:List (Addr×Obj))(s:SF)(σ:St)(H:Hp)(x:V)(v vl vu:SI)(lo hi:Option Int)(sl:Addr)(Q:VK),Inv X af σ H s->RelV x v->s.heap.IsSliceOf sl vl vu .none->IsPart vl lo->IsPart vu hi->r x lo hi H Q->
  ∃ T id,typeLookup (.type T) "__getitem__"=pure (some (.builtin id))/\s.TypeIs v T/\wpAny (model X.prog X.w) X.A (getItem v (.ref sl)) (EP X af σ Q) X.xe s
noncomputable def EG (r:V->Option Int->Option Int->Hp->VK->Prop)(te:TE)(tl th:TO):TE:=fun σ H Q=>te σ H fun x H1=>tl σ H1 fun l H2=>th σ H2 fun u H3=>r x l u H3 Q
theorem f_ (hr:L7 X r)(he:PE X e te)(hl:PO X lo tl)(hu:PO X hi th):PE X (.Subscript e (.Slice lo hi none p2) pos) (EG r te tl th):=by intro af s σ H Q I h;refine Subscript_ (b7 (he af s σ H _ I h) fun v s1 ⟨x,H1,I1,r1,q1⟩=>?_);refine wpAny_Slice (b7 (hl af s1 σ H1 _ I1 q1) fun vl s2 ⟨l,H2,I2,pl,q2⟩=>b7 (hu af s2 σ H2 _ I2 q2) fun vu s3 ⟨u,H3,I3,pu,q3⟩=>?_);rw[evalPart_none];refine Os ?_;have I4:Inv X af σ H3 { s3 with heap:=s3.heap.push { cls:=.type "slice",data:=.fields #[vl,vu,.none] } }:=I3.kept (t':=s3.toks) fun b ob q=>Oo _ q;obtain⟨T,id,hT,ht,hg⟩:=hr af { s3 with heap:=s3.heap.push { cls:=.type "slice",data:=.fields #[vl,vu,.none] } } σ H3 x v vl vu l u s3.heap.objs.size Q I4 r1 (Heap.IsSliceOf.new ..) pl pu q3;show wX X (subscriptTail e (.Slice lo hi none p2) v (.ref s3.heap.objs.size)) (EP X af σ Q) X.xe { s3 with heap:=s3.heap.push { cls:=.type "slice",data:=.fields #[vl,vu,.none] } };exact tail_any (ops:=[.ref s3.heap.objs.size,v]) ht hT hg (by with_unfolding_all rfl)
def j3 (xs:List V)(lo hi:Option Int):List V:=(xs.drop (HT.sIx xs.length 0 lo)).take (HT.sIx xs.length xs.length hi-HT.sIx xs.length 0 lo)
theorem qQ (xs:List V)(lo hi:Option Int):(j3 xs lo hi).length<=xs.length:=by unfold j3;rw[Py,Qw];lia
end
noncomputable def DH (n:Nat)(i:Int):Option Nat:=if 0<=i then (if i<n then some i.toNat else none) else if -(n:Int)<=i then some (i+n).toNat else none
def uL {α:Type}(xs:List α)(i:Int):Option α:=(DH xs.length i).bind fun j=>xs[j]?
theorem BX (h:DH n i=some j):seqIndex? i n=some j/\j<n/\-(n:Int)<=i/\i<n:=by
 unfold DH at h;by_cases h0:0<=i
 .rw[OK h0]at h;by_cases h1:i<n
  .rw[OK h1]at h;have e:i.toNat=j:=OW h;exact⟨by rw[seqIndex_of h0 h1,e],by lia,by lia,h1⟩
  .rw[OL h1]at h;cases h
 .rw[OL h0]at h;by_cases h1:-(n:Int)<=i
  .rw[OK h1]at h;have e:(i+n).toNat=j:=OW h;exact⟨by rw[seqIndex_neg (by lia) h1,e],by lia,h1,by lia⟩
  .rw[OL h1]at h;cases h
theorem uM {α:Type}{xs:List α}{i:Int}{v:α}(h:uL xs i=some v):∃ j,seqIndex? i xs.length=some j/\xs[j]?=some v/\j<xs.length/\-(xs.length:Int)<=i/\i<xs.length:=by
 unfold uL at h;cases e:DH xs.length i with
 |none=>rw[e]at h;cases h
 |some j=>rw[e]at h;obtain⟨h1,h2,h3,h4⟩:=BX e;exact⟨j,h1,h,h2,h3,h4⟩
theorem jo {α:Type}{xs:List α}{j:Nat}{v:α}(h:xs[j]?=some v):uL xs (j:Int)=some v:=by grind [DH,uL]
def BY (b:Expr):Prop:=∀ o i,subscripted b false o i=operate [o,i] (getItem o i)
def Ko (X:Cx)(r:R2):Prop:=
 ∀(value slice:Expr)(af:List (Addr×Obj))(s:SF)(σ:St)(H:Hp)(x y:V)(v u:SI)(Q:VK),Inv X af σ H s->RelV x v->RelV y u->r x y H Q->
  subscripted slice false v u=operate [v,u] (getItem v u)->wpAny (model X.prog X.w) X.A (subscriptTail value slice v u) (EP X af σ Q) X.xe s
def EH (X:Cx)(id:String)(r:V->List V->Hp->VK->Prop):Prop:=
 ∀(af:List (Addr×Obj))(s:SF)(σ:St)(H:Hp)(x:V)(xs:List V)(v:SI)(us:List SI)(Q:VK),Inv X af σ H s->RelV x v->Vals xs us->r x xs H Q->
  wpAny (model X.prog X.w) X.A (call (.builtin id) (v::us)) (EP X af σ Q) X.xe s
section
variable {X:Cx}
theorem aJ (hr:Ko X r)(ha:PE X a ta)(hb:PE X b tb)(hs:BY b):PE X (.Subscript a b pos) (aZ r ta tb):=by intro af s σ H Q I h;exact Subscript_ (Ey ha hb I h fun v u s2 x y H2 I2 rx ry q=>hr a b af s2 σ H2 x y v u Q I2 rx ry q (hs _ _))
def kO (K:SG):R2:=fun x y H Q=>∃ p xs i v,x=.ref p/\y=.int i/\SqL K H p xs/\uL xs i=some v/\Q v H
def jq (K:SG):R2:=fun x y H Q=>∃ p xs i v,x=.ref p/\y=.int i/\SqT K H p xs/\uL xs i=some v/\Q v H
theorem d6:Ko X (kO X.K):=by
 intro value slice af s σ H x y v u Q I rx ry h hs;obtain⟨p,xs,i,z,rfl,rfl,hq,he,q⟩:=h;cases rx;obtain⟨t,rfl⟩:=ry;obtain⟨its,r,pl,hz⟩:=I.list hq;obtain⟨j,h1,h2,h3,h4,h5⟩:=uM he;obtain⟨w,ew,rw'⟩:=r.get h2;have hl:=r.length;have hn:=pj;have fin:EP X af σ Q w s:=⟨z,H,I,rw',q⟩;by_cases h0:0<=i
 .have hj:i.toNat=j:=by rw[seqIndex_of h0 h5]at h1;exact OW h1
  exact item_listR pl.isList h0 (by lia) (by rw[hj];simpa using ew) fin hs
 .have hj:(i+(its.toArray.size:Int)).toNat=j:=by rw[seqIndex_neg (by lia) h4]at h1;rw[OA,<- hl];exact OW h1
  exact subscriptTail_builtinR (x:=w) pl.isList.typeIs slot_list_getitem.lookup
   (wpAny_getItem_list_neg (Q:=fun r s'=>r=w/\EP X af σ Q r s') pl.isList (by lia) (by rw[OA]<;>lia) (by lia) (by rw[hj];simpa using ew) ⟨rfl,fin⟩) hs
theorem aH:Ko X (jq X.K):=by
 intro value slice af s σ H x y v u Q I rx ry h hs;obtain⟨p,xs,i,z,rfl,rfl,hq,he,q⟩:=h;cases rx;obtain⟨t,rfl⟩:=ry;obtain⟨its,r,pl,hz⟩:=I.tuple hq;obtain⟨j,h1,h2,h3,h4,h5⟩:=uM he;obtain⟨w,ew,rw'⟩:=r.get h2;have hl:=r.length;have hn:=pj;have fin:EP X af σ Q w s:=⟨z,H,I,rw',q⟩;exact subscriptTail_builtinR (x:=w) pl.typeIs slot_tuple_getitem.lookup
  (getItem_tuple (j:=j) (Q:=fun r s'=>r=w/\EP X af σ Q r s') pl (by lia) (by lia) (by rw[OA,<- hl];exact h1) (by simpa using ew) ⟨rfl,fin⟩) hs
theorem pq (lo hi:Option Int)(n:Nat):(sliceBounds lo hi none n).1=((HT.sIx n 0 lo:Nat):Int)/\(sliceBounds lo hi none n).2.1=((HT.sIx n n hi:Nat):Int)/\(sliceBounds lo hi none n).2.2=1:=by
 refine⟨?_,?_,rfl⟩
 .cases lo with
  |none=>simp[sliceBounds,HT.sIx]
  |some i=>
   simp only[sliceBounds,HT.sIx,Option.getD_none,show(1:Int)>0 by decide,QT]
   grind
 .cases hi with
  |none=>simp[sliceBounds,HT.sIx]
  |some i=>
   simp only[sliceBounds,HT.sIx,Option.getD_none,show(1:Int)>0 by decide,QT]
   grind
theorem nM (its:List SI)(lo hi:Option Int):slicePick its.toArray lo hi none=((its.drop (HT.sIx its.length 0 lo)).take (HT.sIx its.length its.length hi-HT.sIx its.length 0 lo)).toArray:=by obtain⟨h1,h2,h3⟩:=pq lo hi its.toArray.size;unfold slicePick;rw[h1,h2,h3];simp only[sliceRange_one,pick_run,OA]<;>rfl
def sZ (K:SG):V->Option Int->Option Int->Hp->VK->Prop:=fun x lo hi H Q=>∃ a xs,x=.ref a/\SqL K H a xs/\∀ p,H p=none->Q (.ref p) (upd H p (.lst (j3 xs lo hi)))
theorem iD:L7 X (sZ X.K):=by intro af s σ H x v vl vu lo hi sl Q I rx hs pl pu h;obtain⟨a,xs,rfl,hx,q⟩:=h;cases rx;obtain⟨its,r,ht,hz⟩:=I.list hx;have bW:=r.length;refine⟨"list",_,slot_list_getitem.lookup,ht.isList.typeIs,?_⟩;refine wpAny_getItem_list_slice ht.isList hs pl pu .none (by simp) ?_ (by rw[OA]<;>lia);rw[nM,<- bW];refine⟨.ref s.heap.objs.size,_,I.laid (t':=s.toks) (o:=.lst (j3 xs lo hi)) (fun b ob q=>Oo _ q) (Oq _) ?_,rfl,q _ (I.aX.fresh (Oq _))⟩;exact⟨OR (qQ xs lo hi) hz,_,0,(r.drop (HT.sIx xs.length 0 lo)).take (HT.sIx xs.length xs.length hi-HT.sIx xs.length 0 lo),Oz _ rfl⟩
noncomputable def kD:V->Bool
 | .bC=>true
 | .bl _=>true
 | .int _=>true
 | .str _=>true
 |_=>false
noncomputable def DI:V->V->Bool
 | .bC,.bC=>true
 | .bl a,.bl b=>a==b
 | .bl a,.int b=>(if a then 1 else 0)==b
 | .int a,.bl b=>a==(if b then 1 else 0)
 | .int a,.int b=>a==b
 | .str a,.str b=>a==b
 |_,_=>false
theorem EI (ry:RelV y u)(rx:RelV x v)(fy:kD y=true)(fx:kD x=true):SeqAt.EqAt A s u v (DI y x):=by
 cases y with
 |bC=>
  cases ry;cases x with
  |bC=>cases rx;exact SeqAt.EqAt.same _
  |bl b=>cases rx;exact SeqAt.EqAt.none_bool b
  |int b=>obtain⟨t,rfl⟩:=rx;exact SeqAt.EqAt.none_int b t
  |str b=>obtain⟨t,rfl⟩:=rx;exact SeqAt.EqAt.none_str b t
  |_=>exact absurd (show false=true from fx) ON
 |bl a=>
  cases ry;cases x with
  |bC=>cases rx;exact SeqAt.EqAt.bool_none a
  |bl b=>cases rx;exact SeqAt.EqAt.bool_bool a b
  |int b=>obtain⟨t,rfl⟩:=rx;exact SeqAt.EqAt.bool_int a b t
  |str b=>obtain⟨t,rfl⟩:=rx;exact SeqAt.EqAt.bool_str a b t
  |_=>exact absurd (show false=true from fx) ON
 |int a=>
  obtain⟨t',rfl⟩:=ry;cases x with
  |bC=>cases rx;exact SeqAt.EqAt.int_none a t'
  |bl b=>cases rx;exact SeqAt.EqAt.int_bool a t' b
  |int b=>obtain⟨t,rfl⟩:=rx;exact SeqAt.EqAt.int_int a t' b t
  |str b=>obtain⟨t,rfl⟩:=rx;exact SeqAt.EqAt.int_str a t' b t
  |_=>exact absurd (show false=true from fx) ON
 |str a=>
  obtain⟨t',rfl⟩:=ry;cases x with
  |bC=>cases rx;exact SeqAt.EqAt.str_none a t'
  |bl b=>cases rx;exact SeqAt.EqAt.str_bool a t' b
  |int b=>obtain⟨t,rfl⟩:=rx;exact SeqAt.EqAt.str_int a t' b t
  |str b=>obtain⟨t,rfl⟩:=rx;exact SeqAt.EqAt.str_str a t' b t
  |_=>exact absurd (show false=true from fx) ON
 |_=>exact absurd (show false=true from fy) ON
def BZ (x:V)(u:SI):Bool:=match u with
 | .none=>DI .bC x
 | .bool b=>DI (.bl b) x
 | .int i _=>DI (.int i) x
 | .str z _=>DI (.str z) x
 |_=>false
theorem yo (r:RelV y u)(f:kD y=true):BZ x u=DI y x:=by
 cases y with
 |bC=>cases r;rfl
 |bl b=>cases r;rfl
 |int i=>obtain⟨t,rfl⟩:=r;rfl
 |str z=>obtain⟨t,rfl⟩:=r;rfl
 |_=>exact absurd (show false=true from f) ON
theorem px:∀{xs:List V}{us:List SI},Vals xs us->xs.all kD=true->us.any (BZ x)=xs.any fun y=>DI y x
 |_,_,.nil,_=>rfl
 |y::xs,u::us,.cons r t,f=>by rw[List.all_cons,PU]at f;rw[Q0,Q0,yo r f.1,px t f.2]
theorem lP (rx:RelV x v)(fx:kD x=true):∀{xs:List V}{us:List SI},Vals xs us->xs.all kD=true->∀ u∈us,SeqAt.EqAt A s u v (BZ x u)
 |_,_,.nil,_=>fun u hu=>by cases hu
 |y::xs,u::us,.cons r t,f=>fun u' hu=>by
  rw[List.all_cons,PU]at f;rcases OC.mp hu with rfl|hu
  .rw[yo r f.1];exact EI r rx f.1 fx
  .exact lP rx fx t f.2 u' hu
def JU (x:V)(xs:List V):Bool:=xs.any fun y=>DI y x
def JV (K:SG)(neg:Bool):R2:=fun x y H Q=>∃ p xs,y=.ref p/\(SqL K H p xs\/SqT K H p xs)/\kD x=true/\xs.all kD=true/\Q (.bl (if neg then !JU x xs else JU x xs)) H
theorem oE:iN X (compareOp .In) (JV X.K false):=by
 intro af s σ H x y v u Q I rx ry h;obtain⟨p,xs,rfl,hq,fx,fs,q⟩:=h;cases ry;rcases hq with hq|hq
 .obtain⟨its,r,pl,hz⟩:=I.list hq;refine SeqAt.in_listAt (BZ x) pl.isList (fun w hw=>lP rx fx r fs w (by simpa using hw)) ⟨.bl _,H,I,rfl,?_⟩;rw[show its.toArray.any (BZ x)=its.any (BZ x) by simp,px r fs];exact q
 .obtain⟨its,r,pl,hz⟩:=I.tuple hq;refine SeqAt.in_tupleAt (BZ x) pl (fun w hw=>lP rx fx r fs w (by simpa using hw)) ⟨.bl _,H,I,rfl,?_⟩;rw[show its.toArray.any (BZ x)=its.any (BZ x) by simp,px r fs];exact q
theorem pz:bQ X (.builtin "len") (fun xs H Q=>∃ p ys,xs=[.ref p]/\(SqL X.K H p ys\/SqT X.K H p ys)/\Q (.int ys.length) H):=by
 intro af s σ H xs us Q I r h;obtain⟨p,ys,rfl,hq,q⟩:=h;obtain⟨u,rfl,rx⟩:=dm r;cases rx;have hn:=pj;rcases hq with hq|hq
 .obtain⟨its,r',pl,hz⟩:=I.list hq;have bW:=r'.length;exact Calls.call_len_list pl.isList (by simp only[OA]<;>lia) ⟨.int ys.length,H,I.tok _,⟨s.toks+1,by rw[OA,bW]⟩,q⟩
 .obtain⟨its,r',pl,hz⟩:=I.tuple hq;have bW:=r'.length;exact len_tuple pl (by simp only[OA]<;>lia) ⟨.int ys.length,H,I.tok _,⟨s.toks+1,by rw[OA,bW]⟩,q⟩
theorem pA:bQ X (.type "list") (fun xs H Q=>∃ p ys,xs=[.ref p]/\(SqL X.K H p ys\/SqT X.K H p ys)/\∀ l,H l=none->Q (.ref l) (upd H l (.lst ys))):=by
 intro af s σ H xs us Q I r h;obtain⟨p,ys,rfl,hq,q⟩:=h;obtain⟨u,rfl,rx⟩:=dm r;cases rx;have fin:∀(its:List SI),Vals ys its->ys.length<=sizeLine->∀(h':Heap)(c':Nat),(∀ b o',s.heap.get? b=some o'->h'.get? b=some o')->
  h'.get? s.heap.objs.size=some { cls:=.type "list",dict:=none,data:=.seq its.toArray c',slots:=#[] }->EP X af σ Q (.ref s.heap.objs.size) { s with heap:=h' }:=fun its r' hz h' c' kp e=>
  ⟨.ref s.heap.objs.size,_,I.laid (t':=s.toks) kp (Oq _) (show ObjOk X.prog X.w _ h' _ (.lst ys) from⟨hz,its,c',r',e⟩),rfl,q _ (I.aX.fresh (Oq _))⟩
 rcases hq with hq|hq
 .obtain⟨its,r',pl,hz⟩:=I.list hq;have bW:=r'.length;obtain⟨o,ho,hc,n,hd⟩:=pl.isList;exact call_list_seq p (.inl rfl) ho hc hd (fun h' c' kp e=>fin its r' hz h' c' kp e) (by simp only[OA]<;>lia)
 .obtain⟨its,r',pl,hz⟩:=I.tuple hq;have bW:=r'.length;obtain⟨o,ho,hc,n,hd⟩:=pl;exact call_list_seq p (.inr rfl) ho hc hd (fun h' c' kp e=>fin its r' hz h' c' kp e) (by simp only[OA]<;>lia)
theorem nN:bQ X (.type "tuple") (fun xs H Q=>∃ p ys,xs=[.ref p]/\((SqL X.K H p ys/\∀ l,H l=none->Q (.ref l) (upd H l (.tup ys)))\/(SqT X.K H p ys/\Q (.ref p) H))):=by
 intro af s σ H xs us Q I r h;obtain⟨p,ys,rfl,h⟩:=h;obtain⟨u,rfl,rx⟩:=dm r;cases rx;rcases h with⟨hq,q⟩|⟨hq,q⟩
 .obtain⟨its,r',pl,hz⟩:=I.list hq;have bW:=r'.length;refine call_tuple_list pl.isList (fun h' kp=>?_) (by simp only[OA]<;>lia);have I1:Inv X af σ H { s with heap:=h' }:=I.kept (t':=s.toks) kp;have I2:Inv X af σ (upd H h'.objs.size (.tup ys)) { s with heap:=h'.push { cls:=.type "tuple",data:=.seq its.toArray } }:=I1.laid (t':=s.toks) (fun b o e=>Oo _ e) (Oq _) (show ObjOk X.prog X.w _ _ _ (.tup ys) from⟨hz,its,r',IsTup.new _ _⟩);exact⟨.ref h'.objs.size,_,I2,rfl,q _ (I1.aX.fresh (Oq _))⟩
 .obtain⟨its,r',pl,hz⟩:=I.tuple hq;exact call_tuple_same pl ⟨.ref p,H,I,rfl,q⟩
def Ho (K:SG)(T:String)(x:V)(H:Hp):Prop:=match x with
 | .str _=>T="str"
 | .int _=>T="int"
 | .ref p=>(T="list"/\∃ xs,SqL K H p xs)\/(T="tuple"/\∃ o,K.lookup p=some o/\o.cls=.type "tuple"/\o.dict=none)\/
  (T="dict"/\((∃ kvs,H p=some (.dK kvs))\/∃ kvs,H p=some (.dT kvs)))\/(T="set"/\∃ S n,H p=some (.set S n))
 |_=>False
theorem yp (I:Inv X af σ H s)(r:RelV x v)(ty:Ho X.K T x H) :
 s.TypeIs v T/\∀ a,v=.ref a->∃ ob,s.heap.get? a=some ob/\ob.dict=none:=by
 cases x with
 |str z=>obtain⟨t,rfl⟩:=r;cases (show T="str" from ty);exact⟨typeIs_str s z t,fun _ e=>nomatch e⟩
 |int i=>obtain⟨t,rfl⟩:=r;cases (show T="int" from ty);exact⟨typeIs_int s i t,fun _ e=>nomatch e⟩
 |ref p=>
  cases r;rcases ty with⟨rfl,xs,hq⟩|⟨rfl,o,hk,hc,hd⟩|⟨rfl,hk⟩|⟨rfl,S,n,hk⟩
  .obtain⟨its,_,pl,_⟩:=I.list hq;refine⟨pl.isList.typeIs,fun a e=>?_⟩;cases e;obtain⟨o,n,e,c,hd,_⟩:=pl;exact⟨o,e,hd⟩
  .refine⟨⟨o,I.iW p o hk,hc⟩,fun a e=>?_⟩;cases e;exact⟨o,I.iW _ o hk,hd⟩
  .have z:∃ o,s.heap.get? p=some o/\o.ExactDict:=by
    rcases hk with⟨kvs,hk⟩|⟨kvs,hk⟩
    .obtain⟨_,_,_,_,o,_,_,e,ex,_⟩:=I.aX p _ hk;exact⟨o,e,ex⟩
    .obtain⟨_,_,_,_,o,_,_,e,ex,_⟩:=I.aX p _ hk;exact⟨o,e,ex⟩
   obtain⟨o,e,ex⟩:=z;refine⟨⟨o,e,ex.1⟩,fun a e2=>?_⟩;cases e2;exact⟨o,e,ex.2.1⟩
  .obtain⟨o,_,_,_,e,ex,_⟩:=I.aX p _ hk;refine⟨⟨o,e,ex.1⟩,fun a e2=>?_⟩;cases e2;exact⟨o,e,ex.2.1⟩
 |_=>exact False.elim ty
noncomputable def B0 (K:SG)(T:String)(r:V->List V->Hp->VK->Prop)(to:TE):TE:=fun σ H Q=>to σ H fun x H1=>Ho K T x H1/\r x [] H1 Q
noncomputable def xS (K:SG)(T:String)(r:V->List V->Hp->VK->Prop)(to:TE)(t:TA):TE:=fun σ H Q=>to σ H fun x H1=>Ho K T x H1/\t σ H1 fun xs H2=>r x xs H2 Q
variable {o e:Expr}{es:List Expr}{to:TE}{t:TA}{name:Str}{apos cpos:Pos}{T id:String}{r:V->List V->Hp->VK->Prop}
theorem s_ (pa:PlainAttrs T) (slot:Slot T name id) (hty:typeOf (.builtin id)=pure (.type "method_descriptor")) (hm:EH X id r) (ho:PE X o to)
 (hbase:autoParam (attributeBase o name X.env (eval o X.env)=eval o X.env) SQ._auto_1) (hline:autoParam ((apos.endLine==cpos.line)=true) SQ._auto_1):PE X (.Call (.Attribute o name apos) [] [] cpos) (B0 X.K T r to):=by
 intro af s σ H Q I h;refine Rq hbase hline (b7 (ho af s σ H _ I h) fun v s1 ⟨x,H1,I1,r1,ty,q1⟩=>?_);obtain⟨h1,h2⟩:=yp I1 r1 ty;exact⟨T,id,pa,slot,hty,h1,h2,Qc rfl (PySem.evalArgs_none (hm af s1 σ H1 x [] v [] Q I1 r1 .nil q1))⟩
theorem eZ (pa:PlainAttrs T) (slot:Slot T name id) (hty:typeOf (.builtin id)=pure (.type "method_descriptor")) (hm:EH X id r) (ho:PE X o to) (ha:PA X (e::es) t)
 (hbase:autoParam (attributeBase o name X.env (eval o X.env)=eval o X.env) SQ._auto_1)
 (hfew:autoParam (((backTo cpos (starEach (e::es) X.env)).all (fun x=>!x.1)&&(backToKw cpos (keywordEach [] X.env)).all (fun x=>x.1.isSome)
   && decide ((e::es).length+([]:List Keyword).length+(if ([]:List Keyword).isEmpty then 0 else 1)<30))=true) SQ._auto_1)
 (hline:autoParam ((apos.endLine==cpos.line)=true) SQ._auto_1) (hs:autoParam (starEach (e::es) X.env=(false,eval e X.env)::starEach es X.env) SQ._auto_1) (hplain:autoParam (bT X cpos es) SQ._auto_1) :
 PE X (.Call (.Attribute o name apos) (e::es) [] cpos) (xS X.K T r to t):=by
 intro af s σ H Q I h;refine wpAny_Call_method_late hbase hfew hline rfl (b7 (ho af s σ H _ I h) fun v s1 ⟨x,H1,I1,r1,ty,q1⟩=>?_);obtain⟨h1,h2⟩:=yp I1 r1 ty;refine⟨T,id,pa,slot,hty,h1,h2,?_⟩;have hA:=ha cpos af s1 σ H1 _ I1 q1;rw[hs]at hA ⊢;refine Qc (by show(false || (backTo cpos (starEach es X.env)).any (·.1))=false;rw[hplain]<;>rfl) (QE ?_);exact b7 hA fun us s2 ⟨vs,H2,I2,r2,q2⟩=>hm af s2 σ H2 x vs v us Q I2 r1 r2 q2
end
def Kq (X:Cx)(id:String)(r:V->List V->Hp->VK->Prop):Prop:=
 ∀(af:List (Addr×Obj))(s:SF)(σ:St)(H:Hp)(x:V)(xs:List V)(v:SI)(us:List SI)(Q:VK),Inv X af σ H s->RelV x v->Vals xs us->r x xs H Q->
  wpAny (model X.prog X.w) X.A (call (.builtin id) (v::us)) (EP X af σ Q) X.xe s
theorem Vals.one {x:V}{us:List SI}(h:Vals [x] us):∃ u,us=[u]/\RelV x u:=dm h
theorem Vals.zero:∀{us:List SI},Vals [] us->us=[]
 |_,.nil=>rfl
theorem Vals.dropLast (h:Vals xs us):Vals xs.dropLast us.dropLast:=by
 induction h with
 |nil=>exact .nil
 |cons r t ih=>
  cases t with
  |nil=>exact .nil
  |cons q t'=>exact .cons r ih
theorem tf {α:Type}(l:List α):l.eraseIdx (l.length-1)=l.dropLast:=by
 induction l with
 |nil=>rfl
 |cons a r ih=>
  cases r with
  |nil=>rfl
  |cons b r=>
   have e:(a::b::r).length-1=((b::r).length-1)+1:=by have h1:(a::b::r).length=r.length+2:=rfl;have h2:(b::r).length=r.length+1:=rfl;lia
   rw[e,List.eraseIdx_cons_succ,ih]
   all_goals rfl
section
theorem Inv.GG {its its':List SI}{f:Array SI->Array SI}(I:Inv X af σ H s)(hH:H l=some (.lst xs))
 (e:s.heap.get? l=some { cls:=.type "list",data:=.seq its.toArray n }) (hf:f its.toArray=its'.toArray) (hv:Vals ys its') (hz:ys.length<=sizeLine) :
 Inv X af σ (upd H l (.lst ys)) { s with heap:=s.heap.update l (Obj.mapSeq f),toks:=t' }:=by
 have q:=PySem.IsL.update e f;rw[hf]at q;refine I.write (x:=l) (e:=l) (by rw[hH];exact trivial) (.inl rfl) (fun b' u hb hu=>(O1 s.heap (Obj.mapSeq f) (Pw hb)).trans hu) ⟨_,q⟩ ?_;exact⟨hz,its',_,hv,q⟩
theorem Inv.LW (I:Inv X af σ H s)(hv:Vals ys its)(hz:ys.length<=sizeLine) :
 Inv X af σ (upd H s.heap.objs.size (.lst ys)) { s with heap:=s.heap.push { cls:=.type "list",data:=.seq its.toArray },toks:=t' }:=
 I.laid (fun _ _ q=>Oo _ q) (Oq _) ⟨hz,its,0,hv,Oz _ rfl⟩
theorem Inv.fresh (I:Inv X af σ H s):H s.heap.objs.size=none:=I.aX.fresh (Oq _)
theorem Inv.xO (I:Inv X af σ H s) (hH:H l=some (.lst xs)):xs.length<=sizeLine/\∃(its:List SI)(n:Nat),Vals xs its/\xs.length=its.length/\s.heap.get? l=some { cls:=.type "list",data:=.seq its.toArray n }:=by obtain⟨z,its,n,r,e⟩:=I.aX l _ hH;exact⟨z,its,n,r,r.length,e⟩
theorem yq (h:n<=sizeLine):Builtin.List.listTooLong n=false:=by unfold Builtin.List.listTooLong;exact OZ (by lia)
end
section
def dD:V->List V->Hp->VK->Prop:=fun x vs H Q=>∃ l xs y,x=.ref l/\vs=[y]/\H l=some (.lst xs)/\xs.length<sizeLine/\Q .bC (upd H l (.lst (xs++[y])))
theorem cp:Kq X "list.append" dD:=by intro af s σ H x vs v us Q I rx rv h;obtain⟨l,xs,y,rfl,rfl,hH,hz,q⟩:=h;cases rx;obtain⟨u,rfl,ru⟩:=rv.one;obtain⟨z,its,n,r,hl,e⟩:=I.xO hH;refine call_meets F.slot_list_append ⟨_,e,rfl⟩ F.entry_list_append (F.args_list_append_2 _ _) (PySem.list_append l its.toArray n u (by rw[OA];lia)) ⟨e,?_⟩;refine⟨.bC,_,I.GG (its':=its++[u]) hH e (by simp) (r.append (.cons ru .nil)) ?_,rfl,q⟩;rw[OF,QW];lia
def uN:V->List V->Hp->VK->Prop:=fun x vs H Q=>∃ l b xs zs,x=.ref l/\vs=[.ref b]/\H l=some (.lst xs)/\H b=some (.lst zs)/\xs.length+zs.length<=sizeLine/\Q .bC (upd H l (.lst (xs++zs)))
theorem v5:Kq X "list.extend" uN:=by
 intro af s σ H x vs v us Q I rx rv h;obtain⟨l,b,xs,zs,rfl,rfl,hH,hB,hz,q⟩:=h;cases rx;obtain⟨u,rfl,ru⟩:=rv.one;cases ru;obtain⟨z,its,n,r,hl,e⟩:=I.xO hH;obtain⟨z2,its2,n2,r2,hl2,e2⟩:=I.xO hB;have hsz:its.toArray.size+its2.toArray.size<=sizeLine:=by rw[OA,OA];lia
 have hlong:¬ (!its.toArray.isEmpty&&Builtin.List.listTooLong (its.toArray.size+its2.toArray.size))=true:=by rw[yq hsz,RJ];exact ON
 refine call_meets F.slot_list_extend ⟨_,e,rfl⟩ F.entry_list_extend (F.args_list_extend_2 _ _)
  (AutoSeq1.list_extend_list_list_0 l its.toArray n b its2.toArray n2 hlong (by rw[OA];lia) (by lia)) ⟨e,e2,?_⟩
 refine⟨.bC,_,I.GG (its':=its++its2) hH e (by simp) (r.append r2) ?_,rfl,q⟩;rw[OF];lia
def Hq:V->List V->Hp->VK->Prop:=fun x vs H Q=>∃ l xs y,x=.ref l/\vs=[]/\H l=some (.lst xs)/\xs[xs.length-1]?=some y/\Q y (upd H l (.lst xs.dropLast))
theorem EJ:Kq X "list.pop" Hq:=by
 intro af s σ H x vs v us Q I rx rv h;obtain⟨l,xs,y,rfl,rfl,hH,hy,q⟩:=h;cases rx;have hus:=rv.zero;subst hus;obtain⟨z,its,n,r,hl,e⟩:=I.xO hH;obtain⟨u,hu,ru⟩:=r.get hy;have hy':its.toArray[its.toArray.size-1]?=some u:=by show its.toArray[its.length-1]?=some u;rw[<- OY,<- hl];exact hu
 refine call_meets F.slot_list_pop ⟨_,e,rfl⟩ F.entry_list_pop (F.args_list_pop_1 _) (MeetsSeq.list_pop_last l its.toArray n u hy' (by rw[OA];lia)) ⟨e,?_⟩;refine⟨y,_,I.GG (its':=its.dropLast) hH e ?_ r.dropLast ?_,ru,q⟩
 .show its.toArray.eraseIdxIfInBounds (its.toArray.size-1)=its.dropLast.toArray;rw[OA,List.eraseIdxIfInBounds_toArray,tf]
 .rw[List.length_dropLast];lia
def EK:R2:=fun x y H Q=>∃ l b xs zs,x=.ref l/\y=.ref b/\H l=some (.lst xs)/\H b=some (.lst zs)/\xs.length+zs.length<=sizeLine/\∀ p,H p=none->Q (.ref p) (upd H p (.lst (xs++zs)))
theorem yr:iN X (binaryOp .Add) EK:=by
 intro af s σ H x y v u Q I rx ry h;obtain⟨l,b,xs,zs,rfl,rfl,hH,hB,hz,q⟩:=h;cases rx;cases ry;obtain⟨z,its,n,r,hl,e⟩:=I.xO hH;obtain⟨z2,its2,n2,r2,hl2,e2⟩:=I.xO hB;refine PySem.P.add_list e e2 ?_ (by rw[OA,OA];lia);have ea:its.toArray++its2.toArray=(its++its2).toArray:=by simp
 rw[ea];exact⟨.ref _,_,I.LW (t':=s.toks) (r.append r2) (by rw[OF];lia),rfl,q _ I.fresh⟩
end
section
variable {κ:Type}[DecidableEq κ]
noncomputable def cz (kvs:List (κ×V))(k:κ):Option V:=(kvs.find? fun kv=>decide (kv.1=k)).map (·.2)
noncomputable def ci (kvs:List (κ×V))(k:κ)(v:V):List (κ×V):=if (kvs.any fun kv=>decide (kv.1=k))=true then kvs.map (fun kv=>if kv.1=k then (kv.1,v) else kv) else kvs++[(k,v)]
noncomputable def iZ (kvs:List (κ×V))(k:κ):List (κ×V):=kvs.filter fun kv=>decide (kv.1≠k)
theorem dL {p:κ×V}(e:p.1=k):cz (p::r) k=some p.2:=by simp[cz,Qu,e]
theorem dM {p:κ×V}(e:¬ p.1=k):cz (p::r) k=cz r k:=by simp[cz,Qu,e]
theorem gb (k:κ):∀ kvs:List (κ×V),(kvs.any fun kv=>decide (kv.1=k))=(cz kvs k).isSome
 | []=>rfl
 |p::r=>by
  rw[Q0];by_cases e:p.1=k
  .simp only[dL e,OO e,Bool.true_or,Option.isSome_some]
  .rw[dM e,OZ e,Bool.false_or];exact gb k r
theorem dN (kvs:List (κ×V))(k:κ)(v:V):(ci kvs k v).length<=kvs.length+1:=by grind [ci]
theorem jr {kvs:List (κ×V)}(v:V)(h:cz kvs k=none):ci kvs k v=kvs++[(k,v)]:=by unfold ci;rw[gb,h];exact OL (by decide)
theorem RelO.eY (r:RelO o u):o.isSome=u.isSome:=by
 cases o with
 |none=>cases u with
  |none=>rfl
  |some _=>exact(show False from r).elim
 |some _=>cases u with
  |none=>exact(show False from r).elim
  |some _=>rfl
theorem RelO.getD (r:RelO o u)(rd:RelV d d'):RelV (o.getD d) (u.getD d'):=by
 cases o with
 |none=>cases u with
  |none=>exact rd
  |some _=>exact(show False from r).elim
 |some _=>cases u with
  |none=>exact(show False from r).elim
  |some _=>exact r
theorem KV.val {kvs:List (κ×V)}(r:KV kvs vs)(k:κ):RelO (cz kvs k) (valueAt vs k):=by
 unfold KV at r;induction r with
 |nil=>exact True.intro
 | @cons p q ps qs h t ih=>
  obtain⟨h1,h2⟩:=h;by_cases e:p.1=k
  .have e':q.1=k:=h1.symm.trans e;have b:valueAt (q::qs) k=some q.2:=by simp[valueAt,Qu,e']
   rw[dL e,b];exact h2
  .have e':¬ q.1=k:=fun z=>e (h1.trans z);have b:valueAt (q::qs) k=valueAt qs k:=by simp[valueAt,Qu,e']
   rw[dM e,b];exact ih
theorem KV.any (r:KV kvs vs)(k:κ):(kvs.any fun kv=>decide (kv.1=k))=vs.any fun kv=>decide (kv.1=k):=by
 unfold KV at r;induction r with
 |nil=>rfl
 |cons h t ih=>rw[Q0,Q0,ih,h.1]
theorem KV.GL (r:KV kvs vs)(k:κ)(ry:RelV y u) :
 KV (kvs.map fun kv=>if kv.1=k then (kv.1,y) else kv) (vs.map fun kv=>if kv.1=k then (kv.1,u) else kv):=by
 unfold KV at r ⊢;induction r with
 |nil=>exact .nil
 | @cons p q ps qs h t ih=>
  rw[OE,OE];refine .cons ?_ ih
  grind
theorem KV.put (r:KV kvs vs)(k:κ)(ry:RelV y u):KV (ci kvs k y) (stored vs k u):=by
 unfold ci stored;rw[r.any k];by_cases e:(vs.any fun kv=>decide (kv.1=k))=true
 .rw[OK e,OK e];exact r.GL k ry
 .rw[OL e,OL e];exact Paired.snoc r ⟨rfl,ry⟩
theorem KV.drop (r:KV kvs vs)(k:κ):KV (iZ kvs k) (without vs k):=by
 unfold KV at r ⊢;unfold iZ without;induction r with
 |nil=>exact .nil
 | @cons p q ps qs h t ih=>
  obtain⟨h1,h2⟩:=h;rw[Sz,Sz];by_cases e:p.1=k
  .grind
  .have e':¬ q.1=k:=fun z=>e (h1.trans z);have a:decide (p.1≠k)=true:=by simp[e]
   have b:decide (q.1≠k)=true:=by simp[e']
   rw[OK a,OK b];exact .cons ⟨h1,h2⟩ ih
theorem KV.length (r:KV kvs vs):kvs.length=vs.length:=QY r
theorem yt (kvs:List (κ×V))(k:κ):(iZ kvs k).length<=kvs.length:=Qi _ _
end
theorem i5 (r:RelV (kV k) u):(aS P w).is k u=true:=by
 cases k with
 |inl i=>obtain⟨t,e⟩:=(show ∃ t,u=Value.int i t from r);subst e;exact qG P w i t
 |inr x=>obtain⟨t,e⟩:=(show ∃ t,u=Value.str x t from r);subst e;exact qH P w x t
theorem oF:∀{ks:List bG}{us:List SI},Vals (ks.map kV) us->ItemsAre (aS P w) ks us
 | [],_,r=>by rw[QJ]at r;cases r;exact .nil
 |k::ks,_,r=>by
  rw[OE]at r;cases r with
  |cons h t=>exact .cons (i5 h) (oF t)
abbrev KT (H:Hp):List (List bG×V)->List (List bG×Addr×SI)->Prop:=Paired fun p q=>p.1=q.1/\H q.2.1=some (.tup (p.1.map kV))/\RelV p.2 q.2.2
theorem KT.val {H:Hp}(r:KT H kvs xs)(k:List bG):RelO (cz kvs k) ((atKey xs k).map (·.2)):=by
 induction r with
 |nil=>exact True.intro
 | @cons p q ps qs h t ih=>
  obtain⟨h1,_,h2⟩:=h;by_cases e:p.1=k
  .have e':q.1=k:=h1.symm.trans e;have b:atKey (q::qs) k=some q.2:=by simp[atKey,Qu,e']
   rw[dL e,b];exact h2
  .have e':¬ q.1=k:=fun z=>e (h1.trans z);have b:atKey (q::qs) k=atKey qs k:=by simp[atKey,Qu,e']
   rw[dM e,b];exact ih
theorem KT.GL (r:KT H kvs xs)(k:List bG)(ry:RelV y u) :
 KT H (kvs.map fun kv=>if kv.1=k then (kv.1,y) else kv) (xs.map (putAt k u)):=by
 induction r with
 |nil=>exact .nil
 | @cons p q ps qs h t ih=>
  rw[OE,OE];refine .cons ?_ ih;obtain⟨h1,h2,h3⟩:=h;unfold putAt
  grind
theorem KT.put (r:KT H kvs xs)(k:List bG)(hb:H b=some (.tup (k.map kV)))(ry:RelV y u) :
 KT H (ci kvs k y) (storedH xs k b u):=by
 have e:(kvs.any fun kv=>decide (kv.1=k))=(atKey xs k).isSome:=by rw[gb,(r.val k).eY,Sk]
 unfold ci storedH;rw[e];by_cases q:(atKey xs k).isSome=true
 .rw[OK q,OK q];exact r.GL k ry
 .rw[OL q,OL q];exact Paired.snoc r ⟨rfl,hb,ry⟩
theorem KT.keeps (r:KT H kvs xs)(ht:∀ b ys,H b=some (.tup ys)->H' b=some (.tup ys)):KT H' kvs xs:=Paired.GC r fun _ _ z=>⟨z.1,ht _ _ z.2.1,z.2.2⟩
section
theorem DJ (ok:HOk P w H h)(e:Rd H a u):ObjOk P w H h a u:=e.ok ok
theorem js (ok:HOk P w H h)(e:Rd H a (.dK kvs)):kvs.length<=sizeLine/\(a==sysModules)=false/\∃ vs,KV kvs vs/\h.DictOf (aS P w) a vs:=show ObjOk P w H h a (.dK kvs) from DJ ok e
theorem qR (ok:HOk P w H h)(e:H a=some (.dK kvs)):kvs.length<=sizeLine/\(a==sysModules)=false/\∃ vs,KV kvs vs/\h.DictOf (aS P w) a vs:=js ok (.inl e)
theorem dS (ok:HOk P w H h)(e:H a=some (.tup (ks.map kV))):(tupleKind (aS P w)).is h ks a:=by obtain⟨_,its,r,o,h1,h2,n,h3⟩:=(show ObjOk P w H h a (.tup (ks.map kV)) from ok a _ e);exact⟨o,its.toArray,n,h1,h2,h3,by simpa using oF r⟩
theorem kE (ok:HOk P w H h)(e:Rd H a (.dT kvs)):kvs.length<=sizeLine/\(a==sysModules)=false/\
 ∃ xs,KT H kvs xs/\h.DictOfH (tupleKind (aS P w)) a xs:=by
 obtain⟨z,y,xs,r,o,es,ep,h1,h2,h3,h4,h5⟩:=(show ObjOk P w H h a (.dT kvs) from DJ ok e);refine⟨z,y,xs,r,o,es,ep,h1,h2,h3,h4,fun x hx=>?_,h5⟩;have all:∀{l:List (List bG×V)}{m:List (List bG×Addr×SI)},KT H l m->∀ x∈m,(tupleKind (aS P w)).is h x.1 x.2.1:=by
  intro l m q;induction q with
  |nil=>intro x hx;exact nomatch hx
  | @cons p q ps qs hq t ih=>grind [dS]
 exact all r x hx
theorem DM (ok:HOk P w H h)(e:H a=some (.dT kvs)):kvs.length<=sizeLine/\(a==sysModules)=false/\
 ∃ xs,KT H kvs xs/\h.DictOfH (tupleKind (aS P w)) a xs:=kE ok (.inl e)
end
def DGet (H:Hp)(a:Addr)(y:V)(r:Option V):Prop:=(∃ kvs k,Rd H a (.dK kvs)/\y=kV k/\r=cz kvs k)\/∃ kvs k b,Rd H a (.dT kvs)/\y=.ref b/\H b=some (.tup (k.map kV))/\r=cz kvs k
def DPut (H:Hp)(a:Addr)(y v:V)(H':Hp):Prop:=
 (∃ kvs k,H a=some (.dK kvs)/\y=kV k/\kvs.length<sizeLine/\H'=upd H a (.dK (ci kvs k v)))\/
 ∃ kvs k b,H a=some (.dT kvs)/\y=.ref b/\H b=some (.tup (k.map kV))/\kvs.length<sizeLine/\H'=upd H a (.dT (ci kvs k v))
theorem DGet.k {kvs:List (bG×V)}{k:bG}(e:H a=some (.dK kvs)):DGet H a (kV k) (cz kvs k):=.inl ⟨kvs,k,.inl e,rfl,rfl⟩
theorem DGet.t {kvs:List (List bG×V)}{k:List bG}(e:H a=some (.dT kvs))(eb:H b=some (.tup (k.map kV))):DGet H a (.ref b) (cz kvs k):=.inr ⟨kvs,k,b,.inl e,rfl,eb,rfl⟩
theorem DPut.k {kvs:List (bG×V)}{k:bG}{v:V}(e:H a=some (.dK kvs))(hl:kvs.length<sizeLine):DPut H a (kV k) v (upd H a (.dK (ci kvs k v))):=.inl ⟨kvs,k,e,rfl,hl,rfl⟩
theorem DPut.t {kvs:List (List bG×V)}{k:List bG}{v:V}(e:H a=some (.dT kvs))(eb:H b=some (.tup (k.map kV)))(hl:kvs.length<sizeLine) :
 DPut H a (.ref b) v (upd H a (.dT (ci kvs k v))):=.inr ⟨kvs,k,b,e,rfl,eb,hl,rfl⟩
section
theorem Inv.big (I:Inv X af σ H s):sysModules<s.heap.objs.size:=by have h:mainGlobals<s.heap.objs.size:=(I.mod.glob.keeps I.bk).lt;exact Nat.lt_trans (by decide) h
theorem v6 (hu:A.units+1<cLine)(I:Inv X af σ H s)(g:DGet H a y (some v))(ry:RelV y u)(h:∀ w' s',Inv X af σ H s'->RelV v w'->Q w' s') :
 wpAny (model X.prog X.w) A (getItem (.ref a) u) Q E s:=by
 rcases g with⟨kvs,k,e,ey,l⟩|⟨kvs,k,b,e,ey,eb,l⟩
 .subst ey;obtain⟨z,hd,vs,rel,dd⟩:=js I.aX e;obtain⟨w',hw,rw'⟩:=RelO.some_of (v:=v) (o:=valueAt vs k) (by rw[l];exact rel.val k);exact wpAny_getItem_of (i5 ry) dd.mapOf hw (h w' _ (I.tok _) rw')
 .subst ey;cases (show u=Value.ref b from ry);obtain⟨z,hd,xs,rel,dd⟩:=kE I.aX e;obtain⟨w',hw,rw'⟩:=RelO.some_of (v:=v) (o:=(atKey xs k).map (·.2)) (by rw[l];exact rel.val k);obtain⟨p,hp,hp2⟩:=Pd.mp hw;refine wpAny_getItem_heap (Qz hu) (dS I.aX eb) dd hp ?_;rw[hp2];exact h w' _ (I.tok _) rw'
theorem Kr (hu:A.units+1<cLine)(I:Inv X af σ H s)(g:DGet H a y o)(ry:RelV y u)(h:∀ s',Inv X af σ H s'->Q (.bool o.isSome) s') :
 wpAny (model X.prog X.w) A (compareOp .In u (.ref a)) Q E s:=by
 rcases g with⟨kvs,k,e,ey,l⟩|⟨kvs,k,b,e,ey,eb,l⟩
 .subst ey;obtain⟨z,hd,vs,rel,dd⟩:=js I.aX e;refine wpAny_in_of (i5 ry) hd dd.mapOf ?_;rw[<- (rel.val k).eY,<- l];exact h _ (I.tok _)
 .subst ey;cases (show u=Value.ref b from ry);obtain⟨z,hd,xs,rel,dd⟩:=kE I.aX e;refine wpAny_in_heap (Qz hu) (dS I.aX eb) hd dd ?_;have q:=(rel.val k).eY;rw[Sk]at q;rw[<- q,<- l];exact h _ (I.tok _)
theorem iE (I:Inv X af σ H s)(mu:GV (H a))(hs:Heap.SameBut a s.heap h')(he:∃ q,h'.get? a=some q)(new:ObjOk X.prog X.w (upd H a ob) h' a ob) :
 Inv X af σ (upd H a ob) { s with heap:=h',toks:=t' }:=
 I.write (x:=a) (e:=a) mu (.inl rfl) (fun b q hb z=>(hs.2 b hb).trans z) he new
theorem pB (z:kvs.length<=sizeLine)(hd:(a==sysModules)=false)(rel:KV kvs vs)(dd:h'.DictOf (aS P w) a vs) :
 ObjOk P w H' h' a (.dK kvs):=⟨z,hd,vs,rel,dd⟩
theorem v7 (hu:A.units+1<cLine)(I:Inv X af σ H s)(g:DPut H a y v H')(ry:RelV y u)(rv:RelV v r)(h:∀ s',Inv X af σ H' s'->Q () s') :
 wpAny (model X.prog X.w) A (setItem (.ref a) u r) Q E s:=by
 rcases g with⟨kvs,k,e,ey,l,eH⟩|⟨kvs,k,b,e,ey,eb,l,eH⟩
 .subst ey eH;obtain⟨z,hd,vs,rel,dd⟩:=qR I.aX e;have hz:vs.length<=sizeLine:=by rw[<- rel.length];exact z
  have hl:(ci kvs k v).length<=sizeLine:=by have:=dN kvs k v;lia
  refine wpAny_setItem_pairs (hsz:=hz) (i5 ry) dd fun h' dd' hs=>h _ ?_;have he:∃ q,h'.get? a=some q:=let ⟨q,_,_,hq,_⟩:=dd';⟨q,hq⟩;exact iE I (by rw[e];exact True.intro) hs he (pB hl hd (rel.put k rv) dd')
 .subst ey eH;cases (show u=Value.ref b from ry);obtain⟨z,hd,xs,rel,dd⟩:=DM I.aX e;have hz:xs.length<=sizeLine:=by rw[<- QY rel];exact z
  have hl:(ci kvs k v).length<=sizeLine:=by have:=dN kvs k v;lia
  refine wpAny_setItem_heap (hsz:=hz) (Qz hu) (dS I.aX eb) dd fun h' dd' hs=>h _ ?_;obtain⟨q,es,ep,hq,h2,h3,h4,_,h5⟩:=dd';refine iE I (by rw[e];exact True.intro) hs ⟨q,hq⟩ ⟨hl,hd,_,(rel.put k eb rv).keeps fun c ys ec=>?_,q,es,ep,hq,h2,h3,h4,h5⟩;rw[aA (xX ec e (fun z=>nomatch z))];exact ec
end
section
theorem Hr (I:Inv X af σ H s)(e:H a=some (.dK kvs))(ry:RelV (kV k) u)(l:cz kvs k=some v)(hm:more=[]\/∃ x,more=[x])
 (h:∀ w' s',Inv X af σ (upd H a (.dK (iZ kvs k))) s'->RelV v w'->Q w' s'):wpAny (model X.prog X.w) A (call (.builtin "dict.pop") (.ref a::u::more)) Q E s:=by
 obtain⟨z,hd,vs,rel,dd⟩:=qR I.aX e;obtain⟨w',hw,rw'⟩:=RelO.some_of (v:=v) (o:=valueAt vs k) (by rw[<- l];exact rel.val k);have hp:(keyPart u).isSome=true:=by
  cases k with
  |inl i=>obtain⟨t,q⟩:=(show ∃ t,u=Value.int i t from ry);subst q;rfl
  |inr x=>obtain⟨t,q⟩:=(show ∃ t,u=Value.str x t from ry);subst q;rfl
 have ha:argsOk "dict.pop" ⟨.ref a::u::more,[]⟩:=by
  rcases hm with q|⟨x,q⟩
  .subst q;exact PySem.F.args_dict_pop_2 _ _
  .subst q;exact PySem.F.args_dict_pop_3 _ _ _
 refine Rk PySem.F.slot_dict_pop dd.typeIs PySem.F.entry_dict_pop ha (meets_dict_pop_there (aS X.prog X.w) a (i5 ry) more hm hp)
  ⟨vs,w',dd,by rw[<- rel.length];exact z,hw,fun h' dd' hs=>h w' _ ?_ rw'⟩
 have he:∃ q,h'.get? a=some q:=let ⟨q,_,_,hq,_⟩:=dd';⟨q,hq⟩;exact iE I (by rw[e];exact True.intro) hs he (pB (OR (yt kvs k) z) hd (rel.drop k) dd')
end
def Hu (i:Expr):Prop:=∀ ov iv,subscripted i false ov iv=operate [ov,iv] (getItem ov iv)
theorem B3 {E:SI->SF->Prop}{env:Env}{value slice:Expr}{pos:Pos}{T id:String}{Q:SI->SF->Prop}
 (hl:typeLookup (.type T) "__getitem__"=pure (some (.builtin id))) (hs:Hu slice)
 (h:wpAny (model prog w) A (eval value env) (fun o s₁=>wpAny (model prog w) A (eval slice env) (fun i s₂=>s₂.TypeIs o T/\wpAny (model prog w) A (getItem o i) Q E s₂) E s₁) E s) :
 wpAny (model prog w) A (eval (.Subscript value slice pos) env) Q E s:=by
 refine Subscript_ (Ps h (fun o s₁ h₁=>Ps h₁ (fun i s₂ h₂=>?_) fun _ _ x=>x) fun _ _ x=>x);obtain⟨hT,h₂⟩:=h₂;unfold subscriptTail;refine KE ?_;rw[getitemInPython_of_ne hT.not_modules];refine KE (wpAny_specialOf hT hl ?_);have fin:wpAny (model prog w) A (subscripted slice false o i) (fun r s₃=>wpAny (model prog w) A (letTemporaryGo value o r >>= fun _=>pure r) Q E s₃) E s₂:=by rw[hs o i];exact wpAny_operating (Ps h₂ (fun r s₃ h₃=>KE (wpAny_letTemporaryGo (Os h₃))) fun _ _ x=>x)
 first
  |exact Os (KE fin)
  |exact KE (Os (KE fin))
  |exact KE fin
theorem qS (I:Inv X af σ H s) (g:DGet H a y o):s.TypeIs (.ref a) "dict":=by
 rcases g with⟨kvs,k,e,_,_⟩|⟨kvs,k,b,e,_,_,_⟩
 .obtain⟨_,_,vs,_,dd⟩:=js I.aX e;exact dd.typeIs
 .obtain⟨_,_,xs,_,dd⟩:=kE I.aX e;exact dd.typeIs
noncomputable def qT (td ty:TE):TE:=fun σ H Q=>td σ H fun x H1=>ty σ H1 fun y H2=>∃ a v,x=.ref a/\DGet H2 a y (some v)/\Q v H2
noncomputable def qU (td ty tv:TE):TS:=fun D σ H=>tv σ H fun v H1=>td σ H1 fun x H2=>ty σ H2 fun y H3=>∃ a H4,x=.ref a/\DPut H3 a y v H4/\D.nx σ H4
section
theorem jt (hu:X.A.units+1<cLine)(ho:PE X o td)(hi:PE X i ty)(hs:Hu i):PE X (.Subscript o i pos) (qT td ty):=by intro af s σ H Q I h;refine B3 PySem.F.slot_dict_getitem.lookup hs (b7 (ho af s σ H _ I h) fun u s1 ⟨x,H1,I1,rx,q1⟩=>b7 (hi af s1 σ H1 _ I1 q1) fun iv s2 ⟨y,H2,I2,ry,a,v,ex,g,q2⟩=>?_);subst ex;obtain rfl:u=Value.ref a:=rx;exact⟨qS I2 g,v6 hu I2 g ry fun w' s3 I3 rw'=>⟨v,H2,I3,rw',q2⟩⟩
theorem uO (hu:X.A.units+1<cLine)(ho:PE X o td)(hi:PE X i ty)(hv:PE X value tv)(hs:swapsWith value (some (.Subscript o i pos')) pos.line X.env=pure false) :
 PS X (.Assign [.Subscript o i pos'] value pos) (qU td ty tv):=by
 intro af s σ H D I h;refine wpAny_Assign_Subscript (b7 (hv af s σ H _ I h) fun r s1 ⟨v,H1,I1,rv,q1⟩=>b7 (ho af s1 σ H1 _ I1 q1) fun u s2 ⟨x,H2,I2,rx,q2⟩=>b7 (hi af s2 σ H2 _ I2 q2) fun iv s3 ⟨y,H3,I3,ry,a,H4,ex,g,q3⟩=>?_) hs;subst ex;obtain rfl:u=Value.ref a:=rx;exact v7 hu I3 g ry rv fun s4 I4=>⟨σ,H4,I4,q3⟩
end
theorem qV (h:Heap) (hb:sysModules<h.objs.size):ObjOk P w H (h.push { cls:=.type "dict",data:=.dict #[] }) h.objs.size (.dK []):=⟨OP _,beq_eq_false_iff_ne.mpr (Pw (OQ hb)),[],.nil,Heap.DictOf.new h⟩
theorem yu (h:Heap) (hb:sysModules<h.objs.size):ObjOk P w H (h.push { cls:=.type "dict",data:=.dict #[] }) h.objs.size (.dT []):=⟨OP _,beq_eq_false_iff_ne.mpr (Pw (OQ hb)),[],.nil,_,#[],0,Oz _ rfl,⟨rfl,rfl,rfl⟩,rfl,rfl,O_⟩
def ti:TE:=fun _ H Q=>∀ p,H p=none->Q (.ref p) (upd H p (.dK []))
def j4:TE:=fun _ H Q=>∀ p,H p=none->Q (.ref p) (upd H p (.dT []))
section
theorem qW:PE X (.Dict [] [] pos) ti:=fun af s σ H Q I h=>wpAny_Dict_empty ⟨.ref s.heap.objs.size,_,I.laid (a:=s.heap.objs.size) (o:=.dK []) (t':=s.toks) (fun _ _ q=>Oo _ q) (Oq _) (qV s.heap I.big),rfl,h _ (I.aX.fresh (Oq _))⟩
theorem g_:PE X (.Dict [] [] pos) j4:=fun af s σ H Q I h=>wpAny_Dict_empty ⟨.ref s.heap.objs.size,_,I.laid (a:=s.heap.objs.size) (o:=.dT []) (t':=s.toks) (fun _ _ q=>Oo _ q) (Oq _) (yu s.heap I.big),rfl,h _ (I.aX.fresh (Oq _))⟩
end
noncomputable def tj:List (TE×TE)->St->Hp->(List (V×V)->Hp->Prop)->Prop
 | [],_,H,Q=>Q [] H
 |(tk,tv)::r,σ,H,Q=>tk σ H fun x H1=>tv σ H1 fun y H2=>tj r σ H2 fun ps H3=>Q ((x,y)::ps) H3
abbrev VV:List (V×V)->List (SI×SI)->Prop:=Paired fun p q=>RelV p.1 q.1/\RelV p.2 q.2
def JW (X:Cx)(pos:Pos)(keys:List (Option Expr))(values:List Expr)(trs:List (TE×TE)):Prop:=
 ∀(af:List (Addr×Obj))(s:SF)(σ:St)(H:Hp)(Q:List (V×V)->Hp->Prop),Inv X af σ H s->tj trs σ H Q->
  wpAny (model X.prog X.w) X.A (evalPairs (pairTrees keys values X.env pos)) (fun vs s'=>∃ ps H',Inv X af σ H' s'/\VV ps vs/\Q ps H') X.xe s
theorem B4:JW X pos [] [] []:=fun af s σ H Q I h=>pairTrees_nil_walk ⟨[],H,I,.nil,h⟩
theorem yv (hk:PE X k tk)(hv:PE X v tv)(hr:JW X pos ks vs trs) :
 JW X pos (some k::ks) (v::vs) ((tk,tv)::trs):=fun af s σ H Q I h=>
 pairTrees_cons_walk (b7 (hk af s σ H _ I h) fun u s1 ⟨x,H1,I1,rx,q1⟩=>b7 (hv af s1 σ H1 _ I1 q1) fun w2 s2 ⟨y,H2,I2,ry,q2⟩=>b7 (hr af s2 σ H2 _ I2 q2) fun ws s3 ⟨ps,H3,I3,rel,q3⟩=>⟨(x,y)::ps,H3,I3,.cons ⟨rx,ry⟩ rel,q3⟩)
def hG (kvs more:List (bG×V)):List (bG×V):=more.foldl (fun acc kv=>ci acc kv.1 kv.2) kvs
theorem KV.merge:∀{more:List (bG×V)}{rs:List (bG×SI)}{kvs:List (bG×V)}{vs:List (bG×SI)},KV more rs->KV kvs vs->KV (hG kvs more) (merged vs rs):=by
 intro more rs kvs vs r;unfold KV at r;induction r generalizing kvs vs with
 |nil=>intro q;exact q
 | @cons p q ps qs h t ih=>
  intro r0;have e:KV (ci kvs p.1 p.2) (stored vs q.1 q.2):=by have:=r0.put p.1 h.2;rw[<- h.1];exact this
  exact ih e
theorem i6:∀(more kvs:List (bG×V)),(hG kvs more).length<=kvs.length+more.length
 | [],kvs=>by show kvs.length<=kvs.length+0;lia
 |p::r,kvs=>by
  have h1:=i6 r (ci kvs p.1 p.2)
  grind [dN,hG,ci]
theorem lQ:∀{kvs:List (bG×V)}{ws:List (SI×SI)},VV (kvs.map fun kv=>(kV kv.1,kv.2)) ws->∃ rs,Carries (aS P w) ws rs/\KV kvs rs
 | [],_,r=>by rw[QJ]at r;cases r;exact⟨[],True.intro,.nil⟩
 |p::kvs,_,r=>by
  rw[OE]at r;cases r with
  | @cons a b as bs h t=>obtain⟨rs,c,q⟩:=lQ (P:=P) (w:=w) t;obtain⟨b1,b2⟩:=b;exact⟨(p.1,b2)::rs,⟨i5 h.1,rfl,c⟩,.cons ⟨rfl,h.2⟩ q⟩
def DN (trs:List (TE×TE)):TE:=fun σ H Q=>∀ p,H p=none->tj trs σ (upd H p (.dK [])) fun ps H2=>H2 p=some (.dK [])/\∃ kvs:List (bG×V),ps=kvs.map (fun kv=>(kV kv.1,kv.2))/\kvs.length<=15/\Q (.ref p) (upd H2 p (.dK (hG [] kvs)))
theorem B5 (h:JW X pos keys values trs)(iS:keys.all (·.isSome)=true)(hl:keys.length=values.length)(h0:keys≠[])
 (h15:keys.length<=15):PE X (.Dict keys values pos) (DN trs):=by
 intro af s σ H Q I q;have hn:=I.aX.fresh (Oq s.heap.objs.size);have I1:=I.laid (a:=s.heap.objs.size) (o:=.dK []) (h':=s.heap.push { cls:=.type "dict",data:=.dict #[] }) (t':=s.toks) (fun _ _ q=>Oo _ q) (Oq _) (qV s.heap I.big);refine wpAny_Dict_walk (knd:=aS X.prog X.w) iS hl h0 h15 (b7 (h af _ σ _ _ I1 (q _ hn)) fun ws s2 ⟨ps,H2,I2,rel,e,kvs,ep,lk,q2⟩=>?_);subst ep;obtain⟨rs,c,rk⟩:=lQ (P:=X.prog) (w:=X.w) rel;obtain⟨z,hd,vs0,r0,dd⟩:=qR I2.aX e;cases r0;refine⟨rs,c,dd,fun h' dd' hs=>⟨.ref s.heap.objs.size,_,?_,rfl,q2⟩⟩;have hz:(hG [] kvs).length<=sizeLine:=by have h1:=i6 kvs [];rw[P7]at h1;rw[OG];lia
 have he:∃ q,h'.get? s.heap.objs.size=some q:=let ⟨q,_,_,hq,_⟩:=dd';⟨q,hq⟩;exact iE I2 (by rw[e];exact True.intro) hs he (pB hz hd (rk.merge .nil) dd')
structure M1 (X:Cx) (o:Expr) (m:Str) (apos:Pos) (e:Expr) (cpos:Pos):Prop where
 base:attributeBase o m X.env (eval o X.env)=eval o X.env
 kN:((backTo cpos (starEach [e] X.env)).all (fun x=>!x.1)&&(backToKw cpos (keywordEach [] X.env)).all (fun x=>x.1.isSome)
  && decide (([e]:List Expr).length+([]:List Keyword).length+(if ([]:List Keyword).isEmpty then 0 else 1)<30))=true
 line:(apos.endLine==cpos.line)=true
 trees:backTo cpos (starEach [e] X.env)=[(false,eval e X.env)]
structure M2 (X:Cx) (o:Expr) (m:Str) (apos:Pos) (e f:Expr) (cpos:Pos):Prop where
 base:attributeBase o m X.env (eval o X.env)=eval o X.env
 kN:((backTo cpos (starEach [e,f] X.env)).all (fun x=>!x.1)&&(backToKw cpos (keywordEach [] X.env)).all (fun x=>x.1.isSome)
  && decide (([e,f]:List Expr).length+([]:List Keyword).length+(if ([]:List Keyword).isEmpty then 0 else 1)<30))=true
 line:(apos.endLine==cpos.line)=true
 trees:backTo cpos (starEach [e,f] X.env)=[(false,eval e X.env),(false,eval f X.env)]
def Hv (H:Hp)(a:Addr):Prop:=(∃ kvs,Rd H a (.dK kvs))\/∃ kvs,Rd H a (.dT kvs)
theorem pC (I:Inv X af σ H s)(d:Hv H a) :
 s.TypeIs (.ref a) "dict"/\(∀ b,Value.ref a=.ref b->∃ ob,s.heap.get? b=some ob/\ob.dict=none)/\(a==sysModules)=false:=by
 rcases d with⟨kvs,e⟩|⟨kvs,e⟩
 .obtain⟨_,hd,vs,_,dd⟩:=js I.aX e;refine⟨dd.typeIs,fun b q=>?_,hd⟩;cases q;obtain⟨ob,_,_,h1,h2,_⟩:=dd;exact⟨ob,h1,h2.2.1⟩
 .obtain⟨_,hd,xs,_,dd⟩:=kE I.aX e;refine⟨dd.typeIs,fun b q=>?_,hd⟩;cases q;obtain⟨ob,_,_,h1,h2,_⟩:=dd;exact⟨ob,h1,h2.2.1⟩
section
theorem EL (hu:A.units+1<cLine)(I:Inv X af σ H s)(g:DGet H a y o)(ry:RelV y u)(h:∀ w' s',Inv X af σ H s'->RelV (o.getD .bC) w'->Q w' s') :
 wpAny (model X.prog X.w) A (call (.builtin "dict.get") [.ref a,u]) Q E s:=by
 rcases g with⟨kvs,k,e,ey,l⟩|⟨kvs,k,b,e,ey,eb,l⟩
 .subst ey;obtain⟨z,hd,vs,rel,dd⟩:=js I.aX e;refine Rk Qj dd.typeIs QU (PySem.F.args_dict_get_2 _ _) (meets_dict_get (aS X.prog X.w) a (i5 ry) hd) ⟨_,dd.mapOf,h _ _ (I.tok _) ?_⟩;rw[l];exact(rel.val k).getD rfl
 .subst ey;cases (show u=Value.ref b from ry);obtain⟨z,hd,xs,rel,dd⟩:=kE I.aX e;refine Rk Qj dd.typeIs QU (PySem.F.args_dict_get_2 _ _) (meetsH_dict_get (tupleKind (aS X.prog X.w)) a b hd) ⟨Qz hu,k,xs,dS I.aX eb,dd,h _ _ (I.tok _) ?_⟩;rw[l];exact(rel.val k).getD rfl
theorem EM (hu:A.units+1<cLine)(I:Inv X af σ H s)(g:DGet H a y o)(ry:RelV y u)(rd:RelV d r)(h:∀ w' s',Inv X af σ H s'->RelV (o.getD d) w'->Q w' s') :
 wpAny (model X.prog X.w) A (call (.builtin "dict.get") [.ref a,u,r]) Q E s:=by
 rcases g with⟨kvs,k,e,ey,l⟩|⟨kvs,k,b,e,ey,eb,l⟩
 .subst ey;obtain⟨z,hd,vs,rel,dd⟩:=js I.aX e;refine Rk Qj dd.typeIs QU (PySem.F.args_dict_get_3 _ _ _) (meets_dict_get_default (aS X.prog X.w) a (i5 ry) hd r) ⟨_,dd.mapOf,h _ _ (I.tok _) ?_⟩;rw[l];exact(rel.val k).getD rd
 .subst ey;cases (show u=Value.ref b from ry);obtain⟨z,hd,xs,rel,dd⟩:=kE I.aX e;refine Rk Qj dd.typeIs QU (PySem.F.args_dict_get_3 _ _ _) (meetsH_dict_get_default (tupleKind (aS X.prog X.w)) a b hd r) ⟨Qz hu,k,xs,dS I.aX eb,dd,h _ _ (I.tok _) ?_⟩;rw[l];exact(rel.val k).getD rd
end
noncomputable def pD (td ty:TE):TE:=fun σ H Q=>td σ H fun x H1=>∃ a,x=.ref a/\Hv H1 a/\ty σ H1 fun y H2=>∃ o,DGet H2 a y o/\Q (o.getD .bC) H2
noncomputable def gz (td ty tx:TE):TE:=fun σ H Q=>td σ H fun x H1=>∃ a,x=.ref a/\Hv H1 a/\ty σ H1 fun y H2=>tx σ H2 fun z H3=>∃ o,DGet H3 a y o/\Q (o.getD z) H3
def lR (td ty:TE):TE:=fun σ H Q=>td σ H fun x H1=>∃ a,x=.ref a/\Hv H1 a/\ty σ H1 fun y H2=>∃ kvs k v,H2 a=some (.dK kvs)/\y=kV k/\cz kvs k=some v/\Q v (upd H2 a (.dK (iZ kvs k)))
section
theorem qX (hu:X.A.units+1<cLine) (ho:PE X o td) (he:PE X e ty) (m:M1 X o "get" apos e cpos):PE X (.Call (.Attribute o "get" apos) [e] [] cpos) (pD td ty):=by intro af s σ H Q I h;refine wpAny_Call_method m.base m.kN m.line O8 Qj PySem.F.type_dict_get (b7 (ho af s σ H _ I h) fun u s1 ⟨x,H1,I1,rx,a,ex,d,q1⟩=>?_);subst ex;obtain rfl:u=Value.ref a:=rx;obtain⟨t1,t2,_⟩:=pC I1 d;refine⟨t1,t2,?_⟩;rw[m.trees];refine Qc rfl (QE (Qy (b7 (he af s1 σ H1 _ I1 q1) fun iv s2 ⟨y,H2,I2,ry,ov,g,q2⟩=>QZ ?_)));exact EL hu I2 g ry fun w' s3 I3 rw'=>⟨_,H2,I3,rw',q2⟩
theorem jv (hu:X.A.units+1<cLine) (ho:PE X o td) (he:PE X e ty) (hf:PE X f tx) (m:M2 X o "get" apos e f cpos):PE X (.Call (.Attribute o "get" apos) [e,f] [] cpos) (gz td ty tx):=by intro af s σ H Q I h;refine wpAny_Call_method m.base m.kN m.line O8 Qj PySem.F.type_dict_get (b7 (ho af s σ H _ I h) fun u s1 ⟨x,H1,I1,rx,a,ex,d,q1⟩=>?_);subst ex;obtain rfl:u=Value.ref a:=rx;obtain⟨t1,t2,_⟩:=pC I1 d;refine⟨t1,t2,?_⟩;rw[m.trees];refine Qc rfl (QE (Qy (b7 (he af s1 σ H1 _ I1 q1) fun iv s2 ⟨y,H2,I2,ry,q2⟩=>Qy (b7 (hf af s2 σ H2 _ I2 q2) fun fv s3 ⟨z,H3,I3,rz,ov,g,q3⟩=>QZ ?_))));exact EM hu I3 g ry rz fun w' s4 I4 rw'=>⟨_,H3,I4,rw',q3⟩
theorem qY (ho:PE X o td) (he:PE X e ty) (m:M1 X o "pop" apos e cpos):PE X (.Call (.Attribute o "pop" apos) [e] [] cpos) (lR td ty):=by intro af s σ H Q I h;refine wpAny_Call_method m.base m.kN m.line O8 PySem.F.slot_dict_pop PySem.F.type_dict_pop (b7 (ho af s σ H _ I h) fun u s1 ⟨x,H1,I1,rx,a,ex,d,q1⟩=>?_);subst ex;obtain rfl:u=Value.ref a:=rx;obtain⟨t1,t2,_⟩:=pC I1 d;refine⟨t1,t2,?_⟩;rw[m.trees];refine Qc rfl (QE (Qy (b7 (he af s1 σ H1 _ I1 q1) fun iv s2 z=>QZ ?_)));obtain⟨y,H2,I2,ry,kvs,k,v,ea,rfl,l,q2⟩:=z;exact Hr I2 ea ry l (.inl rfl) fun w' s3 I3 rw'=>⟨v,_,I3,rw',q2⟩
end
end L2
namespace Att
open PySem PySem.W PySem.Calls PyProof.Rows
theorem kR:∀(ns:List Int)(vs:List SI),WellAll P h vs (ns.map WData.int)->IntsAre vs ns:=by
 intro ns;induction ns with
 |nil=>intro vs w;rw[QJ]at w;cases w;exact .nil
 |cons n ns ih=>
  intro vs w;rw[OE]at w;cases w with
  |cons a b=>cases a;exact .cons _ _ (ih _ b)
theorem v8 {l:OpenLaw}{n:Nat}(hn:l.most=some n){P:Params}
 (hpre:l.row.toRowW.claim.pre args=true) (hwl:WellAll P h vals args) :
 ∃ a vs ns,vals=[Value.ref a]/\args=[WData.list (ns.map WData.int)]/\h.get? a=some { cls:=.type "list",data:=.seq vs.toArray }/\IntsAre vs ns/\ns.length<=n:=by
 have hsh:WShape.hasAll [] args [.list .int]=true:=(pre_splitW hpre).1;have hc:l.pre.holds [] { args:=args }=true:=(pre_splitW hpre).2;obtain⟨d,r,rfl,h1,h2⟩:=hasAllW_cons hsh;obtain rfl:=hasAllW_nil h2;obtain⟨xs,rfl,h3⟩:=hasW_list h1;obtain⟨ns,rfl⟩:=items_int h3;have bW:ns.length<=n:=by
  unfold OpenLaw.pre at hc;have h4:(WTm.not (.lt (.lit (.int (n:Int))) (.len (.arg 0)))).holds [] { args:=[.list (ns.map .int)] }=true:=by have h4:=(holds_andW hc).1;rw[hn]at h4;exact h4
  have h5:=condW_of h4 (w_not (w_lt w_lit (w_len_list (w_arg rfl))))
  grind
 cases hwl with
 |cons w1 w2=>
  cases w2;cases w1 with
  |list ho iS=>exact⟨_,_,ns,rfl,rfl,ho,kR ns _ iS,bW⟩
theorem v9 (l:OpenLaw)(args:List WData):l.row.toRowW.claim.post args (.bool true) args=true:=
 postW_of (r:=l.row.toRowW) (X:=(true==true))
  (show WShape.has [] (.bool true) .bool=true by first|rfl|decide|simp[WShape.has,WShape.arms,WShape.armsAll])
  (show(WTm.eq .res (.lit (.bool true))).value [] { args:=args,res:=some (.bool true),after:=args }=some (.bool (true==true)) from w_eq_bool (w_res rfl) w_lit) rfl
theorem attach_call {l:OpenLaw}{n:Nat}{XP:(Str->Option SI)->Heap->Prop}{YP:World->Heap->Prop}
 (hn:l.most=some n) (hdf:d.params.defaults=[])
 (call:∀(w:World)(s₀ s₁:SF)(mg mb:Str->Option SI)(fa:Addr)(o:Obj)(pm cd doc:SI)(a:Addr)(vs:List SI)(ns:List Int),
   Ground q loose [] XP w s₀ mg mb s₁.heap->YP w s₁.heap->
   s₁.heap.get? fa=some o->o.data=.func (docDef d.name d.params d.body d.scope pm cd doc)->s₁.heap.CodeRec cd d.name->mg d.name=some (.ref fa)->
   s₁.heap.get? a=some { cls:=.type "list",data:=.seq vs.toArray }->IntsAre vs ns->ns.length<=n->s₁.gens=#[]->
   codeAny (model l.prog w) callerA (.call (.ref fa) ⟨[.ref a],[]⟩) (fun r s'=>r=.ok (.ret (.bool true))/\OldK s₁.heap s'.heap/\s'.os=s₁.os/\AllBare s'.gens) s₁) :
 WalkO q loose XP YP l.row.toRowW d [] (fun f vs=>PySem.call f vs):=by
 intro w s₀ s₁ mg mb G Y fa o pm cd doc dV kV ho hd hcd hD hmg hg args vals as hpre hlay hrd hwl hlo;obtain rfl:dV=.none:=Dflts.none hD hdf;obtain rfl:kV=.none:=Dflts.noKw hD;obtain⟨a,vs,ns,rfl,rfl,hobj,hints,bW⟩:=v8 hn hpre hwl;refine enter_call (Rj (call w s₀ s₁ mg mb fa o pm cd doc a vs ns G Y ho (fd_plain hd) hcd hmg hobj hints bW hg) fun r s' hq=>?_);obtain⟨rfl,h2,h3,h4⟩:=hq;exact⟨.inl ⟨.bool true,.bool true,[],rfl,fun _=>rfl,.bool true,v9 l _,fun _=>⟨List.Pairwise.nil,fun _ hm=>(nomatch hm)⟩⟩,h2,h3,h4⟩
end Att
namespace L2
open PySem PySem.Spec PyProof.Rows
noncomputable def d7 (s:Stmt)(j:Nat):Stmt:=match s with
 | .ClassDef _ _ _ body _ _ _ _ _ _ _=>body.getD j (.Pass ⟨0,0,0,0⟩)
 |_=>.Pass ⟨0,0,0,0⟩
noncomputable def b9 (s:Stmt):Arguments:=match s with
 | .FunctionDef _ a _ _ _ _ _ _ _ _=>a
 |_=>{ posonlyargs:=[],args:=[],vararg:=none,kwonlyargs:=[],kw_defaults:=[],kwarg:=none,defaults:=[] }
noncomputable def bR (s:Stmt):List Stmt:=match s with
 | .FunctionDef _ _ b _ _ _ _ _ _ _=>b
 |_=>[]
noncomputable def aC (s:Stmt):Scope:=match s with
 | .FunctionDef _ _ _ _ _ _ sc _ _ _=>sc
 |_=>{ kind:=.function,names:=[],isGenerator:=false,isCoroutine:=false }
noncomputable abbrev gU:yk:=fun _ _ _ _ _ _=>False
noncomputable abbrev E0:XK:=fun _ _ _=>False
theorem bp:fP gU X E0:=fun _ _ _ _ _ _ _ h=>h.elim
structure Bq (K:SG) (x qual:Str) (st:Stmt) (f:Addr) (fd:FuncData):Prop where
 ex:∃(oc:SI)(od:Option Addr)(kV doc pm:SI)(an:Option Addr)(cdv ct:SI)(osl:Array (Option SI)),
  fd=PySem.W.fnOf x qual (b9 st) (bR st) (aC st) .none kV doc pm an cdv ct/\K.lookup f=some ⟨oc,od,.func fd,osl⟩/\PySem.W.codeIn K cdv qual=true
 kp:PySem.W.keepIn K (.ref f)=true
section
variable {P:SH}{w:World}{K:SG}{mg:Str->Option SI}{base:Heap}
theorem Bq.ok {x qual:Str}{st:Stmt}{f:Addr}{fd:FuncData}{N ps:List Str}{k:Nat}{sp:Sp}(F:Bq K x qual st f fd)(S:aT N ps (aC st))(len:∀ vs H Q E,sp vs H Q E->vs.length=ps.length)
 (hbody:∀(cdv:SI)(A:SJ)(outer:List Env)(s:SF)(H:Hp)(vs:List V)(Q:VK)(E:XK),cT k (A.deeper (envOfC qual (aC st) s.heap.objs.size f cdv))->sp vs H Q E->
   ∃ t,PSs (sX gU P w K mg base N qual (aC st) f cdv A outer s H E).JO (bR st) t/\t (eQ Q) (bj N vs) H):bF P w K mg base gU (k+1) f fd ps sp:=by
 obtain⟨oc,od,kV,doc,pm,an,cdv,ct,osl,rfl,lk,hcd⟩:=F.ex;refine ym lk hcd S len fun A outer s H vs Q E hr hsp=>?_;obtain⟨t,h,q⟩:=hbody cdv A outer s H vs Q E hr hsp;exact⟨t,h.JO,q⟩
theorem Bq.binds {x qual:Str}{st:Stmt}(F:Bq K x qual st f fd)
 (h:∀(kV doc pm:SI)(an:Option Addr)(cdv ct:SI)(us:List SI),us.length=ps.length->bindArgs (PySem.W.fnOf x qual (b9 st) (bR st) (aC st) .none kV doc pm an cdv ct) ⟨us,[]⟩=pure (ps.zip us)):Binds K fd ps []:=by
 obtain⟨oc,od,kV,doc,pm,an,cdv,ct,osl,rfl,lk,hcd⟩:=F.ex;exact .all (h kV doc pm an cdv ct)
theorem yw {x qual:Str}{st:Stmt}{f:Addr}{oc:SI}{od an:Option Addr}{osl:Array (Option SI)}{kV doc pm cdv ct:SI}(l:K.lookup f=some ⟨oc,od,.func (PySem.W.fnOf x qual (b9 st) (bR st) (aC st) .none kV doc pm an cdv ct),osl⟩)
 (c:PySem.W.codeIn K cdv qual=true) (k:PySem.W.keepIn K (.ref f)=true):Bq K x qual st f (PySem.W.fnOf x qual (b9 st) (bR st) (aC st) .none kV doc pm an cdv ct):=⟨⟨oc,od,kV,doc,pm,an,cdv,ct,osl,rfl,l,c⟩,k⟩
end
theorem gc (hr:cT k A):A.units+1<cLine:=Pp (R0 (by decide:1<=64) _) hr.units
section
theorem pv (i:Nat){x:Str}{pos:Pos}(hN:autoParam (X.N[i]?=some x) SQ._auto_1)(hv:autoParam (Kh X.env.scope x) SM._auto_1)(hd:autoParam (dB x) SK._auto_1)
 (hcd:autoParam ((x==("__classdict__" : Str))=false) SK._auto_1):PE X (.Name x pos) (au i):=xY hN hv hd hcd
end
theorem cM {A B:Prop}(h:B):if false=true then A else B:=by rw[OL ON];exact h
theorem d8 {A B:Prop}(h:A):if true=true then A else B:=by rw[OK rfl];exact h
theorem EN {c A B:Prop}[Decidable c](h1:c->A)(h2:¬ c->B):if c then A else B:=by
 by_cases h:c
 .rw[OK h];exact h1 h
 .rw[OL h];exact h2 h
def Same (H H':Hp):Prop:=∀ b o,H b=some o->H' b=some o
theorem Same.trans (a:Same H H1)(b:Same H1 H2):Same H H2:=fun c o h=>b c o (a c o h)
theorem Same.free (e:Same H H')(h:H' l=Option.none):H l=Option.none:=by
 cases q:H l with
 |none=>rfl
 |some o=>rw[e l o q]at h;cases h
def uP (P:SH)(w:World):yk:=fun outer H s E e s'=>
 ∃(x C t:Addr)(B:Heap)(H':Hp),e=.ref x/\s'.os=s.os/\AllBare s'.gens/\Un (gZ outer) [] H H' s.heap s'.heap/\HOk P w H' s'.heap/\
  Heap.FlyingW B outer x (.ref C) (.ref t) s'.heap/\(∀ b u,H' b=some u->∃ o,B.get? b=some o)/\(∀ b o,s.heap.get? b=some o->Qt H b->b∉gZ outer->B.get? b=some o)/\
  (∀ b o,s.heap.get? b=some o->b∉gZ outer->∃ o',B.get? b=some o')/\H' x=none/\E (.ref C) none H'
theorem j8 {H:Hp}{B h1 h2:Heap}(ok:HOk P w H h1)(qI:∀ b u,H b=some u->∃ o,B.get? b=some o)(s1:B.StaysIn h1)(s2:B.StaysIn h2):HOk P w H h2:=fun a o e=>(ok a o e).stay (fun b u hb q=>by have hb':∃ v,H b=some v:=hb.elim (fun z=>⟨o,by rw[z];exact e⟩) fun z=>⟨_,z⟩;obtain⟨v,hv⟩:=hb';obtain⟨o',ho⟩:=qI b v hv;have:=s1 b o' ho;rw[q]at this;cases this;exact s2 b _ ho) (fun _ q=>q) fun _ _ q=>q
theorem lS:∀{o:HO},ObjOk P w H h a o->∃ ob,h.get? a=some ob
 | .lst xs,x=>by obtain⟨_,_,_,_,e⟩:=x;exact⟨_,e⟩
 | .tup xs,x=>by obtain⟨_,_,_,⟨_,e,_⟩⟩:=x;exact⟨_,e⟩
 | .dK kvs,x=>by obtain⟨_,_,_,_,o,_,_,e,_⟩:=x;exact⟨_,e⟩
 | .dT kvs,x=>by obtain⟨_,_,_,_,o,_,_,e,_⟩:=x;exact⟨_,e⟩
 | .set S n,x=>by obtain⟨o,_,_,_,e,_⟩:=x;exact⟨_,e⟩
 | .ins C dx fs,x=>by obtain⟨_,_,_,e,_⟩:=x;exact⟨_,e⟩
 | .own y,x=>x
 | .xd fs,x=>by obtain⟨_,⟨_,_,_,e,_⟩,_⟩:=x;exact⟨_,e⟩
 | .Kb lo hi,x=>by obtain⟨_,_,_,e⟩:=x;exact⟨_,e⟩
 | .cm ob u,x=>by obtain⟨e,_⟩:=x;exact⟨_,e⟩
 | .qF ps,x=>⟨_,(show h.get? a=some _ from x)⟩
 | .met f y,x=>⟨_,(show h.get? a=some _ from x)⟩
 | .ext φ,x=>x.2.1
section
variable {P:SH}{w:World}{K:SG}{mg:Str->Option SI}{base:Heap}{N:List Str}{qual:Str}{scope:Scope}{f:Addr}{cd:SI}{A:SJ}{outer:List Env}{s₀:SF}{H₀:Hp}{E:XK}
abbrev qZ (P:SH)(w:World)(K:SG)(mg:Str->Option SI)(base:Heap)(N:List Str)(qual:Str)(scope:Scope)(f:Addr)(cd:SI)(A:SJ)(outer:List Env)(s:SF)(H:Hp)(E:XK):Cx:=sX (uP P w) P w K mg base N qual scope f cd A outer s H E
theorem q_ (I:Inv (qZ P w K mg base N qual scope f cd A outer s₀ H₀ E) af σ H s)(e:s₀.heap.get? b=some o)(hb:b∉gZ outer) :
 b∉gZ (qZ P w K mg base N qual scope f cd A outer s₀ H₀ E).stack:=fun z=>by
 rcases OC.mp (I.nC b z) with q|q
 .exact absurd (OV (Oy e) (OR I.ok.above (Sa q.symm))) (Qe _)
 .exact hb q
theorem tq (hb:b∈gZ outer):b∈gZ (qZ P w K mg base N qual scope f cd A outer s₀ H₀ E).stack:=by show b∈gZ (envOfC qual scope s₀.heap.objs.size f cd::outer);unfold gZ;rw[QK];have:(envOfC qual scope s₀.heap.objs.size f cd).frame=some s₀.heap.objs.size:=rfl;rw[this];exact Ow _ hb
theorem B6:fP (uP P w) (qZ P w K mg base N qual scope f cd A outer s₀ H₀ E) E:=by
 intro af σ H s e s' I h;obtain⟨x,C,t,B,H',rfl,os,bare,un,aX,fly,qI,unt,inB,hx,hE⟩:=h;show wpAny _ _ (leaving _ _) _ _ s';have nx:∀ b:Addr,b∉(qZ P w K mg base N qual scope f cd A outer s₀ H₀ E).ex:=fun b z=>absurd (show b∈([]:List Addr) from z) (by simp);refine wpAny_leaves_onW I.ok.frames rfl fly fun h' fly' up=>?_;have nf:∀ b,b∈gZ outer->∀ o,s'.heap.get? b=some o->∀ vs,o.data≠.fields vs:=fun b hb o e=>by obtain⟨_,o',e',d⟩:=fly.2.2.1.mem (tq (P:=P) (w:=w) (K:=K) (mg:=mg) (base:=base) (N:=N) (H₀:=H₀) (E:=E) (A:=A) hb);rw[e]at e';cases e';exact d
 refine⟨x,C,t,B,H',rfl,os.trans I.os,bare,⟨fun b o e n hb _=>?_,fun b o e n hb _=>?_,fun b o e n _=>?_,fun b o e _=>?_,fun b xs q=>un.gY b xs (I.base.gY b xs q),fun b o u q=>un.iB b o u (I.base.iB b o u q),fun b ps q=>?_⟩,j8 aX qI fly.1 fly'.1,fly',qI,fun b o e n hb=>?_,fun b o e hb=>?_,hx,hE⟩
 .exact fly'.1 b o (unt b o (I.base.keep b o e n hb (nx b)) (n.imp (fun n=>I.base.free b o e n (nx b)) fun⟨xs,q⟩=>⟨xs,I.base.gY b xs q⟩) (q_ I e hb))
 .obtain⟨sl,e1⟩:=I.base.slot b o e n hb (nx b);obtain⟨sl',e2⟩:=un.slot b _ e1 (I.base.free b o e n (nx b)) (tq hb) (by simp);obtain⟨sl'',e3⟩:=up b _ e2 (nf b hb _ e2);exact⟨sl'',e3⟩
 .obtain⟨o1,e1⟩:=I.base.there b o e (nx b);exact un.free b o1 e1 (I.base.free b o e n (nx b)) (by simp)
 .obtain⟨o1,e1⟩:=I.base.there b o e (nx b);by_cases hb:b∈gZ outer
  .obtain⟨o2,e2⟩:=un.there b o1 e1 (by simp);obtain⟨sl,e3⟩:=up b _ e2 (nf b hb _ e2);exact⟨_,e3⟩
  .obtain⟨o',q⟩:=inB b o1 e1 (q_ I e hb);exact⟨o',fly'.1 b o' q⟩
 .obtain⟨m1,e1⟩:=I.base.kA b ps q;obtain⟨m2,e2⟩:=un.kA b _ e1;exact⟨m1++m2,by rw[e2,Array.append_assoc]⟩
 .exact unt b o (I.base.keep b o e n hb (nx b)) (n.imp (fun n=>I.base.free b o e n (nx b)) fun⟨xs,q⟩=>⟨xs,I.base.gY b xs q⟩) (q_ I e hb)
 .obtain⟨o1,e1⟩:=I.base.there b o e (nx b);exact inB b o1 e1 (q_ I e hb)
theorem uQ {s:SF}{h':Heap}{x C:Addr}{args:List SI}(I:Inv (qZ P w K mg base N qual scope f cd A outer s₀ H₀ E) af σ H s)(hx:Heap.MadeExcOf s.heap h' x (.ref C) args)(hE:E (.ref C) none H) :
 (qZ P w K mg base N qual scope f cd A outer s₀ H₀ E).xe (.ref x) { s with heap:=h' }:=by
 show wpAny _ _ (leaving _ _) _ _ _;have nx:∀ b:Addr,b∉(qZ P w K mg base N qual scope f cd A outer s₀ H₀ E).ex:=fun b z=>absurd (show b∈([]:List Addr) from z) (by simp);have hin:∀ env∈(qZ P w K mg base N qual scope f cd A outer s₀ H₀ E).stack,∀ b,env.frame=some b->b∈gZ (qZ P w K mg base N qual scope f cd A outer s₀ H₀ E).stack:=fun env he b hb=>P3.mpr ⟨env,he,hb⟩;have FF:=I.stack;refine wpAny_leaves_madeW (base:=PySem.W.hideAll s.heap (gZ (qZ P w K mg base N qual scope f cd A outer s₀ H₀ E).stack)) I.ok.frames rfl (fun b o q=>R9 _ q) (PySem.W.funFrames_hide FF hin) hx fun h'' t fly _ _ up=>?_;have inB:∀ b o,s.heap.get? b=some o->b∉gZ (qZ P w K mg base N qual scope f cd A outer s₀ H₀ E).stack->(PySem.W.hideAll s.heap (gZ (qZ P w K mg base N qual scope f cd A outer s₀ H₀ E).stack)).get? b=some o:=fun b o e hb=>PySem.W.hideAll_get _ e hb;have qI:∀ b u,H b=some u->∃ o,(PySem.W.hideAll s.heap (gZ (qZ P w K mg base N qual scope f cd A outer s₀ H₀ E).stack)).get? b=some o:=fun b u e=>by obtain⟨o,ho⟩:=lS (I.aX b u e);exact⟨o,inB b o ho fun z=>by rw[I.qw b z]at e;cases e⟩
 have st:(PySem.W.hideAll s.heap (gZ (qZ P w K mg base N qual scope f cd A outer s₀ H₀ E).stack)).StaysIn s.heap:=fun b o q=>R9 _ q;have nf:∀ b,b∈gZ outer->∀ o,s.heap.get? b=some o->∀ vs,o.data≠.fields vs:=fun b hb o e=>by obtain⟨_,o',e',d⟩:=FF.mem (tq (P:=P) (w:=w) (K:=K) (mg:=mg) (base:=base) (N:=N) (H₀:=H₀) (E:=E) (A:=A) hb);rw[e]at e';cases e';exact d
 have hxn:H x=none:=by
  cases q:H x with
  |none=>rfl
  |some u=>obtain⟨o,ho⟩:=lS (I.aX x u q);rw[hx.new]at ho;cases ho
 refine⟨x,C,t,_,H,rfl,I.os,I.bare,⟨fun b o e n hb _=>?_,fun b o e n hb _=>?_,fun b o e n _=>I.base.free b o e n (nx b),fun b o e _=>?_,I.base.gY,I.base.iB,I.base.kA⟩,j8 I.aX qI st fly.1,fly,qI,fun b o e n hb=>?_,fun b o e hb=>?_,hxn,hE⟩
 .exact fly.1 b o (inB b o (I.base.keep b o e n hb (nx b)) (q_ I e hb))
 .obtain⟨sl,e1⟩:=I.base.slot b o e n hb (nx b);obtain⟨sl',e2⟩:=up b _ (hx.keeps b _ e1) (nf b hb _ e1);exact⟨sl',e2⟩
 .obtain⟨o1,e1⟩:=I.base.there b o e (nx b);by_cases hb:b∈gZ outer
  .obtain⟨sl,e2⟩:=up b _ (hx.keeps b _ e1) (nf b hb _ e1);exact⟨_,e2⟩
  .exact⟨o1,fly.1 b o1 (inB b o1 e1 (q_ I e hb))⟩
 .exact inB b o (I.base.keep b o e n hb (nx b)) (q_ I e hb)
 .obtain⟨o1,e1⟩:=I.base.there b o e (nx b);exact⟨o1,inB b o1 e1 (q_ I e hb)⟩
end
abbrev iO:List SI:=[.type "ValueError",.type "Exception",.type "BaseException",.type "object"]
def yx (h:Heap) (C:Addr) (bm:List SI):Prop:=∃ N nm q bs hdct sn sub ab col dd k0 k1 k2 k3 k5 mN,h.get? C=some (excClassObj nm q C N bs bm hdct sn sub ab col dd k0 k1 k2 k3 k5 "ValueError.__new__")/\h.Ns N mN/\mN "__init__"=none/\OwnTail h iO bm
noncomputable def fQ (K:SG)(C:Addr):List SI:=match K.lookup C with
 |some ⟨_,_,.cls cd,_⟩=>cd.mro
 |_=>[]
theorem jw {K:SG} (X:K.In h) (q:PySem.W.excIn K C iO "ValueError.__new__"=true):∃ bm,fQ K C=.ref C::bm/\yx h C bm:=by
 have q0:=q;unfold PySem.W.excIn at q;unfold fQ;cases ho:K.lookup C with
 |none=>rw[ho]at q;cases q
 |some ob=>
  rw[ho]at q;split at q
  .rename_i dd cd sl he;injection he with he;subst he;dsimp only;split at q
   .rename_i D bm k0 k1 k2 k3 n k5 hm hs;rw[hm];simp only[PU,Rh,Bool.not_eq_true']at q;obtain⟨⟨⟨⟨⟨hD,hn⟩,hdel⟩,ht⟩,aX⟩,hni⟩:=q;refine⟨bm,by rw[hD],?_⟩;obtain⟨nm,bs,mro,ns,qn,hd,sn,sub,ab,col,del⟩:=cd;dsimp only at hm hdel aX hni;have es:sl=#[k0,k1,k2,k3,some (.builtin n),k5]:=by
     cases sl with
     |mk l=>simp only at hs;rw[hs]
    rw[hn]at es;subst es;have hC:=X _ _ ho;rw[hdel,hm,hD]at hC;exact⟨ns,nm,qn,bs,hd,sn,sub,ab,col,dd,k0,k1,k2,k3,k5,_,hC,.of_isNs (PySem.W.isNs_of_in X aX),PySem.W.nsMap_none_of_in X aX hni,PySem.W.tail_of_in X ht⟩
   .cases q
  .cases q
structure XC (K:SG) (mg:Str->Option SI) (c:Str) (C:Addr):Prop where
 gl:mg c=some (.ref C)
 ex:PySem.W.excIn K C iO "ValueError.__new__"=true
section
variable {X:Cx}{c:Str}{C:Addr}{np cpos pos:Pos}{e₀:Expr}{rest:List Expr}{t:TA}
noncomputable def tz (t:TA)(EW:Hp->Prop):TS:=fun _ σ H=>t σ H fun vs H'=>vs.length<=sizeLine/\EW H'
theorem rf {EW:Hp->Prop}(hc:XC X.K X.mg c C)(hg:Gl X c)(hcalm:X.calm=true)(ha:PA X (e₀::rest) t)
 (hl:∀(af:List (Addr×Obj))(σ:St)(H:Hp)(s:SF)(h':Heap)(x:Addr)(args:List SI),Inv X af σ H s->Heap.MadeExcOf s.heap h' x (.ref C) args->EW H->X.xe (.ref x) { s with heap:=h' })
 (he:autoParam (starEach (e₀::rest) X.env=(false,eval e₀ X.env)::starEach rest X.env) SQ._auto_1) (hpl:autoParam (bT X cpos rest) SQ._auto_1) (hd:autoParam (dB c) SK._auto_1) :
 PS X (.Raise (some (.Call (.Name c np) (e₀::rest) [] cpos)) none pos) (tz t EW):=by
 intro af s σ H D I h;obtain⟨bm,_,N,nm,q,bs,hdct,sn,sub,ab,col,dd,k0,k1,k2,k3,k5,mN,hC,hN,hni,TL⟩:=jw I.ok.mod.GS hc.ex;have fb:=PySem.F.excBase_ValueError;refine wpAny_Raise_call_subU (C:=C) (nm:=nm) (q:=q) (N:=N) (bs:=bs) (bm:=bm) (hdct:=hdct) (sn:=sn) (sub:=sub) (ab:=ab) (col:=col) (dd:=dd) (k0:=k0) (k1:=k1) (k2:=k2) (k3:=k3) (k5:=k5) (bmB:=iO)
  fb (by decide +kernel) fb (mN:=mN) (TL.hasType fb.hasBase) (I.ok.hd hcalm) ?_ hni (fB I hg hc.gl ⟨rfl,?_⟩ hd)
 .rw[he];show(false || (backTo cpos (starEach rest X.env)).any (·.1))=false;rw[hpl];rfl
 .have ha':=ha cpos af s σ H _ I h;rw[he]at ha' ⊢;refine QE (Ps ha' (fun us s2 ⟨vs,H2,I2,r,q2⟩=>?_) fun _ _ y=>y);exact⟨rfl,by rw[<- r.length];exact q2.1,I2.bk _ _ hC,hN.keeps I2.bk,TL.keeps I2.bk,fun h' e hm=>hl af σ H2 s2 h' e us I2 hm q2.2⟩
end
section
variable {M:Model}{A:SJ}{E:SI->SF->Prop}
theorem i7 (hC:yx s.heap C bm)(hC':yx s.heap C' bm')(he:s.heap.get? e=some oe)(hcls:oe.cls=.ref C)
 (hq:Q ((Value.ref C::bm).contains (.ref C')) s):wpAny M A (excMatches (.ref e) (.ref C')) Q E s:=by
 obtain⟨N,nm,q,bs,hd,sn,sub,ab,col,dd,k0,k1,k2,k3,k5,mN,hC,_,_,_⟩:=hC;obtain⟨N',nm',q',bs',hd',sn',sub',ab',col',dd',k0',k1',k2',k3',k5',mN',hC',_,_,TL'⟩:=hC';obtain⟨h,g,d,t,os⟩:=s;have hcB:(Value.ref C'::bm').contains (.type "BaseException")=true:=by rw[List.contains_cons,TL'.hasType PySem.F.excBase_ValueError.hasBase,Bool.or_true]
 have f:=tc_notTuple;unfold excMatches
 repeat (first|(with_reducible refine wpAny_loadPart_at he ?_;rw[hcls])|with_reducible refine wpAny_loadPart_at hC' ?_|(with_reducible refine wpAny_isSubtype_exc hC' ?_;rw[hcB])|with_reducible refine wpAny_isSubtype_exc hC ?_|wp_step)
 cases hb:(Value.ref C::bm).contains (.ref C')<;>(rw[hb]at hq;wp_walk;exact hq)
end
abbrev TX:=St->Hp->VK->XK->Prop
def Ks (X:Cx)(e:Expr)(t:TX):Prop:=∀(af:List (Addr×Obj))(s:SF)(σ:St)(H:Hp)(Q:VK)(EX:XK),Inv X af σ H s->t σ H Q EX->
 wpAny (model X.prog X.w) X.A (eval e X.env) (EP X af σ Q) (fun ev s'=>∃ H1 s1,Inv X af σ H1 s1/\uP X.prog X.w X.stack H1 s1 EX ev s') s
section
variable {X:Cx}{k:Nat}{f:Addr}{fd:FuncData}{ps:List Str}{sp:Sp}{dvs:List V}{ds:List SI}{x:Str}{p pos:Pos}{e:Expr}{es:List Expr}{t:TA}
theorem rg (F:bF X.prog X.w X.K X.mg X.base (uP X.prog X.w) k f fd ps sp)(hr:cT k X.A)(hg:Gl X x)(hm:X.mg x=some (.ref f))(hk:PySem.W.keepIn X.K (.ref f)=true)(hb:Binds X.K fd ps ds)(hd:Vals dvs ds)(ha:PA X.JO (e::es) t)
 (hdb:autoParam (dB x) SK._auto_1) (he:autoParam (sE X e es) SQ._auto_1) (hpl:autoParam (bT X pos es) SQ._auto_1) :
 Ks X (.Call (.Name x p) (e::es) [] pos) (fun σ H Q EX=>t σ H fun vs H1=>sp (vs++dvs) H1 Q EX):=by
 intro af s σ H Q EX I h;refine Qm (fB I hg hm ?_ hdb);refine Ro (h₀:=X.base) I.ok.mod.GS hk (Ps (ha pos af s σ H _ (I.nE _) h) (fun us s1 ⟨vs,H1,I1,r,q⟩=>⟨I1.iW,?_⟩) fun _ _ z=>False.elim z) he hpl;have J:Inv X af σ H1 s1:=I1.gO;have r2:Vals (vs++dvs) (us++ds):=r.append hd;have hl:(us++ds).length=ps.length:=by rw[<- r2.length];exact F.len _ _ _ _ q
 refine Sj (Rj (F.run X.A X.stack s1 H1 ⟨us,[]⟩ (us++ds) (vs++dvs) Q EX hr J.GQ (hb s1 us J.iW hl) r2 q) fun r s' hq=>?_);cases r with
 |error ev=>exact⟨H1,s1,J,hq⟩
 |ok fl=>
  cases fl with
  |ret u=>exact J.after hq
  |next=>exact False.elim hq
  |brk=>exact False.elim hq
  |cont=>exact False.elim hq
end
noncomputable abbrev Cx.caught (X:Cx)(x:Addr):Cx:={ X with A:=X.A.mark (some (.ref x)),calm:=false,xe:=fun _ _=>False }
section
variable {X:Cx}{af:List (Addr×Obj)}{σ:St}{H:Hp}{s:SF}{x:Addr}
theorem Inv.caught (I:Inv X af σ H s)(x:Addr):Inv (X.caught x) af σ H s:=⟨⟨I.ok.mod,I.ok.kind,I.ok.glob,I.ok.blt,I.ok.above,I.ok.inj,I.ok.has,I.ok.Bu,(fun z=>by cases z),I.ok.frames,I.ok.stk,I.ok.GD,I.ok.bs,I.ok.vK,I.ok.om,I.ok.qr,I.ok.iA,I.ok.xW,I.ok.kt⟩,I.os,I.bare,I.base,I.loc,I.cell,I.free,I.dj,I.pin,I.aX,I.len⟩
theorem Inv.landed {H1:Hp}{s1 s':SF}{B:Heap}{h6:Heap}{C t:Addr}{g6:Array GenState}{l:List Env}(I:Inv X af σ H1 s1)(os:s'.os=s1.os)(bare:AllBare s'.gens)(un:Un (gZ X.stack) [] H1 H s1.heap s'.heap)(aX:HOk X.prog X.w H s'.heap)(fly:Heap.FlyingW B X.stack x (.ref C) (.ref t) s'.heap)
 (qI:∀ b u,H b=some u->∃ o,B.get? b=some o) (unt:∀ b o,s1.heap.get? b=some o->Qt H1 b->b∉gZ X.stack->B.get? b=some o) (inB:∀ b o,s1.heap.get? b=some o->b∉gZ X.stack->∃ o',B.get? b=some o')
 (st:B.StaysIn h6) (up:s'.heap.UpToSlots h6):Inv X af σ H { s' with heap:=h6 }:=by
 have nf:∀ b,b∈gZ X.stack->∀ o,s'.heap.get? b=some o->∀ vs,o.data≠.fields vs:=fun b hb o e=>by obtain⟨_,o',e',d⟩:=fly.2.2.1.mem hb;rw[e]at e';cases e';exact d
 refine I.Ei (ch:=[]) os ⟨fun b o e n hb _=>st b o (unt b o e n hb),fun b o e n hb _=>?_,fun b o e n hx=>un.free b o e n hx,fun b o e hx=>?_,un.gY,un.iB,un.kA⟩ (j8 aX qI fly.1 st) bare fun b z=>absurd z (by simp)
 .obtain⟨sl,e1⟩:=un.slot b o e n hb (by simp);obtain⟨sl',e2⟩:=up b _ e1 (nf b hb _ e1);exact⟨sl',e2⟩
 .by_cases hb:b∈gZ X.stack
  .obtain⟨o1,e1⟩:=un.there b o e (by simp);obtain⟨sl',e2⟩:=up b _ e1 (nf b hb _ e1);exact⟨_,e2⟩
  .obtain⟨o',q⟩:=inB b o e hb;exact⟨o',st b o' q⟩
end
end L2
namespace L2
open PySem PySem.Spec PySem.Calls PyProof.Rows
section
variable {prog:SH}{w:World}
abbrev tK (prog:SH)(w:World):=tupleKind (aS prog w)
theorem kZ (x:(tK prog w).is h k a)(e:∀ b o,h.get? b=some o->h'.get? b=some o):(tK prog w).is h' k a:=by obtain⟨o,items,n,h1,r⟩:=x;exact⟨o,items,n,e _ _ h1,r⟩
end
end L2
namespace L2
open PySem PySem.Spec PySem.Calls PyProof.Rows PySem.W Builtin Builtin.ObjectAttr Builtin.Getset_descriptor
theorem tD {K:Frag} {M:Model} {h:Heap} {x C:Addr} {name:Str} {a g:SI} (X:K.In h) (ha:findIn K (.ref C) name=some (some a)) (hg:specialIn K a "__get__"=some (some g)) (hd:takesIn K a=some true):Looks M h (find (.ref x) (.ref C) name) (.bind g a):=(looks_findIn X ha).andThen ((show Looks M h (getOf (some a)) (some g) from looks_specialIn X hg).andThen ((show Looks M h (dataDescriptor? (some a) (some g)) (some (g,a)) from(looks_takesIn X hd).andThen .now).andThen (Looks.tag .now)))
theorem yz {prog:SH} {w:World} {A:SJ} {s:SF} {K:Frag} {x C:Addr} {R:Result->SF->Prop} {tp:SI} (X:K.In s.heap) (L:∀ M,Looks M s.heap (typeOf (.ref x)) (.ref C)) (hm:mroIn K C (.type "object")=some true)
 (h:R (.ok (.ret (.ref C))) s):codeAny (model prog w) A (.call (.builtin "getset_descriptor.__get__") ⟨[.builtin "object.__class__",.ref x,tp],[]⟩) R s:=by
 obtain⟨hh,g,dr,t,os⟩:=s;have L0:=L (model prog w);have L1:=looks_mroIn (M:=model prog w) X hm;refine RW KF.slot_gs.plain KF.entry_gs (KF.slot_gs.check _ _ _ _ _ _ _ _ KF.type_class (KF.args_gs _ _ _) ?_);unfold Builtin.«getset_descriptor.__get__» descrGet;rw[dga_obj];refine KE (Os ?_);unfold descrGetter descrCheckInstance descrNameAndClass isInstance;simp only[KF.owner_class]
 repeat lk
 refine⟨Code.quiet_builtin _ (by decide +kernel),P8 KF.entry_class ?_⟩;unfold Builtin.«object.__class__» shownTypeOf
 repeat lk
 exact h
section
variable {prog:SH}{w:World}{A:SJ}{E:SI->SF->Prop}{s:SF}{K:Frag}{x C:Addr}
theorem v_ {Q:Option SI->SF->Prop}(X:K.In s.heap)(L0:∀ M,Looks M s.heap (typeOf (.ref x)) (.ref C))
 (hga:findIn K (.ref C) "__getattribute__"=some (some (.builtin "BaseException.__getattribute__"))) (hgt:findIn K (.ref C) "__getattr__"=some none)
 (hf:findIn K (.ref C) "__class__"=some (some (.builtin "object.__class__"))) (hf2:specialIn K (.builtin "object.__class__") "__get__"=some (some (.builtin "getset_descriptor.__get__"))) (hf3:takesIn K (.builtin "object.__class__")=some true)
 (hm:mroIn K C (.type "object")=some true) (hmB:mroIn K C (.type "BaseException")=some true)
 (h:Q (some (.ref C)) { s with toks:=s.toks+1 }):wpAny (model prog w) A (getAttr? (.ref x) "__class__") Q E s:=by
 obtain⟨hh,g,d,t,os⟩:=s;have L00:=L0;have L0:=L0 (model prog w);have L1:=looks_findIn (M:=model prog w) X hga;have L2:=looks_findIn (M:=model prog w) X hgt;have L3:=tD (M:=model prog w) (x:=x) X hf hf2 hf3;unfold getAttr? getAttrBy? getAttrBy;refine KE (wpAny_mkText (KE (Rr (Pl (KE (L0.at (KE (L1.at ?_))))))));show wpAny _ _ (if (onTheHeap (Value.ref C)&&Value.builtin "BaseException.__getattribute__"==Value.builtin "object.__getattribute__")=true then _ else _) _ _ _;have hx2:(onTheHeap (Value.ref C)&&Value.builtin "BaseException.__getattribute__"==Value.builtin "object.__getattribute__")=false:=by
  have:(Value.builtin "BaseException.__getattribute__"==Value.builtin "object.__getattribute__")=false:=by decide +kernel
  rw[this];rfl
 rw[hx2,OL (by decide)];unfold getAttrByItsOwn hookBefore;rw[OK (show onTheHeap (Value.ref C)=true from rfl)];refine KE (L2.at ?_);refine KE (Rr (Pl ?_));show wpAny _ _ (boundAndCalled (Value.builtin "BaseException.__getattribute__") (.ref x) (.str "__class__" t)) _ _ _;unfold boundAndCalled;rw[PySem.F.excAttr_ValueError.ga.bind (.ref x)];refine KE (Os ?_);refine Sj ?_;have LB:Looks (model prog w) hh (isInstance (.ref x) (.type "BaseException")) true:=L0.andThen (looks_mroIn (M:=model prog w) X hmB);refine RW PySem.F.excAttr_ValueError.ga.plain PySem.F.entry_bexc_ga ?_;have hk:builtinKind "BaseException.__getattribute__"=some .slot:=by decide +kernel
 have hsplit:splitId "BaseException.__getattribute__"=some ("BaseException", "__getattribute__"):=by decide +kernel
 have ha:=PySem.F.args_bexc_ga (.ref x) (.str "__class__" t);show wpAny _ _ (checkBuiltinCall "BaseException.__getattribute__" ⟨[.ref x,.str "__class__" t],[]⟩) _ _ _;simp only[checkBuiltinCall,hk,hsplit];refine KE (LB.at ?_);rw[OL (by decide)];unfold argsOk at ha;refine Ss (a:=()) ha ?_;show wpAny _ _ (Builtin.«object.__getattribute__» ⟨[.ref x,.str "__class__" t],[]⟩) _ _ _;unfold Builtin.«object.__getattribute__»;refine KE (Os (KE (Os (KE (L0.at (KE (L3.at ?_)))))));show wpAny _ _ (holding [Value.builtin "object.__class__"] (call (.builtin "getset_descriptor.__get__") [.builtin "object.__class__",.ref x,.ref C]) >>= ret) _ _ _;refine KE (Pl (Sj (yz (s:=⟨hh,g,d,t+1,os⟩) X L00 hm ?_)));refine Os ?_;show wpAny _ _ (handedOut (.ref C)) _ _ _;refine Os ?_;exact Os h
theorem yA (hga:findIn K (.ref C) "__getattribute__"=some (some (.builtin "BaseException.__getattribute__"))) (hgt:findIn K (.ref C) "__getattr__"=some none)
 (hf:findIn K (.ref C) "__class__"=some (some (.builtin "object.__class__"))) (hf2:specialIn K (.builtin "object.__class__") "__get__"=some (some (.builtin "getset_descriptor.__get__"))) (hf3:takesIn K (.builtin "object.__class__")=some true)
 (hm:mroIn K C (.type "object")=some true) (hmB:mroIn K C (.type "BaseException")=some true) (hcl:(clsIn K C).isSome=true) :
 KitX K (.ref x) (.ref C) (fun h=>∃ o,h.get? x=some o/\o.cls=.ref C) where
 ty:=fun _ _ _ ⟨o,h1,h2⟩=>h2▸(Looks.ld h1).andThen .now
 it:=fun _ _ X _=>by
  unfold clsIn at hcl;split at hcl
  .rename_i c' d' cd' sl' ho;intro A' Q' E' s' k q;unfold isType loadHead;exact KE (wpAny_loadPart (k _ _ (X _ _ ho)) (Os q))
  .cases hcl
 ne:=fun h tp dd its n sl X htp=>by
  refine Bool.eq_false_iff.mpr fun q=>?_;have e:C=tp:=Value.ref.inj (Rh.mp q);subst e;unfold clsIn at hcl;split at hcl
  .rename_i c' d' cd' sl' ho;have z:=(X _ _ ho).symm.trans htp;cases z
  .cases hcl
 ca:=fun X I k=>v_ X (let ⟨o,h1,h2⟩:=I;fun _=>h2▸(Looks.ld h1).andThen .now) hga hgt hf hf2 hf3 hm hmB k
end
end L2
namespace L2
open PySem PySem.Spec PySem.Calls PyProof.Rows
section
theorem Inv.LV (I:Inv X af σ H s)(e:H a=some (.dK [])):Inv X af σ (upd H a (.dT [])) s:=by
 obtain⟨z,y,vs,r,o,es,ep,h1,h2,h3,h4,h5⟩:=(show ObjOk X.prog X.w H s.heap a (.dK []) from I.aX a _ e);cases r;exact I.write (x:=a) (e:=a) (t':=s.toks) (h':=s.heap) (by rw[e];exact True.intro) (.inl rfl) (fun b u _ q=>q) ⟨o,h1⟩ ⟨z,y,[],.nil,o,es,ep,h1,h2,h3,(by
  generalize es.toList=l at h5;obtain⟨h5,_⟩:=h5;cases l with
  |nil=>rfl
  |cons x r=>cases h5),O_⟩
end
def DO (H:Hp)(a:Addr)(y:V)(r:Option V):Prop:=DGet H a y r\/(Rd H a (.dT [])/\(∃ k,y=kV k)/\r=none)\/(Rd H a (.dK [])/\(∃(b:Addr)(k:List bG),y=.ref b/\H b=some (.tup (k.map kV)))/\r=none)
section
theorem pE (x:ObjOk P w H h a (.dT [])):(a==sysModules)=false/\h.DictOf (aS P w) a []:=by
 obtain⟨z,y,xs,r,o,es,ep,h1,h2,h3,h4,h5⟩:=x;cases r;have e:es=#[]:=by grind
 subst e;exact⟨y,o,#[],ep,h1,h2,h3,fun x hx=>by simp at hx,by constructor,O_⟩
theorem EO (x:ObjOk P w H h a (.dK [])):(a==sysModules)=false/\h.DictOfH (tupleKind (aS P w)) a []:=by
 obtain⟨z,y,vs,r,o,es,ep,h1,h2,h3,h4,h5⟩:=x;cases r;refine⟨y,o,es,ep,h1,h2,h3,?_,fun x hx=>(nomatch hx),O_⟩;generalize es.toList=l at h5;obtain⟨h5,_⟩:=h5;cases l with
 |nil=>rfl
 |cons x r=>cases h5
theorem Hw (hu:A.units+1<cLine)(I:Inv X af σ H s)(g:DO H a y o)(ry:RelV y u)(h:∀ s',Inv X af σ H s'->Q (.bool o.isSome) s') :
 wpAny (model X.prog X.w) A (compareOp .In u (.ref a)) Q E s:=by
 rcases g with g|⟨e,⟨k,rfl⟩,rfl⟩|⟨e,⟨b,k,rfl,eb⟩,rfl⟩
 .exact Kr hu I g ry h
 .obtain⟨y,dd⟩:=pE (e.ok I.aX);exact wpAny_in_of (i5 ry) y dd.mapOf (h _ (I.tok _))
 .obtain rfl:u=Value.ref b:=ry;obtain⟨y,dd⟩:=EO (e.ok I.aX);exact wpAny_in_heap (Qz hu) (dS I.aX eb) y dd (h _ (I.tok _))
end
noncomputable def nO:HO->Prop
 | .dK _=>True
 | .dT _=>True
 |_=>False
section
theorem Inv.view (I:Inv X af σ H s)(hn:∀ b,H b=none->H' b=none)(ht:∀ b xs,H b=some (.tup xs)->H' b=some (.tup xs))(hf:∀ b o u,X.H₀ b=some (.cm o u)->H' b=some (.cm o u))
 (hb:∀ b ps,H b=some (.qF ps)->H' b=some (.qF ps)) (aX:HOk X.prog X.w H' s.heap):Inv X af σ H' s where
 ok:=I.ok
 os:=I.os
 bare:=I.bare
 base:=⟨I.base.keep,I.base.slot,fun b o e n hx=>hn b (I.base.free b o e n hx),I.base.there,fun b xs e=>ht b xs (I.base.gY b xs e),hf,fun b ps e=>let ⟨m,q⟩:=I.base.kA b ps e;⟨m,hb b _ q⟩⟩
 loc:=I.loc
 cell:=I.cell
 free:=hn _ I.free
 dj:=fun x c e=>hn c (I.dj x c e)
 pin:=fun p hp=>let ⟨a,b,c⟩:=I.pin p hp;⟨a,hn _ b,c⟩
 aX:=aX
 len:=I.len
theorem uR (ok:HOk P w H h)(hd:∃ u,H d=some u/\(∀ y,u≠.own y)/\∀ xs,u≠.tup xs)(new:ObjOk P w (upd H d u') h d u'):HOk P w (upd H d u') h:=fun b v e=>by
 obtain⟨u,hu,h1,h2⟩:=hd;by_cases hb:b=d
 .subst hb;rw[ao]at e;cases e;exact new
 .rw[aA hb]at e;refine(ok b v e).stay (fun _ _ _ q=>q) (fun c q=>?_) fun c xs q=>?_
  .rw[aA]
   .exact q
   .rintro rfl;rw[hu]at q;cases q;exact h1 _ rfl
  .rw[aA]
   .exact q
   .rintro rfl;rw[hu]at q;cases q;exact h2 _ rfl
theorem uS (h:nO u):(∀ y,u≠.own y)/\(∀ xs,u≠.tup xs)/\(∀ ps,u≠.qF ps)/\∀ o v,u≠.cm o v:=by cases u<;>first|exact h.elim|exact⟨fun _ z=>(nomatch z),fun _ z=>(nomatch z),fun _ z=>(nomatch z),fun _ _ z=>(nomatch z)⟩
theorem oG (hu:nO u)(x:ObjOk P w H h d u)(ht:∀ b xs,H b=some (.tup xs)->H' b=some (.tup xs)):ObjOk P w H' h d u:=by
 cases u with
 |dK kvs=>exact x
 |dT kvs=>obtain⟨z,y,xs,r,q⟩:=x;exact⟨z,y,xs,Paired.GC r fun p q z=>⟨z.1,ht _ _ z.2.1,z.2.2⟩,q⟩
 |_=>exact hu.elim
theorem Inv.cm (I:Inv X af σ H s)(e:H d=some u)(hu:nO u)(ho:s.heap.get? d=some o):Inv X af σ (upd H d (.cm o u)) s:=by
 obtain⟨n1,n2,n3,n4⟩:=uS hu;have ht:∀ b xs,H b=some (.tup xs)->upd H d (.cm o u) b=some (.tup xs):=fun b xs q=>by
  rw[aA]
  .exact q
  .rintro rfl;rw[e]at q;cases q;exact n2 _ rfl
 refine I.view (fun b hb=>?_) ht (fun b o' u' q=>?_) (fun b ps q=>?_) (uR I.aX ⟨u,e,n1,n2⟩ ⟨ho,oG hu (I.aX d u e) ht⟩)
 .rw[aA]
  .exact hb
  .rintro rfl;rw[e]at hb;cases hb
 .have q:=I.base.iB b o' u' q;rw[aA]
  .exact q
  .rintro rfl;rw[e]at q;cases q;exact n4 _ _ rfl
 .rw[aA]
  .exact q
  .rintro rfl;rw[e]at q;cases q;exact n3 _ rfl
theorem Inv.Eh (I:Inv X af σ H s)(e:H d=some u)(hu:nO u):∀ o v,X.H₀ d≠some (.cm o v):=fun o v q=>by have:=I.base.iB d o v q;rw[e]at this;cases this;exact(uS hu).2.2.2 _ _ rfl
theorem Inv.JB (I:Inv X af σ H s)(e:H d=some (.cm o u))(hu:nO u)(hn:∀ o v,X.H₀ d≠some (.cm o v)):Inv X af σ (upd H d u) s:=by
 have ht:∀ b xs,H b=some (.tup xs)->upd H d u b=some (.tup xs):=fun b xs q=>by
  rw[aA]
  .exact q
  .rintro rfl;rw[e]at q;cases q
 have x:ObjOk X.prog X.w H s.heap d u:=(show ObjOk X.prog X.w H s.heap d (.cm o u) from I.aX d _ e).2;refine I.view (fun b hb=>?_) ht (fun b o' u' q=>?_) (fun b ps q=>?_) (uR I.aX ⟨_,e,fun _ z=>(nomatch z),fun _ z=>(nomatch z)⟩ (oG hu x ht))
 .rw[aA]
  .exact hb
  .rintro rfl;rw[e]at hb;cases hb
 .have q2:=I.base.iB b o' u' q;rw[aA]
  .exact q2
  .rintro rfl;exact hn _ _ q
 .rw[aA]
  .exact q
  .rintro rfl;rw[e]at q;cases q
end
theorem B7 (h:(aS P w).is k u=true):RelV (kV k) u:=by
 rcases bB (show iX k u=true from h) with⟨i,t,rfl,rfl⟩|⟨x,t,rfl,rfl⟩
 .exact⟨t,rfl⟩
 .exact⟨t,rfl⟩
section
def Kt (X:Cx)(D:Ends):Ends where
 nx:=fun σ H=>D.nx σ H\/∃ d o u,H d=some (.cm o u)/\nO u/\(∀ o v,X.H₀ d≠some (.cm o v))/\D.nx σ (upd H d u)
 rt:=D.rt
 bk:=D.bk
 ct:=D.ct
theorem yB {st:Stmt}(h:PS X st t):PS X st (fun D σ H=>t (Kt X D) σ H):=by
 intro af s σ H D I q;refine b7 (h af s σ H _ I q) fun f s' r=>?_;cases f with
 |next=>
  obtain⟨σ',H',I',r⟩:=r;rcases r with r|⟨d,o,u,e,hu,hn,r⟩
  .exact⟨σ',H',I',r⟩
  .exact⟨σ',_,I'.JB e hu hn,r⟩
 |_=>exact r
end
section
theorem EQ (I:Inv X af σ H s)(e:Rd H a (.dK kvs)\/(Rd H a (.dT [])/\kvs=[])) :
 kvs.length<=sizeLine/\(a==sysModules)=false/\∃ vs,KV kvs vs/\s.heap.DictOf (aS X.prog X.w) a vs:=by
 rcases e with e|⟨e,rfl⟩
 .exact js I.aX e
 .obtain⟨y,dd⟩:=pE (e.ok I.aX);exact⟨OP _,y,[],.nil,dd⟩
end
section
theorem ER {k:bG}{key dflt:SI}{Q:SI->SF->Prop}(gX:(aS prog w).is k key=true)(hm:s.heap.DictOf (aS prog w) d vs)(hn0:valueAt vs k=none)
 (h:∀ h',h'.DictOf (aS prog w) d (stored vs k dflt)->Heap.SameBut d s.heap h'->Q dflt { s with heap:=h',toks:=s.toks+1 }) (hsz:vs.length<=sizeLine):wpAny (model prog w) A (dictSetDefault d key dflt) Q E s:=by
 obtain⟨o,es,ep,ho,hc,hd,hk,hp,hn⟩:=hm;have hes:es.size<=sizeLine:=by
  have e1:=hp.length;have e2:es.toList.length=es.size:=by simp
  lia
 have hnone:vs.findIdx? (fun kv=>decide (kv.1=k))=none:=by
  rw[List.findIdx?_eq_none_iff];intro x hx;refine OZ fun e=>?_;have:(valueAt vs k).isSome=true:=by unfold valueAt;rw[Sk,List.find?_isSome];exact⟨x,hx,OO e⟩
  rw[hn0]at this;cases this
 have hidx:(es.findIdx? fun e=>(aS prog w).is k e.key)=none:=by
  have:(es.findIdx? fun e=>(aS prog w).is k e.key)=vs.findIdx? fun kv=>decide (kv.1=k):=by rw[<- hp.findIdx k];obtain⟨l⟩:=es;simp
  rw[this];exact hnone
 have hnot:k∉vs.map (·.1):=not_mem_of_findIdx_none hnone;have hany:¬ (vs.any fun kv=>decide (kv.1=k))=true:=by rw[List.any_eq_true];rintro⟨kv,hkv,he⟩;exact hnot (OB.mpr ⟨kv,hkv,O2 he⟩)
 unfold dictSetDefault
 try with_reducible refine Pl ?_
 refine KE ((aS prog w).pyHash gX ?_);refine KE (wpAny_dictFind_of (s:={ s with toks:=s.toks+1 }) gX ho hd hk ?_);rw[hidx];refine KE (Sm (KE (wpAny_updateDictKeys (hz:=hes) (s:={ s with toks:=s.toks+1 }) ho hd (Os (h _ ⟨_,_,ep+1,Pq _ ho (Obj.isFreed_of_dict (Q5 hd _)),hc.mapDictKeys _,Q5 hd _,hk.push gX _,?_,?_⟩ (Pc ..))))))
 .rw[stored,OL hany];have:=hp.append gX ((aS prog w).hash k) dflt;obtain⟨l⟩:=es;simpa using this
 .rw[stored,OL hany,O3,Qs];refine⟨hn,by simp,?_⟩;intro a ha b hb;simp only[OE,QJ,OI]at hb;subst hb;exact fun e=>hnot (e▸ha)
end
section
def DP:V->List V->Hp->VK->Prop:=fun x xs H Q=>∃ a k y kvs,x=.ref a/\xs=[kV k,y]/\(H a=some (.dK kvs)\/(H a=some (.dT [])/\kvs=[]))/\kvs.length<sizeLine/\
 ((∃ v,cz kvs k=some v/\Q v H)\/(cz kvs k=none/\Q y (upd H a (.dK (ci kvs k y)))))
theorem B8:EH X "dict.setdefault" DP:=by
 intro af s σ H x xs v us Q I rx rs q;obtain⟨a,k,y,kvs,rfl,rfl,ha,hz,q⟩:=q;obtain rfl:v=Value.ref a:=rx;obtain⟨u1,u2,rfl,ru1,ru2⟩:=lI rs;obtain⟨z1,y1,vs,r1,d1⟩:=EQ I (ha.imp .inl fun⟨e,w⟩=>⟨.inl e,w⟩);have gX:=i5 (P:=X.prog) (w:=X.w) ru1;refine PB Po d1.typeIs RT ?_ (RN _ _ _);unfold Builtin.«dict.setdefault»;refine KE ?_;unfold Builtin.Dict.keyAndDefault;refine KE (RO d1.typeIs (show wpAny _ _ (pure (a,u1,some u2)) _ _ s from Os ?_));show wpAny _ _ (if (a==sysModules)=true then _ else (dictSetDefault a u1 u2 >>= _)) _ _ s;rw[OL (by grind)];have bW:vs.length<=sizeLine:=by rw[<- r1.length];lia
 have dle:s.heap.DictLe a sizeLine:=fun o es ep ho hd=>by
  obtain⟨o',es',ep',ho',_,hd',_,hp,_⟩:=id d1;rw[ho]at ho';cases ho';rw[hd]at hd';cases hd';have e1:=hp.length;have e2:es.toList.length=es.size:=by simp
  lia
 have rv:=r1.val k;rcases q with⟨v,hv,q⟩|⟨hv,q⟩
 .obtain⟨w',hw,rw'⟩:=RelO.some_of (v:=v) (o:=valueAt vs k) (by grind);refine KE (wpAny_dictSetDefault_of (hz:=dle) gX d1.mapOf (fun v' e=>?_) fun e=>?_)
  .rw[hw]at e;cases e;exact Os ⟨_,rfl,v,H,I.tok _,rw',q⟩
  .rw[hw]at e;cases e
 .have hn0:valueAt vs k=none:=by
   have:=rv.eY;rw[hv]at this;cases z:valueAt vs k with
   |none=>rfl
   |some _=>rw[z]at this;cases this
  refine KE (ER gX d1 hn0 (fun h' dd' hs=>Os ⟨_,rfl,?_⟩) bW);have he:∃ q,h'.get? a=some q:=let ⟨q,_,_,hq,_⟩:=dd';⟨q,hq⟩;have mu:GV (H a):=by rcases ha with e|⟨e,_⟩<;>(rw[e];exact True.intro)
  have hl:(ci kvs k y).length<=sizeLine:=by have:=dN kvs k y;lia
  exact⟨y,_,iE (t':=s.toks+1) I mu hs he (pB hl y1 (r1.put k ru2) dd'),ru2,q⟩
end
noncomputable def L8 (K:SG)(a:Addr)(n:Nat):It:=⟨fun i H=>∃ xs,SqL K H a xs/\xs.length=n/\i<n,fun i H x H'=>H'=H/\∀ xs,SqL K H a xs->xs[n-1-i]?=some x,fun i H=>n<=i⟩
theorem yC {K:SG}{tg:Expr}(a it:Addr)(n:Nat):Turn P w K tg (L8 K a n) [it] it (fun i h=>i<=n/\h.IsRevIter it a ((n:Int)-1-i)) where
 mem:=by simp
 obj:=fun i h st b hb=>by
  have e:b=it:=by simpa using hb
  subst e;obtain⟨_,o,e,c,d⟩:=st;exact⟨o,e,fun v z=>by rw[d]at z;cases z⟩
 keep:=fun i h h' st k=>⟨st.1,st.2.at fun o e=>k it (by simp) o e⟩
 item:=by
  intro X hP hw hK hc i af s σ H E I hf st hg;subst hP hw hK;obtain⟨xs,hq,hn,hi⟩:=hg;obtain⟨its,rv,p,hz⟩:=I.list hq;have hx:xs[n-1-i]?=some xs[n-1-i]:=by simp[show n-1-i<xs.length by lia]
  obtain⟨u,hu,ru⟩:=rv.get hx;obtain⟨f0,f1,f2,f3,f4,f5⟩:=hf it (by simp);have ei:(n:Int)-1-i=((n-1-i:Nat):Int):=by lia
  have st2:=st.2;rw[ei]at st2;refine wpAny_pyNext_rev_item st2 p.isList (x:=u) (by simpa using hu) fun h' st' sb=>?_;have I1:Inv X af σ H { s with heap:=h' }:=I.turned (t':=s.toks) (fun b o hb e=>(sb.2 b hb).trans e) f0 f1 f3 f4 f5;obtain⟨o,e,c,d⟩:=id st';have e2:((n-1-i:Nat):Int)-1=(n:Int)-1-((i+1:Nat):Int):=by lia
  exact⟨u,rfl,x_ (s:={ s with heap:=h' }) e c d (by decide) ⟨xs[n-1-i],H,I1,ru,⟨rfl,fun ys hy=>by rw[I.nF hy hq];exact hx⟩,⟨by lia,by rw[<- e2];exact st'⟩,fun b hb=>(hf b hb).1⟩⟩
 done:=by intro X hP hw hK hc i af s σ H E I hf st hg;subst hP hw hK;obtain⟨f0,f1,f2,f3,f4,f5⟩:=hf it (by simp);have hin:i=n:=Nat.le_antisymm st.1 hg;have st2:=st.2;rw[hin,show(n:Int)-1-(n:Nat)=-1 by lia]at st2;exact wpAny_pyNext_rev_end (I.ok.hd hc) st2 fun h' eb=>⟨rfl,I.turned (t':=s.toks) (fun b o hb e=>eb b o hb e) f0 f1 f3 f4 f5⟩
 self:=fun _ _ _ _ _ st h=>wpAny_pyIter_revIter st.2 h
section
variable {X:Cx}{tg:Expr}
def Hx (K:SG)(ta:TA):TI:=fun σ H R=>ta σ H fun vs H1=>∃ a xs,vs=[.ref a]/\SqL K H1 a xs/\R (L8 K a xs.length) H1
theorem ES {ta:TA} {p pos:Pos} (hg:Gl X "reversed") (hm:X.mg "reversed"=none) (ha:PA X [l] ta) (hs:autoParam (starEach [l] X.env=[(false,eval l X.env)]) SQ._auto_1):PI X tg (.Call (.Name "reversed" p) [l] [] pos) (Hx X.K ta):=by
 intro af s σ H R I h;refine Call_ (gw I hg hm boot_reversed (PH (b7 (ha pos af s σ H _ I h) fun us s1 ⟨vs,H1,I1,r1,q1⟩=>?_) hs rfl));obtain⟨a,xs,rfl,hq,q⟩:=q1;obtain⟨u,rfl,ru⟩:=dm r1;obtain rfl:u=Value.ref a:=ru;obtain⟨its,rv,pl,hz⟩:=I1.list hq;refine call_reversed_list pl.isList ?_;have hn:(its.toArray.size:Int)-1=(xs.length:Int)-1-((0:Nat):Int):=by rw[OA,<- rv.length];simp
 have st0:(s1.heap.push (revObj a ((its.toArray.size:Int)-1))).IsRevIter s1.heap.objs.size a ((xs.length:Int)-1-((0:Nat):Int)):=⟨_,Oz _ rfl,rfl,by rw[<- hn];rfl⟩;refine wpAny_pyIter_revIter st0 ?_;refine⟨s1.heap.objs.size,[s1.heap.objs.size],_,_,H1,rfl,I1.kept (t':=s1.toks) fun b o e=>Oo _ e,yC a _ xs.length,⟨OP _,st0⟩,fun b hb=>?_,q⟩;have e:b=s1.heap.objs.size:=by simpa using hb
 subst e;exact I1.qu (Oq _) (I1.aX.fresh (Oq _))
end
end L2
namespace ST
open PySem PySem.SetTable
noncomputable def st (m:Nat)(h:Int):Probe:={ j:=bits h % (m+1),more:=runEnd m (bits h % (m+1))-bits h % (m+1),i:=bits h % (m+1),perturb:=bits h,dummy:=none }
noncomputable def rs (m:Nat)(p:Nat×Nat):Probe:={ j:=p.1,more:=runEnd m p.1-p.1,i:=p.1,perturb:=p.2,dummy:=none }
noncomputable def tE (m:Nat)(p:Probe):Probe:=if p.more>0 then { p with j:=p.j+1,more:=p.more-1 } else { p with j:=(leap m p.i p.perturb).1,more:=runEnd m (leap m p.i p.perturb).1-(leap m p.i p.perturb).1,i:=(leap m p.i p.perturb).1,perturb:=(leap m p.i p.perturb).2 }
theorem tF (t:SetTable)(p:Probe):t.advance p=tE t.mask p:=rfl
def it (m:Nat):Nat->Probe->Probe
 |0,p=>p
 |n+1,p=>it m n (tE m p)
theorem e8 (m:Nat):∀(a b:Nat)(p:Probe),it m (a+b) p=it m b (it m a p):=by intro a b;induction a<;>grind [it,tE]
theorem B9 (m n:Nat)(p:Probe):it m (n+1) p=tE m (it m n p):=e8 m n 1 p
structure Va (m:Nat) (p:Probe):Prop where
 i:p.i<=m
 more:p.more<=9
 j:p.j+p.more<=m
 q:p.perturb<2 ^ 64
 d:p.dummy=none
theorem pF (h:Int):bits h<2 ^ 64:=by
 unfold bits
 grind
theorem jb (m i:Nat)(h:i<=m):runEnd m i-i<=9/\i+(runEnd m i-i)<=m:=by unfold runEnd;split<;>lia
theorem Va.rs (h1:p.1<=m)(h2:p.2<2 ^ 64):Va m (rs m p):=⟨h1,(jb m _ h1).1,(jb m _ h1).2,h2,rfl⟩
theorem Va.st (m:Nat)(h:Int):Va m (st m h):=by have:bits h % (m+1)<=m:=Sn (SD _ (Nat.succ_pos m));exact⟨this,(jb m _ this).1,(jb m _ this).2,pF h,rfl⟩
theorem pG (m i q:Nat):(leap m i q).1<=m:=by exact Sn (SD _ (Nat.succ_pos m))
theorem tG (m i q:Nat):(leap m i q).2=q / 32:=rfl
theorem Va.tE (v:Va m p):Va m (tE m p):=by
 unfold ST.tE;split
 .exact⟨v.i,by dsimp only;have:=v.more;lia,by dsimp only;have:=v.j;lia,v.q,v.d⟩
 .have l:=pG m p.i p.perturb;exact⟨l,(jb m _ l).1,(jb m _ l).2,by dsimp only;rw[tG];have:=v.q;have:=Nat.div_le_self p.perturb 32;lia,v.d⟩
theorem Va.it:∀{n:Nat}{p:Probe},Va m p->Va m (it m n p)
 |0,_,v=>v
 |n+1,_,v=>Va.it (n:=n) v.tE
theorem Va.MX (v:Va m p):p.j<=m:=by have:=v.j;lia
theorem k8:∀(k:Nat)(p:Probe),p.more=k->Va m p->it m (k+1) p=rs m (leap m p.i p.perturb):=by intro k;induction k<;>grind [Va,it,rs,tE]
noncomputable def lp (m:Nat):Nat->Nat×Nat->Nat×Nat
 |0,p=>p
 |n+1,p=>lp m n (leap m p.1 p.2)
theorem ET (m:Nat):∀(a b:Nat)(p:Nat×Nat),lp m (a+b) p=lp m b (lp m a p):=by intro a b;induction a<;>grind [lp]
theorem Hy (m:Nat):∀(n:Nat)(p:Nat×Nat),(lp m n p).2=p.2 / 32 ^ n
 |0,p=>by simp[lp]
 |n+1,p=>by show(lp m n (leap m p.1 p.2)).2=_;rw[Hy m n,tG,Nat.div_div_eq_div_mul,Nat.pow_succ,Nat.mul_comm]
theorem DQ (m:Nat):∀(n:Nat)(p:Nat×Nat),p.1<=m->(lp m n p).1<=m
 |0,p,h=>h
 |n+1,p,_=>DQ m n _ (pG m _ _)
theorem rh:∀(L:Nat)(p:Probe),Va m p->∃ n,n<=10*(L+1)/\it m n p=rs m (lp m (L+1) (p.i,p.perturb))
 |0,p,v=>⟨p.more+1,by have:=v.more;lia,k8 _ p rfl v⟩
 |L+1,p,v=>by
  have h1:=k8 _ p rfl v;have v1:Va m (rs m (leap m p.i p.perturb)):=by rw[<- h1];exact v.it
  obtain⟨n,hn,e⟩:=rh L _ v1;refine⟨p.more+1+n,by have:=v.more;lia,?_⟩;rw[e8,h1,e];rfl
noncomputable def f5 (m i:Nat):Nat:=(i*5+1) % (m+1)
def fN (m:Nat):Nat->Nat->Nat
 |0,i=>i
 |n+1,i=>fN m n (f5 m i)
def yD (m:Nat):Nat->Nat->List Nat
 |0,_=>[]
 |n+1,i=>i::yD m n (f5 m i)
theorem ri (m:Nat):∀(n i k:Nat),k<n->(yD m n i)[k]?=some (fN m k i)
 |n+1,i,0,_=>rfl
 |n+1,i,k+1,h=>ri m n _ k (by lia)
theorem rj (m:Nat):∀(n i:Nat),(yD m n i).length=n
 |0,_=>rfl
 |n+1,i=>by show(yD m n _).length+1=_;rw[rj]
theorem pH (m:Nat):∀(a b i:Nat),fN m (a+b) i=fN m b (fN m a i)
 |0,b,i=>by rw[Nat.zero_add];rfl
 |a+1,b,i=>by rw[Nat.succ_add];exact pH m a b _
def Ku (m:Nat):Bool:=((List.range (m+1)).all fun j=>(yD m (m+1) 0).contains j)&&(fN m (m+1) 0==0)
def sK (m:Nat):Prop:=m=7\/m=31\/m=127\/m=511
theorem uT (h:sK m):Ku m=true:=by rcases h with rfl|rfl|rfl|rfl<;>decide +kernel
theorem yE (h:sK m)(hj:j<=m):∃ n,n<=m/\fN m n 0=j:=by have:=uT h;unfold Ku at this;simp only[PU,QQ]at this;have h1:=this.1 j (O9.mpr (by lia));rw[List.contains_iff_mem,OS]at h1;obtain⟨n,hn⟩:=h1;have hl:=(Ov.mp hn).1;rw[rj]at hl;rw[ri m _ _ _ hl]at hn;exact⟨n,by lia,OW hn⟩
theorem EU (h:sK m)(hi:i<=m)(hj:j<=m):∃ n,n<=m/\fN m n i=j:=by
 obtain⟨a,ha,ea⟩:=yE h hi;obtain⟨b,hb,eb⟩:=yE h hj;by_cases hab:a<=b
 .refine⟨b-a,by lia,?_⟩;rw[<- ea,<- pH,show a+(b-a)=b by lia,eb]
 .refine⟨m+1+b-a,by lia,?_⟩;have z:=uT h;unfold Ku at z;simp only[PU,Rh]at z;rw[<- ea,<- pH,show a+(m+1+b-a)=m+1+b by lia,pH,z.2,eb]
theorem uU (m:Nat):∀(n i:Nat),lp m n (i,0)=(fN m n i,0)
 |0,_=>rfl
 |n+1,i=>by show lp m n (leap m i 0)=_;have:leap m i 0=(f5 m i,0):=rfl;rw[this];exact uU m n _
theorem rn (h:sK m)(hj:j<=m)(p:Nat×Nat)(h1:p.1<=m)(h2:p.2<2 ^ 64):∃ n,13<=n/\n<=m+13/\(lp m n p).1=j:=by
 have hp13:(2:Nat) ^ 64<32 ^ 13:=by decide
 have hq:(lp m 13 p).2=0:=by rw[Hy];exact Nat.div_eq_of_lt (by lia)
 obtain⟨n,hn,e⟩:=EU h (DQ m 13 p h1) hj;refine⟨13+n,by lia,by lia,?_⟩;rw[ET]
 grind [lp,uU]
theorem DR (h:sK m)(hj:j<=m)(v:Va m p):∃ n,n<10*turns m/\(it m n p).j=j:=by obtain⟨L,h1,h2,e⟩:=rn h hj (p.i,p.perturb) v.i v.q;obtain⟨n,hn,en⟩:=rh (L-1) p v;rw[show L-1+1=L by lia]at en hn;refine⟨n,by unfold turns;lia,?_⟩;rw[en];exact e
def B_ (xs:List Nat):Prop:=xs.Pairwise (·< ·)
theorem lU (hr:B_ xs.toList):∀(fuel lo hi:Nat),lo<=hi->hi<=xs.size->hi-lo<=fuel->
 (∀ i (h:i<xs.size),i<lo->xs[i]<j)->(∀ i (h:i<xs.size),hi<=i->j<=xs[i])->
 below.go xs j fuel lo hi<=xs.size/\(∀ i (h:i<xs.size),i<below.go xs j fuel lo hi->xs[i]<j)/\∀ i (h:i<xs.size),below.go xs j fuel lo hi<=i->j<=xs[i]
 |0,lo,hi,h1,h2,h3,h4,h5=>by
  have:lo=hi:=by lia
  subst this;exact⟨h2,h4,h5⟩
 |f+1,lo,hi,h1,h2,h3,h4,h5=>by
  have mono:∀ a b (ha:a<xs.size) (hb:b<xs.size),a<=b->xs[a]<=xs[b]:=by
   intro a b ha hb hab;rcases Nat.lt_or_eq_of_le hab with h|h
   .have:=OT.mp hr a b (by simpa using ha) (by simpa using hb) h;simpa using Rf this
   .subst h;exact Oq _
  unfold below.go;by_cases hc:lo<hi
  .rw[OK hc];have hm:(lo+hi) / 2<xs.size:=by lia
   have eg:xs.getD ((lo+hi) / 2) j=xs[(lo+hi) / 2]:=by simp[Array.getD,hm]
   dsimp only;rw[eg];by_cases hq:xs[(lo+hi) / 2]<j
   .rw[OK hq];refine lU hr f _ _ (by lia) h2 (by lia) (fun i h hi'=>?_) h5;exact Pp (mono i _ h hm (by lia)) hq
   .rw[OL hq];refine lU hr f _ _ (by lia) (by lia) (by lia) h4 fun i h hi'=>?_;exact OR (by lia) (mono _ i hm h hi')
  .rw[OL hc];have:lo=hi:=by lia
   subst this;exact⟨h2,h4,h5⟩
theorem cN (j:Nat)(hr:B_ xs.toList):below xs j<=xs.size/\(∀ i (h:i<xs.size),i<below xs j->xs[i]<j)/\∀ i (h:i<xs.size),below xs j<=i->j<=xs[i]:=by unfold below;exact lU hr xs.size 0 xs.size (OP _) (Oq _) (by lia) (fun i h z=>by lia) fun i h z=>by lia
theorem yF (hr:B_ xs.toList)(h:i<xs.size):below xs xs[i]=i:=by
 obtain⟨a,b,c⟩:=cN xs[i] hr;rcases RD (below xs xs[i]) i with q|q|q
 .have hb:below xs xs[i]<xs.size:=by lia
  have h1:=c (below xs xs[i]) hb (Oq _);have h2:=OT.mp hr _ i (by grind) (by grind) q;simp at h2;lia
 .exact q
 .have:=b i h q;lia
theorem oH (j:Nat):has #[] j=false:=rfl
structure Tb (t:SetTable):Prop where
 Ek:sK t.mask
 Hb:t.dummies=#[]
 sG:B_ t.place.toList
 le:∀ j∈t.place.toList,j<=t.mask
theorem oI (h:Tb t)(hi:i<t.place.size):t.slot t.place[i]=.live i:=by unfold slot;dsimp only;rw[yF h.sG hi];rw[OK];simp[hi]
theorem tH (h:Tb t)(hj:j∉t.place.toList):t.slot j=.empty:=by
 unfold slot;dsimp only;rw[OL,h.Hb,oH]
 .rfl
 .grind
theorem tJ (h:Tb t)(j:Nat):(j∉t.place.toList/\t.slot j=.empty)\/∃ i,∃ hi:i<t.place.size,t.place[i]=j/\t.slot j=.live i:=by
 by_cases hj:j∈t.place.toList
 .right;obtain⟨i,hi,e⟩:=Q7.mp hj;have hi':i<t.place.size:=by simpa using hi
  have e':t.place[i]=j:=by simpa using e
  exact⟨i,hi',e',by rw[<- e'];exact oI h hi'⟩
 .exact .inl ⟨hj,tH h hj⟩
def Lv (t:SetTable)(j:Nat):Prop:=j∈t.place.toList
inductive iq (t:SetTable) (ha:Nat->Int) (h:Int) (p:Probe):Option Met->Prop
 |em (n:Nat) (e:¬ Lv t (it t.mask n p).j) (b:∀ k,k<n->∃ i,∃ hi:i<t.place.size,t.place[i]=(it t.mask k p).j/\ha i≠h):iq t ha h p (some (.empty (it t.mask n p).j none))
 |ca (n i:Nat) (hi:i<t.place.size) (e:t.place[i]=(it t.mask n p).j) (q:ha i=h) (b:∀ k,k<n->∃ i,∃ hi:i<t.place.size,t.place[i]=(it t.mask k p).j/\ha i≠h) :
  iq t ha h p (some (.candidate (it t.mask n p).j i (it t.mask (n+1) p)))
theorem rq (h:Tb t)(ha:Nat->Int)(x:Int):∀(fuel:Nat)(p:Probe),Va t.mask p->(∃ n,n<fuel/\¬ Lv t (it t.mask n p).j)->iq t ha x p (probe.go t ha x fuel p)
 |0,p,v,⟨n,hn,_⟩=>by lia
 |f+1,p,v,⟨n,hn,he⟩=>by
  unfold probe.go;rcases tJ h p.j with⟨h1,e⟩|⟨i,hi,h1,e⟩
  .rw[e];dsimp only;have:=iq.em (t:=t) (ha:=ha) (h:=x) (p:=p) 0 h1 fun k hk=>by lia
   rw[v.d];exact this
  .rw[e];dsimp only;by_cases hq:ha i=x
   .rw[OK (by simpa using hq)];exact iq.ca (t:=t) (ha:=ha) (h:=x) (p:=p) 0 i hi h1 hq fun k hk=>by lia
   .rw[OL (by simpa using hq),tF];have hn0:n≠0:=by rintro rfl;exact he (by show p.j∈t.place.toList;rw[<- h1];simp)
    have ih:=rq h ha x f (tE t.mask p) v.tE ⟨n-1,by lia,by
     have:it t.mask (n-1) (tE t.mask p)=it t.mask n p:=by show _=it t.mask n p;rw[show n=(n-1)+1 by lia];rfl
     rw[this];exact he⟩
    have shift:∀{nn:Nat},(∀ k,k<nn->∃ i,∃ hi:i<t.place.size,t.place[i]=(it t.mask k (tE t.mask p)).j/\ha i≠x)->∀ k,k<nn+1->∃ i,∃ hi:i<t.place.size,t.place[i]=(it t.mask k p).j/\ha i≠x:=by
     intro nn b k hk;cases k with
     |zero=>exact⟨i,hi,h1,hq⟩
     |succ k=>exact b k (by lia)
    generalize probe.go t ha x f (tE t.mask p)=rr at ih;cases ih with
    |em n' e' b=>exact iq.em (t:=t) (ha:=ha) (h:=x) (p:=p) (n'+1) e' (shift b)
    |ca n' i' hi' e' q' b=>exact iq.ca (t:=t) (ha:=ha) (h:=x) (p:=p) (n'+1) i' hi' e' q' (shift b)
theorem lV:∀(l1 l2:List Nat),l1.Nodup->(∀ x∈l1,x∈l2)->l1.length<=l2.length
 | [],_,_,_=>OP _
 |a::l1,l2,nd,hs=>by
  have ha:a∈l2:=hs a (Ox ..);have ih:=lV l1 (l2.erase a) (Pk.mp nd).2 fun x hx=>by grind
  grind
theorem lW (h:Tb t)(hs:t.place.size<=t.mask):∃ j,j<=t.mask/\¬ Lv t j:=by refine Qf fun hn=>?_;have iS:∀ j,j<=t.mask->j∈t.place.toList:=fun j hj=>Qf fun z=>hn ⟨j,hj,z⟩;have:=lV (List.range (t.mask+1)) t.place.toList Rb fun j hj=>iS j (by grind);simp at this;lia
theorem lX (h:Tb t)(hs:t.place.size<=t.mask)(ha:Nat->Int)(x:Int)(v:Va t.mask p):iq t ha x p (t.probe ha x p):=by obtain⟨j,hj,hn⟩:=lW h hs;obtain⟨n,h1,h2⟩:=DR h.Ek hj v;unfold probe;exact rq h ha x _ p v ⟨n,h1,by grind⟩
def Rea (m:Nat)(lv:Nat->Prop)(h:Int)(j:Nat):Prop:=∃ n,(it m n (st m h)).j=j/\∀ k,k<n->lv (it m k (st m h)).j
theorem Rea.mono (r:Rea m lv h j)(s:∀ j,lv j->lv' j):Rea m lv' h j:=let ⟨n,e,b⟩:=r;⟨n,e,fun k hk=>s _ (b k hk)⟩
structure nw {V:Type} (t:SetTable) (es:Array (Int×V)):Prop where
 tb:Tb t
 len:t.place.size=es.size
 G8:∀ q∈t.place.toList.zip es.toList,Rea t.mask (·∈ t.place.toList) q.2.1 q.1
def i8 (t:SetTable):Prop:=t.place.size*5<t.mask*3
theorem insertAt_toList {α:Type}(xs:Array α)(p:Nat)(x:α)(h:p<=xs.size):(insertAt xs p x).toList=xs.toList.take p++x::xs.toList.drop p:=by unfold insertAt;simp[Array.toList_extract,List.extract_eq_drop_take,Pe]
theorem insertAt_size {α:Type}(xs:Array α)(p:Nat)(x:α)(h:p<=xs.size):(insertAt xs p x).size=xs.size+1:=by rw[<- Pb,insertAt_toList xs p x h];simp;lia
theorem jx (h:Tb t)(j:Nat):(t.put j).1={ t with place:=insertAt t.place (below t.place j) j }:=by
 unfold put;dsimp only;rw[h.Hb]
 grind [oH]
theorem k9 (t:SetTable)(j:Nat):(t.put j).2=below t.place j:=rfl
theorem tL {α β:Type}(xs:List α)(ys:List β)(p:Nat)(x:α)(y:β)(h:xs.length=ys.length):(xs.take p++x::xs.drop p).zip (ys.take p++y::ys.drop p)=(xs.zip ys).take p++(x,y)::(xs.zip ys).drop p:=by rw[List.zip_append (by simp[h]),Rp];simp[List.zip,List.take_zipWith,List.drop_zipWith]
theorem tM {V:Type}{t:SetTable}{es:Array (Int×V)}(h:nw t es){j:Nat}(hj:j∉t.place.toList)(hjm:j<=t.mask){hh:Int}{v:V}(r:Rea t.mask (·∈ t.place.toList) hh j) :
 nw (t.put j).1 (insertAt es (t.put j).2 (hh,v))/\(t.put j).1.mask=t.mask/\(t.put j).1.place.size=t.place.size+1:=by
 obtain⟨a,b,c⟩:=cN j h.tb.sG;rw[jx h.tb,k9];have ae:below t.place j<=es.size:=by rw[<- h.len];exact a
 have el:=insertAt_toList t.place _ j a;have ee:=insertAt_toList es (below t.place j) (hh,v) ae;have mem:∀ k,k∈(insertAt t.place (below t.place j) j).toList↔k=j\/k∈t.place.toList:=by
  intro k;rw[el,OX,OC];constructor
  .rintro (z|rfl|z)
   .exact .inr (P9 z)
   .exact .inl rfl
   .exact .inr (List.mem_of_mem_drop z)
  .rintro (rfl|z)
   .exact .inr (.inl rfl)
   .rw[<- Qk (below t.place j) t.place.toList,OX]at z;exact z.elim .inl fun z=>.inr (.inr z)
 refine⟨⟨⟨h.tb.Ek,h.tb.Hb,?_,fun k hk=>?_⟩,?_,fun q hq=>?_⟩,rfl,insertAt_size _ _ _ a⟩
 .show B_ (insertAt t.place (below t.place j) j).toList;rw[el];unfold B_;rw[RX];refine⟨h.tb.sG.sublist (List.take_sublist _ _),?_,?_⟩
  .rw[List.pairwise_cons];refine⟨fun k hk=>?_,h.tb.sG.sublist (List.drop_sublist _ _)⟩;obtain⟨i,hi,e⟩:=Q7.mp hk;rw[Qw]at hi;have hi2:below t.place j+i<t.place.size:=by simp at hi;lia
   have e2:t.place[below t.place j+i]=k:=by rw[<- e];simp
   have:=c _ hi2 (by lia);rw[e2]at this;have:k≠j:=fun z=>hj (by rw[<- z,<- e2];simp);lia
  .intro k hk l hl;obtain⟨i,hi,e⟩:=Q7.mp hk;rw[Py]at hi;have hi2:i<t.place.size:=by simp at hi;lia
   have e2:t.place[i]=k:=by rw[<- e];simp
   have l1:=b i hi2 (by lia);rw[e2]at l1;rw[OC]at hl;rcases hl with rfl|hl
   .exact l1
   .obtain⟨i',hi',e'⟩:=Q7.mp hl;rw[Qw]at hi';have hi3:below t.place j+i'<t.place.size:=by simp at hi';lia
    have e3:t.place[below t.place j+i']=l:=by rw[<- e'];simp
    have:=c _ hi3 (by lia);rw[e3]at this;lia
 .rcases (mem k).mp hk with rfl|z
  .exact hjm
  .exact h.tb.le k z
 .show(insertAt t.place (below t.place j) j).size=_;rw[insertAt_size _ _ _ a,insertAt_size _ _ _ ae,h.len]
 .have hq:q∈(insertAt t.place (below t.place j) j).toList.zip (insertAt es (below t.place j) (hh,v)).toList:=hq;rw[el,ee,tL _ _ _ _ _ (by simpa using h.len)]at hq;have sub:∀ k,k∈t.place.toList->k∈(insertAt t.place (below t.place j) j).toList:=fun k hk=>(mem k).mpr (.inr hk);rw[OX,OC]at hq;rcases hq with z|rfl|z
  .exact(h.G8 q (P9 z)).mono sub
  .exact r.mono sub
  .exact(h.G8 q (List.mem_of_mem_drop z)).mono sub
def ow (owner:Array (Option Nat))(j:Nat):Prop:=∃ k,owner[j]?=some (some k)
theorem pI (i q:Nat):∀ k,k<=runEnd m i-i->it m k (rs m (i,q))={ j:=i+k,more:=runEnd m i-i-k,i:=i,perturb:=q,dummy:=none }
 |0,_=>rfl
 |k+1,h=>by
  rw[B9,pI i q k (by lia)]
  grind [tE]
theorem oJ (hs:owner.size=m+1):∀(fuel i q:Nat),i<=m->q<2 ^ 64->(∃ L,L<fuel/\¬ ow owner (lp m L (i,q)).1)->
 ∃ j,layClean.free m owner fuel i q=some j/\j<=m/\¬ ow owner j/\∃ n,(it m n (rs m (i,q))).j=j/\∀ k,k<n->ow owner (it m k (rs m (i,q))).j
 |0,i,q,_,_,⟨L,h,_⟩=>by lia
 |f+1,i,q,hi,hq,⟨L,hL,hn⟩=>by
  obtain⟨r1,r2⟩:=jb m i hi;have hre:runEnd m i+1-i=(runEnd m i-i)+1:=by
   have:i<=runEnd m i:=by unfold runEnd;split<;>lia
   lia
  have isn:∀ k,k<=runEnd m i-i->((owner.getD (i+k) (some 0)).isNone=true↔¬ ow owner (i+k)):=by
   intro k hk;have hb:i+k<owner.size:=by lia
   have e:owner[i+k]?=some owner[i+k]:=by simp[hb]
   have e2:owner.getD (i+k) (some 0)=owner[i+k]:=by simp[Array.getD,hb]
   unfold ow;rw[e2,e];cases owner[i+k]<;>simp
  unfold layClean.free;cases hf:(List.range (runEnd m i+1-i)).find? fun k=>(owner.getD (i+k) (some 0)).isNone with
  |some k=>
   dsimp only;rw[List.find?_range_eq_some]at hf;obtain⟨h1,h2,h3⟩:=hf;have h2:=O9.mp h2;have hk:k<=runEnd m i-i:=by lia
   refine⟨i+k,rfl,by lia,(isn k hk).mp h1,k,by rw[pI i q k hk],fun k' hk'=>?_⟩
   grind [pI]
  |none=>
   dsimp only;rw[List.find?_range_eq_none]at hf;have hrun:∀ k,k<=runEnd m i-i->ow owner (i+k):=by grind
   have hL0:L≠0:=by rintro rfl;exact hn (hrun 0 (OP _))
   have ih:=oJ hs f (leap m i q).1 (leap m i q).2 (pG m i q) (by rw[tG];have:=Nat.div_le_self q 32;lia) ⟨L-1,by lia,by
    have:lp m L (i,q)=lp m (L-1) (leap m i q):=by rw[show L=(L-1)+1 by lia];rfl
    rw[this]at hn;exact hn⟩
   obtain⟨j,e,hj,hnj,n,en,hb⟩:=ih;refine⟨j,e,hj,hnj,runEnd m i-i+1+n,?_,fun k hk=>?_⟩
   .rw[e8,k8 (runEnd m i-i) (rs m (i,q)) rfl (Va.rs hi hq)];exact en
   .by_cases hk2:k<=runEnd m i-i
    .rw[pI i q k hk2];exact hrun k hk2
    .have:it m k (rs m (i,q))=it m (k-(runEnd m i-i+1)) (rs m (leap m i q)):=by rw[show k=(runEnd m i-i+1)+(k-(runEnd m i-i+1)) by lia,e8,k8 (runEnd m i-i) (rs m (i,q)) rfl (Va.rs hi hq)];congr 1;lia
     rw[this];exact hb _ (by lia)
structure Own (m:Nat) (hs:List Int) (owner:Array (Option Nat)):Prop where
 size:owner.size=m+1
 all:∀ k:Nat,k<hs.length->∃ j:Nat,owner[j]?=some (some k)
 lt:∀ j k:Nat,owner[j]?=some (some k)->k<hs.length
 G8:∀(j k:Nat)(h:Int),owner[j]?=some (some k)->hs[k]?=some h->Rea m (ow owner) h j
 inj:∀ j j' k:Nat,owner[j]?=some (some k)->owner[j']?=some (some k)->j=j'
theorem Own.JG (o:Own m hs owner)(hl:hs.length<=m):∃ j,j<=m/\¬ ow owner j:=by
 refine Qf fun hn=>?_;have iS:∀ j,j<=m->ow owner j:=fun j hj=>Qf fun z=>hn ⟨j,hj,z⟩
 let g:Nat->Nat:=fun j=>((owner[j]?).getD none).getD 0
 have hg:∀ j,j<=m->owner[j]?=some (some (g j)):=fun j hj=>by obtain⟨k,hk⟩:=iS j hj;show owner[j]?=some (some (((owner[j]?).getD none).getD 0));rw[hk];rfl
 have nd:((List.range (m+1)).map g).Nodup:=by unfold List.Nodup;rw[PD];have:=Rb (n:=m+1);refine Qn (fun{a b} ha hb hab e=>hab ?_) this;have ha:=O9.mp ha;have hb:=O9.mp hb;exact o.inj a b (g a) (hg a (by lia)) (by rw[e];exact hg b (by lia))
 have:=lV _ (List.range hs.length) nd fun x hx=>by obtain⟨j,hj,rfl⟩:=OB.mp hx;have hj:=O9.mp hj;exact O9.mpr (o.lt j _ (hg j (by lia)))
 simp at this;lia
theorem yG (hm:sK m)(o:Own m hs owner)(hl:hs.length<=m)(h:Int) :
 ∃ j,layClean.free m owner (turns m) (bits h % (m+1)) (bits h)=some j/\Own m (hs++[h]) (owner.setIfInBounds j (some hs.length)):=by
 obtain⟨j0,hj0,hn0⟩:=o.JG hl;have hi:bits h % (m+1)<=m:=Sn (SD _ (Nat.succ_pos m));obtain⟨L,l1,l2,el⟩:=rn hm hj0 (bits h % (m+1),bits h) hi (pF h);obtain⟨j,e,hj,hnj,n,en,hb⟩:=oJ o.size (turns m) _ _ hi (pF h) ⟨L,by unfold turns;lia,by rw[el];exact hn0⟩;refine⟨j,e,?_⟩;have hjb:j<owner.size:=by rw[o.size];lia
 have get:∀ i,(owner.setIfInBounds j (some hs.length))[i]?=if i=j then some (some hs.length) else owner[i]?:=by
  intro i;rw[Array.getElem?_setIfInBounds];by_cases hij:j=i
  .subst hij;rw[OK rfl,OK hjb,OK rfl]
  .rw[OL hij,OL (fun z=>hij z.symm)]
 have sub:∀ i,ow owner i->ow (owner.setIfInBounds j (some hs.length)) i:=by
  rintro i ⟨k,hk⟩;by_cases hij:i=j
  .exact⟨_,by rw[get,OK hij]⟩
  .exact⟨k,by rw[get,OL hij];exact hk⟩
 have inv:∀ i k,(owner.setIfInBounds j (some hs.length))[i]?=some (some k)->(i=j/\k=hs.length)\/(i≠j/\owner[i]?=some (some k)):=by
  intro i k hk;rw[get]at hk;by_cases hij:i=j
  .rw[OK hij]at hk;exact .inl ⟨hij,by simpa using hk.symm⟩
  .rw[OL hij]at hk;exact .inr ⟨hij,hk⟩
 refine⟨by rw[Array.size_setIfInBounds,o.size],fun k hk=>?_,fun i k hk=>?_,fun i k h' hk hh=>?_,fun i i' k h1 h2=>?_⟩
 .rw[OF,QW]at hk;by_cases hkl:k=hs.length
  .exact⟨j,by rw[get,OK rfl,hkl]⟩
  .obtain⟨i,hi⟩:=o.all k (by lia);refine⟨i,?_⟩;rw[get,OL]
   .exact hi
   .rintro rfl;exact hnj ⟨k,hi⟩
 .rw[OF,QW];rcases inv i k hk with⟨_,rfl⟩|⟨_,z⟩
  .lia
  .have:=o.lt i k z;lia
 .rcases inv i k hk with⟨rfl,rfl⟩|⟨hij,z⟩
  .rw[Qa (Oq _),Nat.sub_self]at hh;cases hh;exact⟨n,en,fun k hk=>sub _ (hb k hk)⟩
  .have hkl:=o.lt i k z;rw[Qg hkl]at hh;exact(o.G8 i k h' z hh).mono sub
 .rcases inv i k h1 with⟨rfl,rfl⟩|⟨hij,z⟩<;>rcases inv i' _ h2 with⟨rfl,e'⟩|⟨hij',z'⟩
  .rfl
  .have:=o.lt _ _ z';lia
  .have:=o.lt _ _ z;lia
  .exact o.inj i i' k z z'
theorem yH (hm:sK m):∀(suf pre:List Int)(owner:Array (Option Nat)),Own m pre owner->pre.length+suf.length<=m->
 ∃ owner',suf.foldl (fun acc h=>do
  let (owner,k) <- acc
  let j <- layClean.free m owner (turns m) (bits h % (m+1)) (bits h)
  pure (owner.setIfInBounds j (some k),k+1)) (some (owner,pre.length))=some (owner',pre.length+suf.length)/\Own m (pre++suf) owner'
 | [],pre,owner,o,_=>⟨owner,rfl,by grind⟩
 |h::suf,pre,owner,o,hl=>by
  simp only[OJ]at hl;obtain⟨j,e,o'⟩:=yG hm o (by lia) h;obtain⟨owner',e2,o2⟩:=yH hm suf (pre++[h]) _ o' (by simp;lia)
  grind
theorem EV (hm:sK m)(hs:Array Int)(hl:hs.size<=m):∃ owner,layClean m hs=some owner/\Own m hs.toList owner:=by
 have o0:Own m [] (Array.replicate (m+1) none):=by
  have no:∀ j k:Nat,(Array.replicate (m+1) (none:Option Nat))[j]?=some (some k)->False:=by grind
  exact⟨by simp,fun k hk=>by simp at hk,fun j k h=>(no j k h).elim,fun j k _ h=>(no j k h).elim,fun j _ k h=>(no j k h).elim⟩
 obtain⟨owner,e,o⟩:=yH hm hs.toList [] _ o0 (by grind);refine⟨owner,?_,by grind⟩;unfold layClean
 grind
theorem yI {α:Type}(es:Array α):∀(l:List Nat),(∀ k∈l,k<es.size)->(l.filterMap (es[·]?)).length=l.length/\∀ i:Nat,(l.filterMap (es[·]?))[i]?=(l[i]?).bind (es[·]?)
 | [],_=>⟨rfl,fun i=>by simp⟩
 |k::l,h=>by
  have hk:k<es.size:=h k (Ox ..);have e:es[k]?=some es[k]:=by simp[hk]
  obtain⟨a,b⟩:=yI es l fun k hk=>h k (Ow _ hk);rw[List.filterMap_cons_some e];refine⟨by simp[a],fun i=>?_⟩;cases i with
  |zero=>simp[e]
  |succ i=>simpa using b i
theorem lY (o:Nat->Option Nat):∀ l:List Nat,(l.filterMap fun j=>(o j).map (j,·)).map Prod.fst=l.filter fun j=>(o j).isSome
 | []=>rfl
 |j::l=>by
  rw[QK,Sz];cases e:o j with
  |none=>simpa using lY o l
  |some k=>simpa using lY o l
theorem yJ (owner:Array (Option Nat))(m:Nat)(hs:owner.size=m+1)(j k:Nat):(j,k)∈((List.range (m+1)).filterMap fun j=>(owner.getD j none).map (j,·))↔owner[j]?=some (some k):=by
 rw[P3];constructor
 .rintro⟨a,h1,h2⟩;have h1:=O9.mp h1;have hb:a<owner.size:=by lia
  have e:owner.getD a none=owner[a]:=by simp[Array.getD,hb]
  rw[e]at h2;obtain⟨k',e1,e2⟩:=Pd.mp h2;cases e2;rw[show owner[j]?=some owner[j] by simp[hb],e1]
 .intro h;obtain⟨hb,e⟩:=Qb.mp h;refine⟨j,O9.mpr (by lia),?_⟩;have e2:owner.getD j none=owner[j]:=by simp[Array.getD,hb]
  rw[e2,e];rfl
structure Laid {V:Type} (m:Nat) (es es':Array (Int×V)) (t':SetTable):Prop where
 qF:nw t' es'
 mask:t'.mask=m
 size:es'.size=es.size
 mem:∀ x,x∈es'.toList↔x∈es.toList
 pw:∀ R:Int×V->Int×V->Prop,(∀ x y,R x y->R y x)->es.toList.Pairwise R->es'.toList.Pairwise R
theorem rA {V:Type}{m:Nat}(hm:sK m)(es:Array (Int×V))(hl:es.size<=m)(finger moves:Nat)(led plain:Bool) :
 ∃ t' order,laid m finger moves led plain (es.map (·.1))=some (t',order)/\Laid m es (order.filterMap (es[·]?)) t'/\t'.led=led/\t'.plain=plain/\order.toList.Perm (List.range es.size):=by
 obtain⟨owner,eo,o⟩:=EV hm (es.map (·.1)) (by simpa using hl);have len:(es.map (·.1)).toList.length=es.size:=by simp
 let live:=(List.range (m+1)).filterMap fun j=>(owner.getD j none).map (j,·)
 have lm:∀ j k,(j,k)∈live↔owner[j]?=some (some k):=yJ owner m o.size;have sG:B_ (live.map Prod.fst):=by show B_ (((List.range (m+1)).filterMap fun j=>(owner.getD j none).map (j,·)).map Prod.fst);rw[lY];exact List.pairwise_lt_range.sublist (List.filter_sublist)
 have ndS:(live.map Prod.snd).Nodup:=by unfold List.Nodup;unfold B_ at sG;rw[PD]at sG ⊢;refine Qn (fun{a b} ha hb hab e=>?_) sG;have h1:=(lm a.1 a.2).mp ha;have h2:=(lm b.1 b.2).mp hb;rw[<- e]at h2;have:=o.inj _ _ _ h1 h2;lia
 have lt:∀ k∈live.map Prod.snd,k<es.size:=by
  intro k hk;obtain⟨p,hp,rfl⟩:=OB.mp hk;have:=o.lt p.1 p.2 ((lm p.1 p.2).mp hp)
  rwa [len]at this
 have all:∀ k,k<es.size->k∈live.map Prod.snd:=by intro k hk;obtain⟨j,hj⟩:=o.all k (by rw[len];exact hk);exact OB.mpr ⟨(j,k),(lm j k).mpr hj,rfl⟩
 have ll:live.length=es.size:=by have a:=lV _ (List.range es.size) ndS fun k hk=>O9.mpr (lt k hk);have b:=lV (List.range es.size) (live.map Prod.snd) Rb fun k hk=>all k (O9.mp hk);simp at a b;lia
 obtain⟨f1,f2⟩:=yI es (live.map Prod.snd) lt;refine⟨{ mask:=m,place:=(live.map (·.1)).toArray,dummies:=#[],finger,led,moves,plain },(live.map (·.2)).toArray,?_,?_,rfl,rfl,(List.perm_ext_iff_of_nodup ndS Rb).mpr fun k=>⟨fun h=>O9.mpr (lt k h),fun h=>all k (O9.mp h)⟩⟩
 .unfold laid;rw[eo];rfl
 .have el:((live.map (·.2)).toArray.filterMap (es[·]?)).toList=(live.map Prod.snd).filterMap (es[·]?):=by simp
  have es':((live.map (·.2)).toArray.filterMap (es[·]?)).size=es.size:=by rw[<- Pb,el,f1,Ot,ll]
  refine⟨⟨⟨hm,rfl,by simpa using sG,fun j hj=>?_⟩,?_,fun q hq=>?_⟩,rfl,es',fun x=>?_,fun R sy pw=>?_⟩
  .have hj:j∈live.map Prod.fst:=by simpa using hj
   obtain⟨p,hp,rfl⟩:=OB.mp hj;obtain⟨hb,_⟩:=Qb.mp ((lm p.1 p.2).mp hp);show p.1<=m;have:=o.size;lia
  .rw[es'];simpa using ll
  .have hq:q∈(live.map Prod.fst).zip ((live.map Prod.snd).filterMap (es[·]?)):=by rw[el]at hq;simpa using hq
   obtain⟨i,hi⟩:=OS.mp hq;rw[Q8,f2]at hi;obtain⟨h1,h2⟩:=hi;rw[OD]at h1 h2;obtain⟨p,hp,e1⟩:=Pd.mp h1;rw[hp]at h2;have h2:es[p.2]?=some q.2:=h2;have ho:=(lm p.1 p.2).mp (OS.mpr ⟨i,hp⟩);have hh:(es.map (·.1)).toList[p.2]?=some q.2.1:=by rw[OY,Array.getElem?_map,h2];rfl
   rw[<- e1];refine(o.G8 p.1 p.2 q.2.1 ho hh).mono fun j ⟨k,hk⟩=>?_;show j∈(live.map (·.1)).toArray.toList;simpa using ⟨k,(lm j k).mpr hk⟩
  .rw[el];constructor
   .intro hx;obtain⟨k,_,h2⟩:=P3.mp hx;exact OS.mpr ⟨k,by rw[OY];exact h2⟩
   .intro hx;obtain⟨k,hk⟩:=OS.mp hx;have hb:k<es.size:=by have:=(Ov.mp hk).1;simpa using this
    exact P3.mpr ⟨k,all k hb,by rw[OY]at hk;exact hk⟩
  .rw[el];rw[OT];intro a b ha hb hab;have ea:=f2 a;have eb:=f2 b;rw[Ou ha]at ea;rw[Ou hb]at eb;rw[f1]at ha hb;rw[Ou ha]at ea;rw[Ou hb]at eb;have hne:(live.map Prod.snd)[a]≠(live.map Prod.snd)[b]:=OT.mp ndS a b ha hb hab;have ea:es[(live.map Prod.snd)[a]]?=some _:=ea.symm;have eb:es[(live.map Prod.snd)[b]]?=some _:=eb.symm;obtain⟨ka,va⟩:=Qb.mp ea;obtain⟨kb,vb⟩:=Qb.mp eb;have P:=OT.mp pw;rw[<- va,<- vb];rcases Rt hne with z|z
   .simpa using P _ _ (by simpa using ka) (by simpa using kb) z
   .refine sy _ _ ?_;simpa using P _ _ (by simpa using kb) (by simpa using ka) z
theorem Ca {V:Type}{m:Nat}(hm:sK m)(es:Array (Int×V))(hl:es.size<=m)(finger moves:Nat)(led plain:Bool) :
 ∃ t' order,laid m finger moves led plain (es.map (·.1))=some (t',order)/\Laid m es (order.filterMap (es[·]?)) t'/\t'.led=led/\t'.plain=plain:=by
 obtain⟨t',order,a,b,c,d,_⟩:=rA hm es hl finger moves led plain;exact⟨t',order,a,b,c,d⟩
end ST
namespace ST
open PySem PySem.W PyProof.Rows
structure Lt (N:Nat) (lt:Nat->Nat->Bool):Prop where
 N8:∀ i,lt i i=false
 tr:∀ i j k,lt i j=true->lt j k=true->lt i k=true
 N7:∀ i j,i<N->j<N->i≠j->lt i j=true\/lt j i=true
noncomputable abbrev M5:=Nat->Nat->(Bool->SF->Prop)->SF->Prop
def Cb (N:Nat)(lt:Nat->Nat->Bool)(cmp:M5)(s:SF):Prop:=∀ i j C,i<N->j<N->C (lt i j) s->cmp i j C s
def Pm (N:Nat)(p:Array Nat):Prop:=p.toList.Perm (List.range N)
noncomputable def cB (p:Array Nat)(i:Nat):Nat:=p.getD i 0
section
theorem Pm.size (h:Pm N p):p.size=N:=by have:=h.length_eq;simpa using this
theorem Pm.perm (h:Pm N p)(q:p'.Perm p):Pm N p':=(Array.perm_iff_toList_perm.mp q).trans h
theorem EY (hi:i<p.size):p[i]?=some (cB p i):=by unfold cB;simp[Array.getD,hi]
theorem yK (h:p'[i]?=p[k]?):cB p' i=cB p k:=by
 simp_all [cB,cB]
theorem Pm.bd (h:Pm N p)(hi:i<N):cB p i<N:=by
 have hi':i<p.size:=by rw[h.size];exact hi
 have:cB p i∈p.toList:=OS.mpr ⟨i,by rw[OY];exact EY hi'⟩;exact O9.mp (h.mem_iff.mp this)
theorem Pm.ne (h:Pm N p)(hi:i<N)(hj:j<N)(e:i≠j):cB p i≠cB p j:=by
 have nd:p.toList.Nodup:=h.nodup_iff.mpr Rb;have hi':i<p.size:=by rw[h.size];exact hi
 have hj':j<p.size:=by rw[h.size];exact hj
 have gi:p.toList[i]'(by simpa using hi')=cB p i:=by simp[cB,Array.getD,hi']
 have gj:p.toList[j]'(by simpa using hj')=cB p j:=by simp[cB,Array.getD,hj']
 intro z;rcases Rt e with q|q
 .exact OT.mp nd i j (by simpa using hi') (by simpa using hj') q (by rw[gi,gj];exact z)
 .exact OT.mp nd j i (by simpa using hj') (by simpa using hi') q (by rw[gi,gj];exact z.symm)
def So (lt:Nat->Nat->Bool)(p:Array Nat)(k:Nat):Prop:=∀ a b,a<b->b<k->lt (cB p a) (cB p b)=true
def De (lt:Nat->Nat->Bool)(p:Array Nat)(k:Nat):Prop:=∀ a b,a<b->b<k->lt (cB p b) (cB p a)=true
theorem Lt.uy (o:Lt N lt)(hi:i<N)(hj:j<N)(e:i≠j)(h:lt i j=false):lt j i=true:=by
 grind [Lt]
theorem So.snoc (o:Lt N lt)(h:So lt p k)(hk:1<=k)(l:lt (cB p (k-1)) (cB p k)=true):So lt p (k+1):=by
 grind [Lt,So]
theorem De.snoc (o:Lt N lt)(h:De lt p k)(hk:1<=k)(l:lt (cB p k) (cB p (k-1))=true):De lt p (k+1):=by
 grind [Lt,De]
theorem tO (o:Lt N lt)(an:Cb N lt cmp s)(pm:Pm N p):∀(f n:Nat){Q:Nat->SF->Prop},1<=n->n+f=N->So lt p n->
 (∀ m,n<=m->m<=N->So lt p m->(m<N->lt (cB p m) (cB p (m-1))=true)->Q m s)->(kas_asc p f n).kasWp cmp Q s
 |0,n,Q,h1,h2,h3,k=>k n (Oq _) (by lia) h3 fun z=>by lia
 |f+1,n,Q,h1,h2,h3,k=>by
  refine an _ _ _ (pm.bd (by lia)) (pm.bd (by lia)) ?_;show KasT.kasWp cmp (if lt (cB p n) (cB p (n-1))=true then .ret n else kas_asc p f (n+1)) Q s;by_cases c:lt (cB p n) (cB p (n-1))=true
  .rw[OK c];exact k n (Oq _) (by lia) h3 fun _=>c
  .rw[OL c];have c:lt (cB p n) (cB p (n-1))=false:=by grind
   exact tO o an pm f (n+1) (by lia) (by lia) (h3.snoc o h1 (o.uy (pm.bd (by lia)) (pm.bd (by lia)) (pm.ne (by lia) (by lia) (by lia)) c)) fun m a b c d=>k m (by lia) b c d
theorem uV (o:Lt N lt)(an:Cb N lt cmp s)(pm:Pm N p):∀(f n:Nat){Q:Array Nat×Nat×Nat->SF->Prop},1<=n->n+f=N->De lt p n->
 (∀ m,n<=m->m<=N->De lt p m->Q (p,m,0) s)->(kas_desc f p n 0).kasWp cmp Q s
 |0,n,Q,h1,h2,h3,k=>k n (Oq _) (by lia) h3
 |f+1,n,Q,h1,h2,h3,k=>by
  refine an _ _ _ (pm.bd (by lia)) (pm.bd (by lia)) ?_;show KasT.kasWp cmp (if lt (cB p n) (cB p (n-1))=true then (if 0>0 then kas_desc f (kas_rev p (n-(0+1)) n) (n+1) 0 else kas_desc f p (n+1) 0)
   else .ask (cB p (n-1)) (cB p n) fun d=>if d=true then .ret (p,n,0) else kas_desc f p (n+1) (0+1)) Q s
  by_cases c:lt (cB p n) (cB p (n-1))=true
  .rw[OK c,OL (by lia)];exact uV o an pm f (n+1) (by lia) (by lia) (h3.snoc o h1 c) fun m a b c=>k m (by lia) b c
  .rw[OL c];have c:lt (cB p n) (cB p (n-1))=false:=by grind
   refine an _ _ _ (pm.bd (by lia)) (pm.bd (by lia)) ?_;rw[o.uy (pm.bd (by lia)) (pm.bd (by lia)) (pm.ne (by lia) (by lia) (by lia)) c];show KasT.kasWp cmp (if true=true then _ else _) Q s;rw[OK rfl];exact k n (Oq _) (by lia) h3
theorem yL (n:Nat)(hn:n<=p.size)(k:Nat):cB (kas_rev p 0 n) k=if k<n then cB p (n-1-k) else cB p k:=by
 have e:=getElem?_mirror_all (xs:=p) (i:=0) hn k;unfold kas_rev
 grind [yK]
theorem yM (o:Lt N lt)(an:Cb N lt cmp s)(pm:Pm N p)(h1:1<=n)(hn:n<=N)(hd:De lt p n)
 (k:∀ m p',1<=m->m<=N->Pm N p'->So lt p' m->Q (m,p') s):(kas_tail3 n N p).kasWp cmp Q s:=by
 unfold kas_tail3;rw[Ru];have pm':Pm N (kas_rev p 0 n):=pm.perm (mirror_perm _ _ _ _);refine tO o an pm' (N-n) n h1 (by lia) ?_ fun m a b c _=>k m _ (by lia) b pm' c;intro a b hab hb;rw[yL n (by rw[pm.size];exact hn),yL n (by rw[pm.size];exact hn),OK (by lia),OK hb];exact hd _ _ (by lia) (by lia)
theorem yN (o:Lt N lt)(an:Cb N lt cmp s)(pm:Pm N p)(h2:2<=N)
 (k:∀ m p',1<=m->m<=N->Pm N p'->So lt p' m->Q (m,p') s):(kas_count N p).kasWp cmp Q s:=by
 unfold kas_count;rw[Ru];refine tO o an pm (N-1) 1 (Oq _) (by lia) (fun a b hab hb=>by lia) fun m a b c d=>?_;by_cases e:m=N
 .rw[OK (by simpa using e)];exact k m p a b pm c
 .rw[OL (by simpa using e)];by_cases hm:m>1
  .rw[OK hm];refine an _ _ _ (pm.bd (by lia)) (pm.bd (by lia)) ?_;have:lt (cB p 0) (cB p (m-1))=true:=c 0 (m-1) (by lia) (by lia);show KasT.kasWp cmp (if lt (cB p 0) (cB p (m-1))=true then _ else _) Q s;rw[OK this];exact k m p a b pm c
  .rw[OL hm];have hm1:m=1:=by lia
   subst hm1;unfold kas_descPart;rw[Ru];have l:=d (by lia);refine uV o an pm (N-(1+1)) (1+1) (by lia) (by lia) (fun a b hab hb=>?_) fun m' a' b' c'=>?_
   .have:a=0:=by lia
    have:b=1:=by lia
    subst_vars
    exact l
   .show KasT.kasWp cmp (if 0>0 then _ else kas_tail3 m' N p) Q s;rw[OL (by lia)];exact yM o an pm (by lia) b' c' k
theorem lZ (o:Lt N lt)(an:Cb N lt cmp s)(pm:Pm N p)(hi:i<N)(so:So lt p i):∀(f l r:Nat){Q:Nat->SF->Prop},l<=r->r<=i->r-l<=f->
 (∀ a,a<l->lt (cB p a) (cB p i)=true)->(∀ a,r<=a->a<i->lt (cB p i) (cB p a)=true)->
 (∀ m,m<=i->(∀ a,a<m->lt (cB p a) (cB p i)=true)->(∀ a,m<=a->a<i->lt (cB p i) (cB p a)=true)->Q m s)->(kas_place p i f l r).kasWp cmp Q s
 |0,l,r,Q,h1,h2,h3,h4,h5,k=>k l (by lia) h4 fun a x y=>h5 a (by lia) y
 |f+1,l,r,Q,h1,h2,h3,h4,h5,k=>by
  unfold kas_place;by_cases c:l>=r
  .rw[OK c];exact k l (by lia) h4 fun a x y=>h5 a (by lia) y
  .rw[OL c];refine an _ _ _ (pm.bd hi) (pm.bd (by lia)) ?_;show KasT.kasWp cmp (if lt (cB p i) (cB p ((l+r) / 2))=true then _ else _) Q s;by_cases q:lt (cB p i) (cB p ((l+r) / 2))=true
   .rw[OK q];refine lZ o an pm hi so f l ((l+r) / 2) (by lia) (by lia) (by lia) h4 (fun a x y=>?_) k;by_cases e:a=(l+r) / 2
    .rw[e];exact q
    .exact o.tr _ _ _ q (so _ _ (by lia) y)
   .rw[OL q];have q:lt (cB p i) (cB p ((l+r) / 2))=false:=by grind
    have q:=o.uy (pm.bd hi) (pm.bd (by lia)) (pm.ne hi (by lia) (by lia)) q;refine lZ o an pm hi so f _ r (by lia) h2 (by lia) (fun a x=>?_) h5 k;by_cases e:a=(l+r) / 2
    .rw[e];exact q
    .exact o.tr _ _ _ (so _ _ (by lia) (by lia)) q
theorem yO (hi:i<p.size)(hl:l<=i)(k:Nat):cB (bubble p i (i-l)) k=if k=l then cB p i else if l<k/\k<=i then cB p (k-1) else cB p k:=by
 have e:=getElem?_bubble hi (i-l) (by lia) k;rw[show i-(i-l)=l by lia]at e;by_cases h1:k=l
 .rw[OK h1]at e ⊢;exact yK e
 .rw[OL h1]at e ⊢
  grind [yK]
theorem yP (o:Lt N lt)(an:Cb N lt cmp s):∀(f i:Nat)(p:Array Nat){Q:Array Nat->SF->Prop},Pm N p->i+f=N->So lt p i->
 (∀ p',Pm N p'->So lt p' N->Q p' s)->(kas_bin f p i).kasWp cmp Q s
 |0,i,p,Q,pm,h,so,k=>k p pm (by grind)
 |f+1,i,p,Q,pm,h,so,k=>by
  unfold kas_bin;rw[Ru];refine lZ o an pm (by lia) so i 0 i (by lia) (Oq _) (by lia) (fun a x=>by lia) (fun a x y=>by lia) fun m hm lo hi=>?_;refine yP o an f (i+1) _ (pm.perm (bubble_perm _ _ _)) (by lia) (fun a b hab hb=>?_) k;have hs:i<p.size:=by rw[pm.size];lia
  rw[yO hs hm,yO hs hm]
  repeat' split
  all_goals first|lia|(exact hi _ (by lia) (by lia))|(exact lo _ (by lia))|(exact so _ _ (by lia) (by lia))
theorem Cc (o:Lt N lt)(an:Cb N lt cmp s)(h2:2<=N)(k:∀ p,Pm N p->So lt p N->Q p s):(kas_sort N).kasWp cmp Q s:=by
 unfold kas_sort;rw[Ru];have pm:Pm N (List.toArray (List.range N)):=by unfold Pm;simp
 refine yN o an pm h2 fun m p' a b c d=>?_;show KasT.kasWp cmp (if m<N then kas_bin (N-max m 1) p' (max m 1) else .ret p') Q s;by_cases e:m<N
 .rw[OK e];have:max m 1=m:=by lia
  rw[this];exact yP o an (N-m) m p' c (by lia) d k
 .rw[OL e];have:m=N:=by lia
  subst this;exact k p' c d
end
end ST
namespace L2
open PySem PySem.Spec PySem.Calls PyProof.Rows ST
noncomputable abbrev iK (ns:List Int):List bG:=ns.map Sum.inl
section
theorem k_ (h:(aS prog w).is (.inl i) v=true):∃ t,v=.int i t:=by
 rcases bB (show iX (.inl i) v=true from h) with⟨j,t,e,rfl⟩|⟨x,t,e,_⟩
 .cases e;exact⟨t,rfl⟩
 .cases e
theorem items_int:∀{ns:List Int}{vs:List SI},ItemsAre (aS prog w) (iK ns) vs->∀ v∈vs,∃ i t,v=.int i t
 | [],_,h,v,hv=>by cases h;simp at hv
 |n::ns,_,h,v,hv=>by
  cases h with
  |cons h1 h2=>
   rcases OC.mp hv with rfl|hv
   .obtain⟨t,rfl⟩:=k_ h1;exact⟨n,t,rfl⟩
   .exact items_int h2 v hv
theorem EZ (hk:(tK prog w).is s.heap (iK ns) b)(h:Q true s):wpAny (model prog w) A (hashByValue 8 (.ref b)) Q E s:=by
 have hT:=IsTupleKey.typeIs hk;obtain⟨o,items,n,ho,_,hd,hi⟩:=hk;unfold hashByValue;refine KE (wpAny_specialOf hT PySem.F.slot_tuple_hash.lookup ?_);dsimp only;refine KE (RK ho hd ?_);refine KE ?_;show wpAny _ _ (forIn items _ _) _ _ s;rw[<- Array.forIn_toList];refine RR _ (fun rest r s'=>r.1=none/\s'=s/\∀ v∈rest,∃ i t,v=Value.int i t) _ ?_ ?_ _ _ ⟨rfl,rfl,items_int hi⟩
 .rintro v rest r s' ⟨hr,rfl,iS⟩;obtain⟨i,t,rfl⟩:=iS v Ox;refine KE (Os ?_);simp only[Qp,OM,PL];exact Os ⟨rfl,rfl,fun u hu'=>iS u (Ow _ hu')⟩
 .rintro⟨r1,r2⟩ s' ⟨hr,rfl,_⟩;simp only at hr;subst hr;exact Os h
theorem rB (hk:(tK prog w).is s.heap (iK ns) b)(h:Q false s):wpAny (model prog w) A (ofAClassStatement 8 (.ref b)) Q E s:=by
 have hT:=IsTupleKey.typeIs hk;obtain⟨o,items,n,ho,_,hd,hi⟩:=hk;unfold ofAClassStatement;refine KE (wpAny_typeOf hT ?_);dsimp only;rw[OK (by decide)];refine KE (Os ?_);simp only[Qp,OM,PL];refine KE (RK ho hd ?_);refine KE ?_;show wpAny _ _ (forIn items _ _) _ _ s;rw[<- Array.forIn_toList];refine RR _ (fun rest r s'=>r.1=none/\s'=s/\∀ v∈rest,∃ i t,v=Value.int i t) _ ?_ ?_ _ _ ⟨rfl,rfl,items_int hi⟩
 .rintro v rest r s' ⟨hr,rfl,iS⟩;obtain⟨i,t,rfl⟩:=iS v Ox;refine KE (Os ?_);simp only[OM,PL];exact Os ⟨rfl,rfl,fun u hu'=>iS u (Ow _ hu')⟩
 .rintro⟨r1,r2⟩ s' ⟨hr,rfl,_⟩;simp only at hr;subst hr;exact Os h
theorem E2 (hk:(tK prog w).is s.heap (iK ns) b)(hy:∀ y∈ys,∃ ms c,y=.ref c/\(tK prog w).is s.heap (iK ms) c)(h:Q false s):wpAny (model prog w) A (searchCouldBeSeen (.ref b) ys) Q E s:=by
 unfold searchCouldBeSeen;refine KE ?_;refine RR _ (fun rest r s'=>r.1=none/\s'=s/\∀ y∈rest,∃ ms c,y=.ref c/\(tK prog w).is s.heap (iK ms) c) _ ?_ ?_ _ _ ⟨rfl,rfl,hy⟩
 .rintro v rest r s' ⟨hr,rfl,iS⟩;obtain⟨ms,c,rfl,hc⟩:=iS v Ox;have fin:∀ u∈rest,∃ ms c,u=Value.ref c/\(tK prog w).is s'.heap (iK ms) c:=fun u hu'=>iS u (Ow _ hu');dsimp only;split
  .exact Os ⟨rfl,rfl,fin⟩
  .refine KE ((tK prog w).quiet hk ?_);simp only[Qp,OM,PL];refine KE ((tK prog w).quiet hc ?_);simp only[Qp,OM,PL];refine KE (rB hk ?_);simp only[OM,PL];refine KE (rB hc ?_);simp only[OM,PL];exact Os ⟨rfl,rfl,fin⟩
 .rintro⟨r1,r2⟩ s' ⟨hr,rfl,_⟩;simp only at hr;subst hr;exact Os h
end
section
def L9 (prog:SH)(w:World)(h:Heap)(es:Array (Int×SI)):Prop:=∀ e∈es.toList,∃ ms c,e=((tK prog w).hash (iK ms),Value.ref c)/\(tK prog w).is h (iK ms) c
theorem Cd (h:sK m):(m % 2==0)=false:=by rcases h with rfl|rfl|rfl|rfl<;>rfl
theorem nw.fits (T:nw t es)(hs:t.place.size<=t.mask):t.fits es.size=true:=by unfold SetTable.fits SetTable.fill;rw[T.tb.Hb];simp[T.len]at hs ⊢;exact hs
theorem tP {α:Type}{es:Array α}{i:Nat}{e:α}(h:es[i]?=some e):e∈es.toList:=OS.mpr ⟨i,by rw[OY];exact h⟩
theorem oK {ep:Nat}{t:SetTable}{ns:List Int}{Q:SetFound->SF->Prop}(ho:s.heap.get? a=some o)(hd:o.data=.set es ep t)(T:nw t es)(hs:t.place.size<=t.mask)
 (hu:A.units<cLine) (hk:(tK prog w).is s.heap (iK ns) b) (el:L9 prog w s.heap es)
 (h1:(∃ e∈es.toList,∃ c,e.2=.ref c/\(tK prog w).is s.heap (iK ns) c)->Q (.there none) s)
 (h2:(∀ e∈es.toList,∀ c,e.2=.ref c->¬ (tK prog w).is s.heap (iK ns) c)->∀ j,j∉t.place.toList->j<=t.mask->Rea t.mask (·∈ t.place.toList) ((tK prog w).hash (iK ns)) j->Q (.free j false) s) :
 ∀(fuel n:Nat)(stand:Option SetTable.Probe),stand.getD (t.probeStart ((tK prog w).hash (iK ns)))=it t.mask n (st t.mask ((tK prog w).hash (iK ns)))->
  (∀ k,k<n->∃ i e,∃ hi:i<t.place.size,t.place[i]=(it t.mask k (st t.mask ((tK prog w).hash (iK ns)))).j/\es[i]?=some e/\∀ c,e.2=.ref c->¬ (tK prog w).is s.heap (iK ns) c)->
  (∃ N,n<=N/\N<n+fuel/\(it t.mask N (st t.mask ((tK prog w).hash (iK ns)))).j∉t.place.toList)->
  wpAny (model prog w) A (setSearchFrom a (.ref b) ((tK prog w).hash (iK ns)) true fuel stand) Q E s
 |0,n,stand,_,_,⟨N,x1,x2,_⟩=>by lia
 |fuel+1,n,stand,e1,e2,⟨N,x1,x2,x3⟩=>by
  have v0:Va t.mask (it t.mask n (st t.mask ((tK prog w).hash (iK ns)))):=(Va.st _ _).it;have sp:=lX T.tb hs (fun i=>(es[i]?.map (·.1)).getD 0) ((tK prog w).hash (iK ns)) v0;have at_:∀ i,i<t.place.size->∃ e,es[i]?=some e:=fun i hi=>⟨es[i]'(by rw[<- T.len];exact hi),by simp[T.len▸hi]⟩;unfold setSearchFrom;refine KE (PF ho hd (nw.fits T hs) ?_);dsimp only;have hg:t.gaveWay=false:=Cd T.tb.Ek;rw[hg];simp only[OM,PL];rw[e1];have pre:∀{nn:Nat},(∀ k,k<nn->∃ i,∃ hi:i<t.place.size,t.place[i]=(it t.mask k (it t.mask n (st t.mask ((tK prog w).hash (iK ns))))).j/\(es[i]?.map (·.1)).getD 0≠(tK prog w).hash (iK ns))->
   ∀ k,k<n+nn->∃ i e,∃ hi:i<t.place.size,t.place[i]=(it t.mask k (st t.mask ((tK prog w).hash (iK ns)))).j/\es[i]?=some e/\∀ c,e.2=.ref c->¬ (tK prog w).is s.heap (iK ns) c:=by
   intro nn hb k hk';by_cases hkn:k<n
   .exact e2 k hkn
   .obtain⟨i,hi,q1,q2⟩:=hb (k-n) (by lia);obtain⟨e,he⟩:=at_ i hi;refine⟨i,e,hi,?_,he,fun c hc his=>q2 ?_⟩
    .rw[q1,<- e8,show n+(k-n)=k by lia]
    .obtain⟨ms,c',rfl,his'⟩:=el e (tP he);have hc':c'=c:=by injection hc
     subst hc';rw[he];show(tK prog w).hash (iK ms)=_;rw[(tK prog w).inj his' his]
  generalize hq0:t.probe _ _ (it t.mask n (st t.mask ((tK prog w).hash (iK ns))))=pr;have hpr:t.probe (fun i=>(es[i]?.map (·.1)).getD 0) ((tK prog w).hash (iK ns)) (it t.mask n (st t.mask ((tK prog w).hash (iK ns))))=pr:=hq0;rw[hpr]at sp;clear hpr hq0;cases sp with
  |em nn hem hb=>
   dsimp only;refine Os (h2 ?_ _ hem (v0.it).MX ?_)
   .intro e he c hc his;obtain⟨i,hi⟩:=OS.mp he;rw[OY]at hi;have hil:i<t.place.size:=by rw[T.len];exact(Qb.mp hi).1
    obtain⟨ms,c',rfl,his'⟩:=el e he;have hc':c'=c:=by injection hc
    subst hc';have ek:=(tK prog w).inj his' his;have hz:(t.place[i],((tK prog w).hash (iK ms),Value.ref c'))∈t.place.toList.zip es.toList:=OS.mpr ⟨i,by rw[Q8];exact⟨by simp[hil],by rw[OY];exact hi⟩⟩;obtain⟨m,em,eb⟩:=T.G8 _ hz;have em:(it t.mask m (st t.mask ((tK prog w).hash (iK ms)))).j=t.place[i]:=em;rw[ek]at em eb;have hm:m<n+nn:=by
     rcases RD m (n+nn) with q|q|q
     .exact q
     .exfalso;refine hem ?_;show(it t.mask nn (it t.mask n _)).j∈t.place.toList;rw[<- e8,<- q,em];simp
     .exfalso;refine hem ?_;show(it t.mask nn (it t.mask n _)).j∈t.place.toList;rw[<- e8];exact eb _ q
    obtain⟨i',e',hi',q1,q2,q3⟩:=pre hb m hm;have hii:i'=i:=by
     have:t.place[i']=t.place[i]:=q1.trans em;rcases RD i' i with q|q|q
     .have:=OT.mp T.tb.sG i' i (by simpa using hi') (by simpa using hil) q;simp at this;lia
     .exact q
     .have:=OT.mp T.tb.sG i i' (by simpa using hil) (by simpa using hi') q;simp at this;lia
    subst hii;rw[hi]at q2;cases q2;exact q3 c' rfl his
   .refine⟨n+nn,by rw[e8],fun k hk'=>?_⟩;obtain⟨i,e,hi,q1,_⟩:=pre hb k hk';show _∈t.place.toList;rw[<- q1];simp
  |ca nn i hi hij hq hb=>
   dsimp only;obtain⟨e,he⟩:=at_ i hi;obtain⟨ms,c,rfl,his⟩:=el e (tP he);have rest:wpAny (model prog w) A (do
    let some (_,y):=es[i]?|unsupported "internal:set-entry"
    let equal <- holding [y] (eqBool y (.ref b))
    let (es',_,t') <- setState a
    if true&&equal then return SetFound.there none
    let some same:=t'.sameMemory t.moves t.mask|unsupported "set.changed-during-lookup:is-the-new-block-at-the-old-address"
    let still <- match (if same then t'.slot (it t.mask nn (it t.mask n (st t.mask ((tK prog w).hash (iK ns))))).j else .empty) with
     | .live i'=>match es'[i']? with
      |some (_,y')=>do pure (if <- isSame y' y then some i' else none)
      |none=>pure none
     |_=>pure none
    match still with
    |none=>rule "set.search.anew";setSearchFrom a (.ref b) ((tK prog w).hash (iK ns)) true fuel none
    |some i'=>if equal then return .there (some i') else setSearchFrom a (.ref b) ((tK prog w).hash (iK ns)) true fuel (some (it t.mask (nn+1) (it t.mask n (st t.mask ((tK prog w).hash (iK ns))))))) Q E s:=by
    rw[he];dsimp only;refine KE (Pl ((tK prog w).eqBool hu his hk ?_));refine KE (PF ho hd (nw.fits T hs) ?_);dsimp only;by_cases hkk:iK ms=iK ns
    .rw[OO hkk];simp only[Bool.and_self,QT];exact Os (h1 ⟨_,tP he,c,rfl,by rw[<- hkk];exact his⟩)
    .rw[OZ hkk];simp only[RJ,OM,PL];have hsm:t.sameMemory t.moves t.mask=some true:=by unfold SetTable.sameMemory;simp
     rw[hsm];dsimp only;rw[OK rfl,<- hij,oI T.tb hi];dsimp only;rw[he];dsimp only;refine KE (wpAny_isSame_ref_self ?_);refine KE (Os ?_);rw[OK rfl]
     try dsimp only
     refine oK ho hd T hs hu hk el h1 h2 fuel (n+(nn+1)) _ ?_ ?_ ⟨N,?_,?_,x3⟩
     .exact(e8 t.mask n (nn+1) _).symm
     .intro k hk';by_cases hkn:k<n+nn
      .exact pre hb k hkn
      .have:k=n+nn:=by lia
       subst this;refine⟨i,_,hi,by rw[hij,e8],he,fun c' hc' hh=>hkk ?_⟩;have:c=c':=by injection hc'
       subst this;exact(tK prog w).inj his hh
     .refine Qf fun hc=>?_;have hN:N<n+(nn+1):=by lia
      by_cases hNn:N<n+nn
      .obtain⟨i',e',hi',q1,_⟩:=pre hb N hNn;exact x3 (by rw[<- q1];simp)
      .have:N=n+nn:=by lia
       subst this;exact x3 (by rw[e8,<- hij];simp)
     .lia
   split
   .refine KE (E2 hk ?_ ?_)
    .intro y hy;obtain⟨e',he',rfl⟩:=OB.mp hy;have he2:e'∈es.toList:=by have:=(Array.mem_toList_iff).mp he';rw[Array.mem_filter]at this;exact Array.mem_toList_iff.mpr this.1
     obtain⟨ms',c',rfl,his'⟩:=el e' he2;exact⟨ms',c',rfl,his'⟩
    .simp only[OM,PL];exact rest
   .exact rest
end
noncomputable def byT (w:World):Bool:=w.params.followText "set-order"
def SetAt (w:World)(h:Heap)(a:Addr)(es:Array (Int×SI)):Prop:=∃ o ep t,h.get? a=some o/\o.ExactSet/\o.data=.set es ep t/\nw t es/\i8 t/\t.plain=true/\t.led=!byT w
theorem SetAt.keep (x:SetAt w h a es)(k:∀ o,h.get? a=some o->h'.get? a=some o):SetAt w h' a es:=let ⟨o,ep,t,e,r⟩:=x;⟨o,ep,t,k o e,r⟩
theorem gd (h:i8 t):t.place.size<=t.mask:=by unfold i8 at h;lia
section
structure kM (es es':Array (Int×SI)) (x:Int×SI):Prop where
 mem:∀ y,y∈es'.toList↔y=x\/y∈es.toList
 pw:∀ R:Int×SI->Int×SI->Prop,(∀ x y,R x y->R y x)->es.toList.Pairwise R->(∀ e∈es.toList,R e x)->es'.toList.Pairwise R
 size:es'.size=es.size+1
theorem oM (es:Array (Int×SI))(p:Nat)(x:Int×SI)(hp:p<=es.size):kM es (SetTable.insertAt es p x) x:=by
 have e:=ST.insertAt_toList es p x hp;refine⟨fun y=>?_,fun R sy pw hx=>?_,ST.insertAt_size es p x hp⟩
 .rw[e,OX,OC];constructor
  .grind
  .rintro (rfl|z)
   .exact .inr (.inl rfl)
   .rw[<- Qk p es.toList,OX]at z;exact z.elim .inl fun z=>.inr (.inr z)
 .rw[e,RX];rw[<- Qk p es.toList,RX]at pw;obtain⟨p1,p2,p3⟩:=pw;refine⟨p1,?_,?_⟩
  .rw[List.pairwise_cons]
   grind
  .grind
theorem kM.laid (g:kM es es1 x)(l:Laid m es1 es2 t):kM es es2 x:=⟨fun y=>(l.mem y).trans (g.mem y),fun R sy pw hx=>l.pw R sy (g.pw R sy pw hx),by rw[l.size,g.size]⟩
theorem iF {ep:Nat}{t:SetTable}(es':Array (Int×SI))(t':SetTable){h:Heap}(ho:h.get? a=some o)(hex:o.ExactSet)(hd:o.data=.set es ep t) :
 ∃ o',(h.update a (Obj.putSet es' t')).get? a=some o'/\o'.ExactSet/\o'.data=.set es' (ep+1) t':=by
 have:=Pq (Obj.putSet es' t') ho (by rw[putSet_of es' t' hd];rfl);rw[putSet_of es' t' hd]at this;exact⟨_,this,hex,rfl⟩
theorem l7 {t:SetTable}(h:sK t.mask)(h1:n*5<t.mask*3)(h2:(n+1)*5>=t.mask*3)(h3:n+1<=300):∃ m,SetTable.sizeAbove (SetTable.grown (n+1))=m+1/\sK m/\(n+1)*5<m*3:=by
 rcases h with e|e|e|e<;>rw[e]at h1 h2
 .have:n=4:=by lia
  subst this;exact⟨31,by decide,.inr (.inl rfl),by lia⟩
 .have:n=18:=by lia
  subst this;exact⟨127,by decide,.inr (.inr (.inl rfl)),by lia⟩
 .have:n=76:=by lia
  subst this;exact⟨511,by decide,.inr (.inr (.inr rfl)),by lia⟩
 .lia
theorem yQ {a:Addr}{o:Obj}{es:Array (Int×SI)}{Q:Unit->SF->Prop}(ho:s.heap.get? a=some o)(hex:o.ExactSet)(hd:o.data=.set es ep t)(hf:t.fits es.size=true)(hm:sK m)(hn:SetTable.sizeAbove n=m+1)(hl:es.size*5<m*3)(hpl:t.plain=true)(hle:t.led=!byT w)
 (h:∀ es' t',Laid m es es' t'->SetAt w (s.heap.update a (Obj.putSet es' t')) a es'->Q () { s with heap:=s.heap.update a (Obj.putSet es' t') }):wpAny (model prog w) A (setRelay a n) Q E s:=by
 have hmb:m<=511:=by rcases hm with rfl|rfl|rfl|rfl<;>lia
 unfold setRelay;refine KE (PF ho hd hf ?_);dsimp only;rw[OL (by rw[hn,OG];lia)];obtain⟨t',order,e,L,hlp,hp⟩:=Ca hm es (by lia) t.finger (t.movedTo m) t.led t.plain;have er:t.relaid (es.map (·.1)) n=some (t',order):=by unfold SetTable.relaid;rw[hn];exact e
 rw[er];show wpAny _ _ (do
  let r <- (do
   if (order.filterMap (es[·]?)).size != es.size then unsupported "internal:set-table-lost-an-element"
   pure (order.filterMap (es[·]?),t'):Sem (Array (Int×SI)×SetTable))
  storeSet a r.1 r.2) _ _ _
 refine KE ?_;rw[OL (by rw[L.size];simp)];refine Os ?_;refine RE ho hd ?_ (by show(order.filterMap (es[·]?)).size<=_;rw[L.size,OG];lia);obtain⟨o',g1,g2,g3⟩:=iF (order.filterMap (es[·]?)) t' ho hex hd;refine h _ t' L ⟨o',_,t',g1,g2,g3,L.qF,?_,by rw[hp];exact hpl,by rw[hlp];exact hle⟩;unfold i8;rw[L.qF.len,L.size,L.mask];exact hl
end
section
theorem yR (T:nw t es)(hs:t.place.size<=t.mask)(h:Int):∃ N,N<100000/\(it t.mask N (st t.mask h)).j∉t.place.toList:=by
 obtain⟨j,hj,hn⟩:=lW T.tb hs;obtain⟨N,h1,h2⟩:=DR T.tb.Ek hj (Va.st t.mask h);refine⟨N,?_,by rw[h2];exact hn⟩;have:t.mask<=511:=by rcases T.tb.Ek with e|e|e|e<;>rw[e]<;>lia
 unfold SetTable.turns at h1;lia
theorem E3 (hu:A.units<cLine)(hk:(tK prog w).is s.heap (iK ns) b)(hS:SetAt w s.heap a es)(el:L9 prog w s.heap es)(hz:es.size+1<=300)
 (h1:∀ tk,s.toks<=tk->(∃ e∈es.toList,∃ c,e.2=.ref c/\(tK prog w).is s.heap (iK ns) c)->Q false { s with toks:=tk })
 (h2:∀ tk h' es',s.toks<=tk->(∀ e∈es.toList,∀ c,e.2=.ref c->¬ (tK prog w).is s.heap (iK ns) c)->Heap.SameBut a s.heap h'->SetAt w h' a es'->kM es es' ((tK prog w).hash (iK ns),.ref b)->Q true { s with heap:=h',toks:=tk }) :
 wpAny (model prog w) A (setAdd a (.ref b)) Q E s:=by
 obtain⟨o,ep,t,ho,hex,hd,T,sp,hpl,hle⟩:=hS;have hf:=nw.fits T (gd sp);unfold setAdd;refine Pl ?_;refine KE ((tK prog w).pyHash hu hk ?_);have htk:s.toks<=s.toks+(tK prog w).draws (iK ns):=Nat.le_add_right _ _;generalize s.toks+(tK prog w).draws (iK ns)=tk at htk;unfold setAddHashed setAddHashedIn;refine Pl ?_;refine KE (PF (s:={ s with toks:=tk }) ho hd hf ?_);dsimp only;have hbs:byScan (.ref b) es=false:=by simp[byScan,Value.scannable]
 rw[hbs];simp only[OM,PL];unfold setSearch;obtain⟨N,n1,n2⟩:=yR T (gd sp) ((tK prog w).hash (iK ns));refine KE (oK (s:={ s with toks:=tk }) ho hd T (gd sp) hu hk el (fun hin=>?_) (fun hout j hj hjm hr=>?_) 100000 0 none rfl (fun k hk'=>by lia) ⟨N,OP _,by lia,n2⟩)
 .exact Os (h1 tk htk hin)
 .dsimp only;refine KE (PF (s:={ s with toks:=tk }) ho hd hf ?_);dsimp only;obtain⟨T',em,ez⟩:=tM T hj hjm (v:=Value.ref b) hr;have hpl':(t.put j).1.plain=true:=by rw[jx T.tb];exact hpl
  have hle':(t.put j).1.led=!byT w:=by rw[jx T.tb];exact hle
  rw[hpl'];simp only[QT];refine KE (EZ (s:={ s with toks:=tk }) hk ?_);simp only[QT];have hp:(t.put j).2<=es.size:=by rw[k9,<- T.len];exact(cN j T.tb.sG).1
  have g:=oM es (t.put j).2 ((tK prog w).hash (iK ns),Value.ref b) hp;refine KE (RE (s:={ s with toks:=tk }) ho hd ?_ (by rw[g.size,OG];lia));obtain⟨o1,q1,q2,q3⟩:=iF (SetTable.insertAt es (t.put j).2 ((tK prog w).hash (iK ns),Value.ref b)) (t.put j).1 ho hex hd;have sb:=Pc s.heap a (Obj.putSet (SetTable.insertAt es (t.put j).2 ((tK prog w).hash (iK ns),Value.ref b)) (t.put j).1);have fill:(t.put j).1.fill=es.size+1:=by unfold SetTable.fill;rw[T'.tb.Hb,ez,T.len];rfl
  by_cases hfull:(t.put j).1.tooFull=true
  .rw[hfull];simp only[Bool.not_false,Bool.and_self,QT];unfold SetTable.tooFull at hfull;rw[fill,em]at hfull;have hfull:(es.size+1)*5>=t.mask*3:=by simpa using hfull
   have sp':es.size*5<t.mask*3:=by rw[<- T.len];exact sp
   obtain⟨m,m1,m2,m3⟩:=l7 T.tb.Ek sp' hfull hz;have le':(t.put j).1.place.size<=(t.put j).1.mask:=by
    rw[ez,em];unfold i8 at sp;have:t.mask>=7:=by rcases T.tb.Ek with e|e|e|e<;>rw[e]<;>lia
    lia
   refine KE (yQ (s:={ s with heap:=s.heap.update a (Obj.putSet (SetTable.insertAt es (t.put j).2 ((tK prog w).hash (iK ns),Value.ref b)) (t.put j).1),toks:=tk }) q1 q2 q3 (nw.fits T' le') m2 m1 (by rw[g.size];exact m3) hpl' hle' fun es' t' L sa=>?_);exact Os (h2 tk _ es' htk hout (sb.trans (Pc _ a _)) sa (g.laid L))
  .have hfull:(t.put j).1.tooFull=false:=by simpa using hfull
   rw[hfull];simp only[RJ,OM,PL];refine Os (h2 tk _ _ htk hout sb ⟨o1,_,_,q1,q2,q3,T',?_,hpl',hle'⟩ g);unfold SetTable.tooFull at hfull;unfold i8;rw[fill]at hfull;rw[ez,T.len];simpa using hfull
end
noncomputable abbrev gf:=List Int×Addr
theorem yS (h:iK a=iK b):a=b:=by
 induction a generalizing b with
 |nil=>cases b with
  |nil=>rfl
  |cons _ _=>cases h
 |cons x a ih=>cases b with
  |nil=>cases h
  |cons y b=>grind
section
variable {κ μ:Type}{x:κ×μ}
structure dX (ent:κ×μ->Int×SI) (es:Array (Int×SI)) (xs:List (κ×μ)):Prop where
 el:∀ e∈es.toList,∃ x∈xs,e=ent x
 sz:es.size<=xs.length
 pw:es.toList.Pairwise fun e e'=>∀ x x',e=ent x->e'=ent x'->x∈xs->x'∈xs->x.1≠x'.1
 all:∀ x∈xs,∃ y∈xs,y.1=x.1/\ent y∈es.toList
def Bf (ent:κ×μ->Int×SI)(xs:List (κ×μ)):Prop:=∀ x∈xs,∀ y∈xs,ent x=ent y->x.1=y.1
theorem dX.wide (v:dX ent es xs)(un:Bf ent (xs++[x])):es.toList.Pairwise fun e e'=>∀ y y',e=ent y->e'=ent y'->y∈xs++[x]->y'∈xs++[x]->y.1≠y'.1:=by refine Qn (fun{a b} ha hb hab z z' e1 e2 m1 m2=>?_) v.pw;obtain⟨y,y1,rfl⟩:=v.el a ha;obtain⟨y',y1',rfl⟩:=v.el b hb;rw[un z m1 y (O5 _ y1) e1.symm,un z' m2 y' (O5 _ y1') e2.symm];exact hab y y' rfl rfl y1 y1'
theorem dX.seen (v:dX ent es xs)(hin:∃ y∈xs,y.1=x.1)(un:Bf ent (xs++[x])):dX ent es (xs++[x]):=by
 refine⟨fun e he=>?_,?_,v.wide un,fun y hy=>?_⟩
 .obtain⟨z,h1,h2⟩:=v.el e he;exact⟨z,O5 _ h1,h2⟩
 .have:=v.sz;simp;lia
 .obtain⟨y',h1,h2⟩ : ∃ z∈xs,z.1=y.1:=by
   rcases OX.mp hy with hy|hy
   .exact⟨y,hy,rfl⟩
   .rw[OI]at hy;subst hy;exact hin
  obtain⟨z,g1,g2,g3⟩:=v.all y' h1;exact⟨z,O5 _ g1,g2.trans h2,g3⟩
theorem dX.new (v:dX ent es xs)(hin:¬ ∃ y∈xs,y.1=x.1)(un:Bf ent (xs++[x]))(g:kM es es' (ent x)):dX ent es' (xs++[x]):=by
 have hx:x∈xs++[x]:=O0 _ (OI.mpr rfl);refine⟨fun e he=>?_,?_,?_,fun y hy=>?_⟩
 .rcases (g.mem e).mp he with rfl|he
  .exact⟨x,hx,rfl⟩
  .obtain⟨z,h1,h2⟩:=v.el e he;exact⟨z,O5 _ h1,h2⟩
 .have:=v.sz;rw[g.size];simp;lia
 .refine g.pw _ (fun a b hab z z' e1 e2 m1 m2 h=>hab z' z e2 e1 m2 m1 h.symm) (v.wide un) fun e he z z' e1 e2 m1 m2 h=>?_;obtain⟨y,y1,rfl⟩:=v.el e he;exact hin ⟨y,y1,(un z m1 y (O5 _ y1) e1.symm).symm.trans (h.trans (un z' m2 x hx e2.symm))⟩
 .rcases OX.mp hy with hy|hy
  .obtain⟨z,h1,h2,h3⟩:=v.all y hy;exact⟨z,O5 _ h1,h2,(g.mem _).mpr (.inr h3)⟩
  .rw[OI]at hy;subst hy;exact⟨y,hx,rfl,(g.mem _).mpr (.inl rfl)⟩
end
section
variable {κ μ:Type}
def uW (prog:SH)(w:World)(A:SJ)(hb:Heap)(S:Addr)(ent:κ×μ->Int×SI)(its:List (κ×μ)):Prop:=∀(x:κ×μ)(xs:List (κ×μ))(s:SF)(es:Array (Int×SI))(Q:Bool->SF->Prop)(E:SI->SF->Prop),x∈its->(∀ y∈xs,y∈its)->(∀ b o,hb.get? b=some o->s.heap.get? b=some o)->SetAt w s.heap S es->dX ent es xs->es.size+1<=300->
 (∀ tk,s.toks<=tk->(∃ y∈xs,y.1=x.1)->Q false { s with toks:=tk })->(∀ tk h' es',s.toks<=tk->(¬ ∃ y∈xs,y.1=x.1)->Heap.SameBut S s.heap h'->SetAt w h' S es'->kM es es' (ent x)->Q true { s with heap:=h',toks:=tk })->wpAny (model prog w) A (setAdd S (ent x).2) Q E s
variable {St:Nat->SF->Prop}
theorem j9 (W:WalksS prog w A.in1 I fp wr G n P St)(S:Addr)(hSf:S∉fp)(hb:Heap)(hbS:hb.get? S=none)(hbw:∀ b∈wr,hb.get? b=none)(its:List (κ×μ))(hn:its.length=n)
 (hval:∀ i v,P i v->∃ x,its[i]?=some x/\v=(ent x).2) (un:Bf ent its) (add:uW prog w A.in1 hb S ent its) (hz:n<=300) :
 ∀(k i:Nat)(s:SF)(es:Array (Int×SI)),n-i=k->i<=n->St i s->(∀ b o,hb.get? b=some o->s.heap.get? b=some o)->SetAt w s.heap S es->dX ent es (its.take i)->
  (∀ s' es',Moved (S::wr) G s s'->SetAt w s'.heap S es'->dX ent es' its->R (.ok (.ret .none)) s')->
  codeAny (model prog w) A (.builtin "set.update.loop" ⟨[.ref S,.ref I],[]⟩) R s:=by
 have hSw:S∉wr:=fun h=>hSf (W.sub _ h);have hsub:∀ b∈wr,b∈S::wr:=fun b hb=>Ow _ hb;intro k;induction k with
 |zero=>
  intro i s es hk hi hst K hS v hR;have hin:i=n:=by lia
  subst hin;refine P8 Q9 ?_;rw[Qo PQ _];show wpAny _ A.in1 (pyNext (.ref I) >>= _) _ _ s;refine KE (W.done s _ _ hst fun s' hm=>?_);rw[Pe (by lia)]at v;have hR':=hR s' es (hm.mono hsub) (hS.keep fun o e=>hm.heap S o hSw e) v;show wpAny _ A.in1 (ret Value.none) _ _ s';exact Os hR'
 |succ k ih=>
  intro i s es hk hi hst K hS v hR;have hlt:i<n:=by lia
  refine P8 Q9 ?_;rw[Qo PQ _];show wpAny _ A.in1 (pyNext (.ref I) >>= _) _ _ s;refine KE (W.item i s _ _ hlt hst fun u s' hP hst' hm=>?_);obtain⟨x,hx,rfl⟩:=hval i u hP;have htk:its.take (i+1)=its.take i++[x]:=by rw[Pi,hx];rfl
  have un':Bf ent (its.take i++[x]):=by rw[<- htk];exact fun y hy z hz=>un y (P9 hy) z (P9 hz)
  have K':∀ b o,hb.get? b=some o->s'.heap.get? b=some o:=fun b o e=>hm.heap b o (fun z=>by rw[hbw b z]at e;cases e) (K b o e);have hS':=hS.keep fun o e=>hm.heap S o hSw e;have hes:es.size+1<=300:=by have:=v.sz;rw[Py]at this;lia
  show wpAny _ A.in1 (holding [(ent x).2] (setAdd S (ent x).2) >>= _) _ _ s';refine KE (Pl (add x (its.take i) s' es _ _ (OU hx) (fun y hy=>P9 hy) K' hS' v hes (fun tk htk' hin=>?_) fun tk h' es' htk' hnin hsb hSn g=>?_))
  .refine Os ⟨QL PQ _,ih (i+1) _ es (by lia) hlt (W.frame _ s' _ _ hst' htk' fun b hb o e=>e) K' hS' (by rw[htk];exact v.seen hin un') fun s'' es'' hm'' hS'' v''=>?_⟩;exact hR s'' es'' (Su W.gtrans ((hm.mono hsub).then_heap htk' fun b o hb e=>e) hm'') hS'' v''
  .have K2:∀ b o,hb.get? b=some o->h'.get? b=some o:=fun b o e=>(hsb.2 b (fun z=>by rw[z,hbS]at e;cases e)).trans (K' b o e);refine Os ⟨QL PQ _,ih (i+1) _ es' (by lia) hlt (W.frame _ s' _ _ hst' htk' fun b hb o e=>?_) K2 hSn (by rw[htk];exact v.new hnin un' g) fun s'' es'' hm'' hS'' v''=>?_⟩
   .rw[hsb.2 b (fun h:b=S=>hSf (h▸hb))];exact e
   .refine hR s'' es'' (Su W.gtrans ((hm.mono hsub).then_heap htk' fun b o hb e=>?_) hm'') hS'' v'';rw[hsb.2 b (fun h:b=S=>hb (h▸Ox))];exact e
abbrev eT (prog:SH)(w:World)(x:gf):Int×SI:=((tK prog w).hash (iK x.1),Value.ref x.2)
theorem E4 (his:∀ x∈its,(tK prog w).is hb (iK x.1) x.2):Bf (eT prog w) its:=fun x hx y hy e=>yS ((tK prog w).inj (his x hx) (by
 have e:x.2=y.2:=by injection e with _ e;injection e
 rw[e];exact his y hy))
theorem Ce (hu:A.units<cLine)(his:∀ x∈its,(tK prog w).is hb (iK x.1) x.2):uW prog w A hb S (eT prog w) its:=fun x xs s es Q E hx hs K hS v hz h1 h2=>by
 have hx':∀ y∈xs,(tK prog w).is s.heap (iK y.1) y.2:=fun y hy=>kZ (his y (hs y hy)) K;refine E3 hu (kZ (his x hx) K) hS (fun e he=>?_) hz (fun tk t hin=>h1 tk t ?_) fun tk h' es' t hout sb sa g=>h2 tk h' es' t (fun hin=>?_) sb sa g
 .obtain⟨y,hy,rfl⟩:=v.el e he;exact⟨_,_,rfl,hx' y hy⟩
 .obtain⟨e,he,c,hc,hh⟩:=hin;obtain⟨y,y1,rfl⟩:=v.el e he;injection hc with hc;subst hc;exact⟨y,y1,yS ((tK prog w).inj (hx' y y1) hh)⟩
 .obtain⟨y,y1,y2⟩:=hin;obtain⟨z,z1,z2,z3⟩:=v.all y y1;exact hout _ z3 z.2 rfl (by rw[<- y2,<- z2];exact hx' z z1)
end
noncomputable abbrev setNew (led:Bool):Obj:={ cls:=.type "set",dict:=none,data:=.set #[] 0 (.fresh 0 0 led) }
theorem wb (e:h.get? a=some (setNew (!byT w))):SetAt w h a #[]:=by refine⟨_,0,_,e,⟨rfl,rfl,rfl⟩,rfl,⟨⟨.inl rfl,rfl,List.Pairwise.nil,fun j hj=>nomatch hj⟩,rfl,fun q hq=>nomatch hq⟩,?_,rfl,rfl⟩;show 0*5<7*3;decide
section
theorem nP (a:SI)(h:Q₁ (.ref s.heap.objs.size) { s with heap:=s.heap.push (setNew (!byT w)) }) :
 codeAny (model prog w) A (.call (.builtin "set.__new__") ⟨[.type "set",a],[]⟩) (wants Q₁ E) s:=by
 refine codeAny_of_tree (show wpAny _ A.in1 (do checkBuiltinCall "set.__new__" ⟨[.type "set",a],[]⟩;again (.builtin "set.__new__" ⟨[.type "set",a],[]⟩)) _ _ s from ?_);refine KE (Ss (PySem.F.newCall_set_1 a) (Os ⟨QL PySem.F.plain_set_new _,P8 PySem.F.entry_set_new ?_⟩));rw[Qo PySem.F.plain_set_new _];unfold Builtin.«set.__new__» Builtin.Frozenset.newClass;have hsub:=sub_set_self;obtain⟨hp,g,d,tk,os⟩:=s;dsimp only;wp_walk;refine wpAny_askSetting (Os ?_);dsimp only;simp only[newObj];refine KE (wpAny_alloc (Os ?_));exact Os h
theorem oN {κ μ:Type} {ent:κ×μ->Int×SI} {l:Addr} {items:Array SI} {nl:Nat} {its:List (κ×μ)} {Q:SI->SF->Prop} (hh:A.handled=none) (hl:s.heap.get? l=some { cls:=.type "list",data:=.seq items nl }) (hn:its.length=items.size) (hz:items.size<=300)
 (hval:∀(i:Nat)(v:SI),items[i]?=some v->∃ x,its[i]?=some x/\v=(ent x).2) (un:Bf ent its) (add:uW prog w A.in1.in1.in1 s.heap s.heap.objs.size ent its)
 (h:∀(h':Heap)(tk:Nat)(es:Array (Int×SI)),SetAt w h' s.heap.objs.size es->dX ent es its->(∀ b o,b<s.heap.objs.size->s.heap.get? b=some o->h'.get? b=some o)->Q (.ref s.heap.objs.size) { s with heap:=h',toks:=tk }) :
 wpAny (model prog w) A (call (.type "set") [.ref l]) Q E s:=by
 obtain⟨c,tl,hmro⟩:=PySem.F.called_set.mro;have hmade:=PySem.F.called_set.made;have hsub:=PySem.F.called_set.sub;refine Sj (codeAny_of_tree ?_);show wpAny _ _ (callAny (.type "set") _) _ _ _;refine Os ⟨Code.quiet_builtin _ (by decide +kernel),P8 PySem.F.entry_type_call ?_⟩;rw[Around.under_plain (weight_type_call_type "set" [.ref l] []) rfl];have h1:=PySem.F.called_set.notType;have h2:=PySem.F.called_set.canCreate;have hct:=PySem.F.typeCall_set_1 (.ref l)
 repeat (any_goals (first|assumption|wp_step))
 refine Rj (nP (.ref l) (E:=E) (Q₁:=fun obj s₁=>obj=.ref s.heap.objs.size/\s₁={ s with heap:=s.heap.push (setNew (!byT w)) }) ⟨rfl,rfl⟩) fun r s₁ hr=>?_;rcases r with e|fl
 .exact hr
 cases fl with
 |ret obj=>
  obtain⟨rfl,rfl⟩:=hr;have hS:(s.heap.push (setNew (!byT w))).get? s.heap.objs.size=some (setNew (!byT w)):=Oz _ rfl;have hT:Shared.TypeIs { s with heap:=s.heap.push (setNew (!byT w)) } (.ref s.heap.objs.size) "set":=⟨_,hS,rfl⟩;have hli:=PySem.F.called_set.init.lookup;have hbi:=PySem.F.called_set.init.bind (.ref s.heap.objs.size)
  repeat (any_goals (first|assumption|wp_step))
  refine Rj (RW (R:=wants (fun r s₂=>r=.none/\∃ h' tk es,s₂={ s with heap:=h',toks:=tk }/\SetAt w h' s.heap.objs.size es/\dX ent es its/\
   (∀ b o,b<s.heap.objs.size->s.heap.get? b=some o->h'.get? b=some o)) E) PySem.F.called_set.init.plain PySem.F.entry_set_init (check_set_init_1 hT ?_)) fun r₂ s₂ hr₂=>?_
  .have hol':(s.heap.push (setNew (!byT w))).get? l=some { cls:=.type "list",data:=.seq items nl }:=Oo _ hl;have hsls:=PySem.F.sub_list_set;have hslf:=PySem.F.sub_list_frozenset;have hne:(Value.type "list"==Value.type "dict")=false:=by decide
   have hl1:(s.heap.push (setNew (!byT w))).IsList l items:=⟨_,hol',rfl,nl,rfl⟩;unfold Builtin.«set.__init__» noKeywords Builtin.Frozenset.updateFrom;generalize hPI:pyIter=PI
   wp_walk
   subst hPI;refine RB hl1 (KE (wpAny_runValue ?_));have hlS:l<s.heap.objs.size:=Oy hl;have hh3:A.in1.in1.in1.handled=none:=by simp[hh]
   have hneI:l≠(s.heap.push (setNew (!byT w))).objs.size:=by rw[QC];exact OQ (QG hlS)
   have hno:∀ b,s.heap.objs.size<=b->s.heap.get? b=none:=fun b hb=>by
    cases q:s.heap.get? b with
    |none=>rfl
    |some o=>exact absurd (Oy q) (Nat.not_lt.mpr hb)
   refine j9 ((Walks.list hh3 _ l hneI items).toS) s.heap.objs.size ?hSf s.heap (hno _ (Oq _)) ?hbw its hn hval un add hz (items.size-0) 0 _ #[] rfl (OP _) ⟨⟨_,Oz _ rfl,rfl,rfl⟩,(hl1.push _)⟩
    (fun b o e=>Oo _ (Oo _ e)) (wb (Oo _ hS)) ⟨fun e he=>(nomatch he),OP _,List.Pairwise.nil,fun x hx=>(nomatch hx)⟩ ?hR
   case hSf=>rw[QC];simp only[OC,OH,Sv,not_or];exact⟨OQ (P_ _),Rg hlS⟩
   case hbw=>intro b hb;simp only[OC,OH,Sv]at hb;subst hb;exact hno _ (by rw[QC];lia)
   case hR=>intro s' es hm hS' v;obtain⟨h',g',d',tk',os'⟩:=s';have eg:g'=s.gens:=hm.gens;have ed:d'=s.drawn:=hm.drawn;have eo:os'=s.os:=hm.os;subst eg ed eo;refine Os (Os ⟨rfl,h',tk',es,rfl,hS',v,fun b o hb e=>hm.heap b o ?_ (Oo _ (Oo _ e))⟩);simp only[OC,OH,Sv,not_or];exact⟨OQ hb,by rw[QC];exact OQ (QG hb)⟩
  .rcases r₂ with e|fl₂
   .exact hr₂
   cases fl₂ with
   |ret r=>
    obtain⟨rfl,h',tk,es,rfl,hS',v,hk'⟩:=hr₂
    repeat (any_goals (first|assumption|wp_step))
    exact h _ _ _ hS' v hk'
   |_=>exact hr₂.elim
 |_=>exact hr.elim
end
theorem l9 {α:Type}:∀(l:List α)(i:Nat)(h:i<l.length),(l[i]::l.eraseIdx i).Perm l
 | [],i,h=>by simp at h
 |x::l,0,h=>Qq _
 |x::l,i+1,h=>by have ih:=l9 l i (by simpa using h);have e:(x::l).eraseIdx (i+1)=x::l.eraseIdx i:=rfl;rw[e,List.getElem_cons_succ];exact(List.Perm.swap _ _ _).trans (List.Perm.cons x ih)
theorem uX {α:Type}(next:Nat->Nat):∀(fuel k:Nat)(left:List α)(out:Array α),left.length=fuel->(pickOrder.go next fuel k left out).toList.Perm (out.toList++left)
 |0,k,left,out,h=>by have:left=[]:=Pn.mp h;subst this;unfold pickOrder.go;simp
 |f+1,k,left,out,h=>by have hi:next k % left.length<left.length:=SD _ (by lia);unfold pickOrder.go;rw[Ou hi];dsimp only;have ih:=uX next f (k+1) (left.eraseIdx (next k % left.length)) (out.push left[next k % left.length]) (by rw[List.length_eraseIdx,OK hi];lia);refine ih.trans ?_;rw[Array.toList_push,Q1];exact List.Perm.append_left _ (l9 left _ hi)
theorem wc {α:Type}(next:Nat->Nat)(xs:Array α):(pickOrder next xs).toList.Perm xs.toList:=by have:=uX next xs.size 0 xs.toList #[] (by simp);unfold pickOrder;simpa using this
def hI (w:World)(S:Addr)(ep:Nat)(es:Array (Int×SI)):Array (Int×SI):=if byT w then pickOrder (w.params.setOrder S ep) es else es
theorem rC (w:World)(S:Addr)(ep:Nat)(es:Array (Int×SI)):(hI w S ep es).toList.Perm es.toList:=by
 unfold hI;split
 .exact wc _ _
 .exact Qq _
theorem jy (w:World)(S:Addr)(ep:Nat)(es:Array (Int×SI)):(hI w S ep es).size=es.size:=by have:=(rC w S ep es).length_eq;simpa using this
def cO (w:World)(t:SetTable):Nat->Nat
 |0=>0
 |i+1=>if byT w then 0 else t.place.getD i 0+1
theorem tQ (T:Tb t):∀(i:Nat),i<=t.place.size->SetTable.below t.place (match i with|0=>0|i+1=>t.place.getD i 0+1)=i
 |0,_=>by
  obtain⟨a,b,c⟩:=cN 0 T.sG;dsimp only;rcases Nat.eq_zero_or_pos (SetTable.below t.place 0) with h|h
  .exact h
  .have:=b 0 (by lia) h;lia
 |i+1,hi=>by
  dsimp only;have e:t.place.getD i 0=t.place[i]:=by simp[Array.getD,show i<t.place.size by lia]
  rw[e];obtain⟨a,b,c⟩:=cN (t.place[i]+1) T.sG;rcases RD (SetTable.below t.place (t.place[i]+1)) (i+1) with q|q|q
  .have h1:=c i (by lia) (by lia);lia
  .exact q
  .have h1:=b (i+1) (by lia) q;have h2:=OT.mp T.sG i (i+1) (by simp;lia) (by simp;lia) (by lia);simp at h2;lia
theorem slot_setiter_next:Slot "set_iterator" "__next__" "set_iterator.__next__":=.of (owner:="set_iterator") (n:="__next__") (by rw[typeLookup_type,builtinLookup_eq_fast];kernel_rfl) (by decide +kernel) (by decide +kernel) (by decide +kernel) (by first|exact .inl (by decide +kernel)|exact .inr (by decide +kernel)) (by rw[isSubtype_type];kernel_rfl)
theorem e_:entryFor table "set_iterator.__next__"=some Builtin.«set_iterator.__next__»:=entryFor_of_fast (by kernel_rfl)
theorem fD (a:SI):argsOk "set_iterator.__next__" ⟨[a],[]⟩:=by (unfold argsOk;kernel_rfl)
theorem nQ:entryFor table "set.__iter__"=some Builtin.«frozenset.__iter__»:=entryFor_alias (id':="frozenset.__iter__") (by kernel_rfl) rfl (by decide +kernel) (by kernel_rfl)
def SetIt (h:Heap) (it S:Addr) (slot i n ep:Nat):Prop:=∃ o,h.get? it=some o/\o.cls=.type "set_iterator"/\o.data=.fields #[.int slot 0,.int i 0,.ref S,.int n 0,.int ep 0]
theorem SetIt.typeIs {s:SF} {it S:Addr} {slot i n ep:Nat} (x:SetIt s.heap it S slot i n ep):s.TypeIs (.ref it) "set_iterator":=let ⟨o,ho,hc,_⟩:=x;⟨o,ho,hc⟩
def j_ (h:Heap)(S:Addr)(es:Array (Int×SI))(ep:Nat)(t:SetTable):Prop:=∃ o,h.get? S=some o/\o.ExactSet/\o.data=.set es ep t
section
theorem tR (h:Q (byT w) s):wpAny (model prog w) A setsByText Q E s:=by unfold setsByText;exact KE (wpAny_askSetting (Os h))
theorem l_ (r:j_ s.heap S es ep t)(T:nw t es)(hs:t.place.size<=t.mask)(hpl:t.plain=true)(hle:t.led=!byT w)(hi:i<=es.size)
 (h:Q (((hI w S ep es)[i]?).map fun e=>(e.2,cO w t (i+1))) s):wpAny (model prog w) A (setNext S (cO w t i) i ep) Q E s:=by
 obtain⟨o,ho,hex,hd⟩:=r;have hf:=nw.fits T hs;unfold setNext;refine KE (PF ho hd hf ?_);dsimp only;refine KE (tR ?_);cases hb:byT w with
 |true=>
  simp only[QT];rw[OL (by simp)];refine KE ?_;unfold setWalk;refine KE (PF ho hd hf ?_);dsimp only;refine KE (tR ?_);rw[hb];simp only[QT];refine KE (wpAny_askSetting (Os ?_));have e1:cO w t (i+1)=0:=by unfold cO;rw[hb];rfl
  have e2:cO w t i=0:=by cases i with|zero=>rfl|succ i=>(unfold cO;rw[hb];rfl)
  rw[e2];rw[e1]at h;unfold hI at h;rw[hb]at h;exact Os h
 |false=>
  simp only[OM,PL];rw[hb]at hle;have hle:t.led=true:=hle;show wpAny _ _ (if (!t.plain&&decide (es.size>1))=true then _ else _) _ _ _;rw[hpl];simp only[Qp,RI,OM,PL];show wpAny _ _ ((if (!t.led&&!es.isEmpty)=true then unsupported "set:maker-not-led" else pure ()) >>= fun _=>_) _ _ _;rw[hle];simp only[Qp,RI,OM,PL];refine KE (Os ?_);have e1:SetTable.below t.place (cO w t i)=i:=by
   have:=tQ T.tb i (by rw[T.len];exact hi);cases i with
   |zero=>exact this
   |succ i=>unfold cO;rw[hb];exact this
  have eo:hI w S ep es=es:=by unfold hI;rw[hb];rfl
  rw[eo]at h;rw[e1];by_cases hlt:i<es.size
  .have g1:es[i]?=some es[i]:=by simp[hlt]
   have hp:i<t.place.size:=by rw[T.len];exact hlt
   have g2:t.place[i]?=some t.place[i]:=by simp[hp]
   rw[g1]at h;rw[g1,g2];have e2:cO w t (i+1)=t.place[i]+1:=by unfold cO;rw[hb];simp[Array.getD,hp]
   rw[e2]at h;exact Os h
  .have g1:es[i]?=none:=by simp;lia
   rw[g1]at h;rw[g1];exact Os h
end
theorem fE:Slot "set_iterator" "__iter__" "set_iterator.__iter__":=.of (owner:="set_iterator") (n:="__iter__") (by rw[typeLookup_type,builtinLookup_eq_fast];kernel_rfl) (by decide +kernel) (by decide +kernel) (by decide +kernel) (by first|exact .inl (by decide +kernel)|exact .inr (by decide +kernel)) (by rw[isSubtype_type];kernel_rfl)
theorem jc:entryFor table "set_iterator.__iter__"=some Builtin.«dict_keyiterator.__iter__»:=entryFor_alias (id':="dict_keyiterator.__iter__") (by kernel_rfl) rfl (by decide +kernel) (by kernel_rfl)
theorem jz (a:SI):argsOk "set_iterator.__iter__" ⟨[a],[]⟩:=by (unfold argsOk;kernel_rfl)
section
theorem oO {it S:Addr}{slot i n ep:Nat}{P:PySem.Fin->SF->Prop}{F:SI->SF->Prop}(ho:s.heap.get? it=some o)(hd:o.data=.fields #[.int slot 0,.int i 0,.ref S,.int n 0,.int ep 0])
 (r:j_ s.heap S es ep t) (hf:t.fits es.size=true) (hn:n=es.size)
 (h:wpAny (model prog w) A (setNext S slot i ep) (fun m s'=>match m with
   |some (x,next)=>wpAny (model prog w) A (do setField (.ref it) 0 (rawInt next);setField (.ref it) 1 (rawInt (i+1));ret x) P F s'
   |none=>wpAny (model prog w) A (do setField (.ref it) 2 .none;raiseNew (<- newExc (.type "StopIteration") [])) P F s') F s) :
 wpAny (model prog w) A (Builtin.«set_iterator.__next__» ⟨[.ref it],[]⟩) P F s:=by
 obtain⟨os,hos,hex,hds⟩:=r;unfold Builtin.«set_iterator.__next__» slotArgs;simp only[List.isEmpty_nil,Qp,OM,PL,P7,RF];refine KE (Os ?_);refine KE (wpAny_fieldsOf ho hd ?_);dsimp only;refine KE ?_;unfold setEntries;refine KE (PF hos hds hf (Os ?_));dsimp only;rw[OL (by rw[hn];simp)];simp only[RC];refine KE (Ps h (fun m s' hm=>?_) fun _ _ e=>e);cases m with
 |none=>exact hm
 |some p=>obtain⟨x,next⟩:=p;exact hm
theorem nR {it S:Addr}(hne:S≠it)(hh:A.handled=none){es:Array (Int×SI)}{ep:Nat}{t:SetTable}(T:nw t es)(hs:t.place.size<=t.mask)(hpl:t.plain=true)(hle:t.led=!byT w) :
 Walks prog w A it [it,S] [it] es.size (fun i v=>((hI w S ep es)[i]?).map (·.2)=some v) (fun i h=>SetIt h it S (cO w t i) i es.size ep/\j_ h S es ep t) where
 sub:=fun b hb=>by simp at hb;simp[hb]
 frame:=fun i h h' st hk=>by obtain⟨⟨o,h1,r1⟩,⟨o2,h2,r2⟩⟩:=st;exact⟨⟨o,hk it (by simp) o h1,r1⟩,⟨o2,hk S (by simp) o2 h2,r2⟩⟩
 item:=fun i s Q E hi st hQ=>by
  obtain⟨x1,x2⟩:=st;have hT:=x1.typeIs;obtain⟨o,ho,hc,hd⟩:=x1;have x2':=x2;obtain⟨o2,ho2,hex2,hd2⟩:=x2;unfold pyNext;refine KE (Rr (QM (name:=Str.ofString "__next__") hT slot_setiter_next (PB slot_setiter_next hT e_ ?_ (fD _))));refine oO ho hd x2' (nw.fits T hs) rfl (l_ x2' T hs hpl hle (by lia) ?_);have hio:i<(hI w S ep es).size:=by rw[jy];exact hi
  have e1:(hI w S ep es)[i]?=some (hI w S ep es)[i]:=by simp[hio]
  rw[e1];show wpAny _ _ _ _ _ _;refine KE (Sf ho hd (by simp) ?_);have d1:=Obj.data_mapFields hd (·.setIfInBounds 0 (rawInt ((cO w t (i+1):Nat):Int)));have ho1:=Pq (Obj.mapFields (·.setIfInBounds 0 (rawInt ((cO w t (i+1):Nat):Int)))) ho (Obj.isFreed_of_fields d1);refine KE (Sf (s:={ s with heap:=_ }) ho1 d1 (by simp) ?_);have d2:=Obj.data_mapFields d1 (·.setIfInBounds 1 (rawInt ((i:Int)+1)));have ho3:=Pq (Obj.mapFields (·.setIfInBounds 1 (rawInt ((i:Int)+1)))) ho1 (Obj.isFreed_of_fields d2);have sb:=(Pc s.heap it (Obj.mapFields (·.setIfInBounds 0 (rawInt ((cO w t (i+1):Nat):Int))))).trans (Pc _ it (Obj.mapFields (·.setIfInBounds 1 (rawInt ((i:Int)+1)))));refine Os ⟨_,rfl,Os ?_⟩;refine hQ _ _ s.toks (by rw[e1];rfl) ⟨⟨_,ho3,?_,?_⟩,o2,(sb.2 S hne).trans ho2,hex2,hd2⟩ (fun b o hb e=>(sb.2 b (fun z=>hb (by simp[z]))).trans e)
  .exact(Obj.cls_mapFields ..).trans ((Obj.cls_mapFields ..).trans hc)
  .rw[d2];simp[rawInt]
 done:=fun s Q E st hQ=>by
  obtain⟨x1,x2⟩:=st;have hT:=x1.typeIs;obtain⟨o,ho,hc,hd⟩:=x1;unfold pyNext;refine KE (Rr (QM (name:=Str.ofString "__next__") hT slot_setiter_next (PB slot_setiter_next hT e_ ?_ (fD _))));refine oO ho hd x2 (nw.fits T hs) rfl (l_ x2 T hs hpl hle (Oq _) ?_);have e1:(hI w S ep es)[es.size]?=none:=by simp[jy]
  rw[e1];show wpAny _ _ _ _ _ _;refine KE (Sf ho hd (by simp) ?_);refine KE ?_;simp only[newExc,newTuple];refine KE (PY ?_ (by size_fits));refine KE (m:=firstArgMember _ _) (Ss (a:=Value.none) (by first|rfl|(simp only[firstArgMember];rfl)) ?_);refine PY ?_ (by size_fits);simp only[raiseNew];refine KE (wpAny_handled ?_);rw[show A.in1.handled=none from hh];refine KE (Os (wpAny_throw ?_));refine KE (wpAny_isInstance (T:="StopIteration") (b:=true) ⟨_,Oz _ rfl,rfl⟩ isSubtype_stop ?_);refine Os (hQ _ s.toks fun b o hb e=>?_);exact Oo _ (Oo _ (((Pc ..).2 b (fun z=>hb (by simp[z]))).trans e))
 self:=fun _ _ _ _ st hQ=>by refine RG st.1.typeIs fE (PB fE st.1.typeIs jc ?_ (jz _));exact Os ⟨_,rfl, "set_iterator",_,st.1.typeIs,slot_setiter_next.lookup,hQ⟩
end
section
theorem tS (r:j_ s.heap S es ep t)(hf:t.fits es.size=true)(hpl:t.plain=true)
 (h:Q (.ref s.heap.objs.size) { s with heap:=s.heap.push { cls:=.type "set_iterator",data:=.fields #[.int 0 0,.int 0 0,.ref S,.int es.size 0,.int ep 0] } }):wpAny (model prog w) A (pyIter (.ref S)) Q E s:=by
 obtain⟨o,ho,hex,hd⟩:=r;have hT:s.TypeIs (.ref S) "set":=⟨o,ho,hex.1⟩;refine RG hT PySem.F.slot_set_iter (PB PySem.F.slot_set_iter hT nQ ?_ (PySem.F.args_set_iter_1 _));unfold Builtin.«frozenset.__iter__» Builtin.Frozenset.slot0 slotArgs;simp only[List.isEmpty_nil,Qp,OM,↓reduceIte,bind_assoc,P7,RF];unfold Builtin.Frozenset.addrOf Builtin.Frozenset.sizeOf setEntries;refine KE (Os (KE (Os ?_)));simp only[bind_assoc];refine KE (PF ho hd hf (KE (Os (KE (Os ?_)))));refine KE ?_;unfold setDrawn;refine KE (PF ho hd hf ?_);dsimp only;refine KE (tR (Os ?_));show wpAny _ _ (if (!byT w&&(!t.plain&&decide (es.size>1)))=true then _ else _) _ _ _;rw[hpl];simp only[Qp,RI,RJ,OM,PL];refine KE (Os ?_);refine KE (wpAny_setEpoch_of ho hd hf ?_);exact KE (PY (Os ⟨_,rfl, "set_iterator",_,⟨_,Oz _ rfl,rfl⟩,slot_setiter_next.lookup,h⟩))
theorem yT (hT:s.TypeIs (.ref S) "set") (h:Q false s):wpAny (model prog w) A (Builtin.List.listLengthHint (.ref S)) Q E s:=by
 unfold Builtin.List.listLengthHint;refine KE (wpAny_specialOf hT PySem.F.slot_set_len.lookup ?_);dsimp only;have hsp:splitId "set.__len__"=some ("set", "__len__"):=by decide +kernel
 rw[hsp];dsimp only;refine KE (wpAny_isInstance hT sub_set_self ?_);simp only[Qp,OM,PL];rw[OK (by decide +kernel)];refine KE (wpAny_typeOf hT ?_);exact Os h
theorem rD (r:j_ s.heap S es ep t)(T:nw t es)(hs:t.place.size<=t.mask)(hpl:t.plain=true)(hle:t.led=!byT w)(hh:A.handled=none)(hz:es.size<=300)
 (h:∀ h' tk,s.heap.objs.size<h'.objs.size->(∀ b o,s.heap.get? b=some o->h'.get? b=some o)->Q ((hI w S ep es).toList.map (·.2)) { s with heap:=h',toks:=tk }):wpAny (model prog w) A (collect (.ref S)) Q E s:=by
 have hf:=nw.fits T hs;obtain⟨o,ho,hex,hd⟩:=r;have hlt:S<s.heap.objs.size:=Oy ho;unfold collect;refine KE (wpAny_runValue (P8 entry_proto_collect' (show wpAny _ _ (do again (.builtin "list.__iadd__" ⟨[<- newList [],.ref S],[]⟩)) _ _ s from ?_)));refine KE (wpAny_newList (Os ⟨Code.quiet_builtin _ (by decide +kernel),P8 entry_list_iadd' ?_⟩));show wpAny _ _ (Builtin.List.listExtendWith (.ref s.heap.objs.size) (.ref S) (.ref s.heap.objs.size)) _ _ { s with heap:=s.heap.push (seqObj "list" #[] 0) };have ho1:(s.heap.push (seqObj "list" #[] 0)).get? S=some o:=Oo _ ho;have hT1:Shared.TypeIs { s with heap:=s.heap.push (seqObj "list" #[] 0) } (.ref S) "set":=⟨o,ho1,hex.1⟩;unfold Builtin.List.listExtendWith;refine KE (wpAny_typeOf hT1 ?_);have q1:Builtin.List.listSameRef (.ref s.heap.objs.size) (.ref S)=false:=by simp[Builtin.List.listSameRef,Rg hlt]
 have q2:(Value.type "set"==Value.type "list")=false:=by decide
 have q3:(Value.type "set"==Value.type "tuple")=false:=by decide
 simp only[q1,q2,q3,Bool.or_false,OM,PL];refine KE (tS ⟨o,ho1,hex,hd⟩ hf hpl ?_);have hT2:Shared.TypeIs { s with heap:=(s.heap.push (seqObj "list" #[] 0)).push { cls:=.type "set_iterator",data:=.fields #[.int 0 0,.int 0 0,.ref S,.int es.size 0,.int ep 0] } } (.ref S) "set":=⟨o,Oo _ ho1,hex.1⟩;refine KE (Pl (yT hT2 ?_));rw[OK (by decide +kernel)];refine KE (Sm ?_);have hS0:((s.heap.push (seqObj "list" #[] 0)).push { cls:=.type "set_iterator",data:=.fields #[.int 0 0,.int 0 0,.ref S,.int es.size 0,.int ep 0] }).get? s.heap.objs.size=some (seqObj "list" #[] 0):=Oo _ (Oz _ rfl);refine KE (show wpAny _ _ (updateSeq s.heap.objs.size (·.push .none) >>= fun _=>updateSeq s.heap.objs.size (·.pop)) _ _ _ from ?_);refine KE (Rv hS0 rfl ?_);have hS1:=Pq (Obj.mapSeq (·.push Value.none)) hS0 rfl;refine Rv (hz:=by seq_fits) hS1 rfl ?_;have hS2:=Pq (Obj.mapSeq (·.pop)) hS1 rfl;generalize hH:(((s.heap.push (seqObj "list" #[] 0)).push { cls:=.type "set_iterator",data:=.fields #[.int 0 0,.int 0 0,.ref S,.int es.size 0,.int ep 0] }).update s.heap.objs.size (Obj.mapSeq (·.push Value.none))).update s.heap.objs.size (Obj.mapSeq (·.pop))=H2 at *;have oth:∀ b o,b≠s.heap.objs.size->((s.heap.push (seqObj "list" #[] 0)).push { cls:=.type "set_iterator",data:=.fields #[.int 0 0,.int 0 0,.ref S,.int es.size 0,.int ep 0] }).get? b=some o->H2.get? b=some o:=fun b o hb e=>by rw[<- hH];exact(O1 _ _ (Pw hb)).trans ((O1 _ _ (Pw hb)).trans e)
 have old:∀ b o,s.heap.get? b=some o->H2.get? b=some o:=fun b o e=>oth b o (OQ (Oy e)) (Oo _ (Oo _ e));have hsz1:(s.heap.push (seqObj "list" #[] 0)).objs.size=s.heap.objs.size+1:=size_push' _ _;have hit:H2.get? (s.heap.objs.size+1)=some { cls:=.type "set_iterator",data:=.fields #[.int 0 0,.int 0 0,.ref S,.int es.size 0,.int ep 0] }:=oth _ _ (by lia) (by rw[<- hsz1];exact Oz _ rfl);refine Os ⟨QL PySem.F.plain_extend_loop _,?_⟩;show codeAny _ _ (.builtin "list.extend.loop" ⟨[.ref s.heap.objs.size,.ref (s.heap.push (seqObj "list" #[] 0)).objs.size,.ref s.heap.objs.size],[]⟩) _ _;rw[hsz1];have W:Walks prog w A.in1 (s.heap.objs.size+1) [s.heap.objs.size+1,S] [s.heap.objs.size+1] es.size (fun i v=>((hI w S ep es)[i]?).map (·.2)=some v) (fun i h=>SetIt h (s.heap.objs.size+1) S (cO w t i) i es.size ep/\j_ h S es ep t):=nR (OQ (QG hlt)) (by simp[hh]) T hs hpl hle;refine codeAny_extend_loopS W.toS (by rw[OG];lia) s.heap.objs.size (by simp only[OC,OH,Sv,not_or];exact⟨OQ (P_ _),Rg hlt⟩) _ es.size 0 _ #[] _ rfl (OP _) ⟨⟨_,hit,rfl,rfl⟩,o,old S o ho,hex,hd⟩ (by rw[hS2];rfl) (ItemsOf.nil _) fun s' acc c hm hS' hacc=>?_;obtain⟨h',g',d',tk',os'⟩:=s';have eg:g'=s.gens:=hm.gens;have ed:d'=s.drawn:=hm.drawn;have eo:os'=s.os:=hm.os;subst eg ed eo;refine KE (wpAny_load hS' ?_);have ea:acc.toList=(hI w S ep es).toList.map (·.2):=by
  apply Sq
  intro i;by_cases hi:i<acc.size
  .have e1:acc.toList[i]?=some acc[i]:=by rw[OY];simp[hi]
   have e2:=hacc.2 i acc[i] (by simp[hi]);rw[e1,OD,OY];exact e2.symm
  .rw[QA (by simpa using Nat.le_of_not_lt hi),QA];rw[Ot,Pb,jy,<- hacc.1];exact Nat.le_of_not_lt hi
 show wpAny _ _ (pure acc.toList) _ _ _;rw[ea];refine Os (h h' tk' (Oy hS') fun b o e=>hm.heap b o ?_ (old b o e));have:=Oy e;simp only[OC,OH,Sv,not_or];exact⟨OQ this,OQ (QG this)⟩
end
noncomputable def dk:List Int->List Int->Bool
 | [],[]=>false
 | [],_::_=>true
 |_::_,[]=>false
 |a::x,b::y=>if a=b then dk x y else decide (a<b)
theorem uY:∀ a:List Int,dk a a=false
 | []=>rfl
 |a::x=>by unfold dk;rw[OK rfl];exact uY x
theorem yU:∀ a b c:List Int,dk a b=true->dk b c=true->dk a c=true
 | [],[],_,h,_=>by cases h
 | [],_::_,[],_,h=>by cases h
 | [],_::_,_::_,_,_=>rfl
 |_::_,[],_,h,_=>by cases h
 |_::_,_::_,[],_,h=>by cases h
 |a::x,b::y,c::z,h1,h2=>by
  unfold dk at h1 h2 ⊢;by_cases e1:a=b
  .subst e1;rw[OK rfl]at h1;by_cases e2:a=c
   .subst e2;rw[OK rfl]at h2 ⊢;exact yU x y z h1 h2
   .rw[OL e2]at h2 ⊢;exact h2
  .grind
theorem uZ:∀ a b:List Int,a≠b->dk a b=true\/dk b a=true
 | [],[],h=>(h rfl).elim
 | [],_::_,_=>.inl rfl
 |_::_,[],_=>.inr rfl
 |a::x,b::y,h=>by
  unfold dk;by_cases e:a=b
  .subst e;rw[OK rfl,OK rfl];exact uZ x y fun z=>h (by rw[z])
  .grind
section
variable {prog:SH}{w:World}{A:SJ}{s:SF}
theorem u7:∀{a b:List Int}{xs ys:List SI}(i:Nat),ItemsAre (aS prog w) (iK a) xs->ItemsAre (aS prog w) (iK b) ys->Q (dk a b) s->PySem.W.KatLex prog w A true (decide (xs.length<ys.length)) Q (xs.zip ys) i s
 | [],[],_,_,i,hx,hy,h=>by cases hx;cases hy;exact h
 | [],_::_,_,_,i,hx,hy,h=>by
  cases hx;cases hy with
  |cons h1 h2=>exact PySem.W.kat_nil h
 |_::_,[],_,_,i,hx,hy,h=>by
  cases hy;cases hx with
  |cons h1 h2=>exact PySem.W.kat_nil h
 |a::x,b::y,_,_,i,hx,hy,h=>by
  cases hx with
  | @cons _ v1 _ vs1 h1 hx'=>
   cases hy with
   | @cons _ v2 _ vs2 h2 hy'=>
    obtain⟨t1,rfl⟩:=k_ h1;obtain⟨t2,rfl⟩:=k_ h2;rw[Rp];refine PySem.W.kat_cons (wpAny_eqBool_int ?_);unfold dk at h;by_cases e:a=b
    .subst e;rw[OK rfl]at h;rw[QR];refine PySem.W.kat_yes ?_;have:=u7 (i+1) hx' hy' h;simpa using this
    .rw[OL e]at h;have eb:(a==b)=false:=by grind
     rw[eb];refine PySem.W.kat_no ?_;cases i with
     |zero=>exact oneLt_int h
     |succ i=>exact PySem.W.kat_one _ _ (lt_int h)
structure oq (prog:SH) (w:World) (h:Heap) (xs:List gf):Prop where
 is:∀ x∈xs,(tK prog w).is h (iK x.1) x.2
 ne:∀ x∈xs,x.1≠[]
 nd:(xs.map (·.1)).Nodup
noncomputable def valsT (xs:List gf):List SI:=xs.map fun x=>Value.ref x.2
noncomputable def fF (xs:List gf)(i:Nat):List Int:=((xs[i]?).getD ([],0)).1
theorem Cf (t:oq prog w s.heap xs):Lt xs.length fun i j=>dk (fF xs i) (fF xs j) where
 N8:=fun i=>uY _
 tr:=fun i j k=>yU _ _ _
 N7:=fun i j hi hj e=>uZ _ _ fun z=>by
  have gi:fF xs i=(xs.map (·.1))[i]'(by simpa using hi):=by simp[fF,hi]
  have gj:fF xs j=(xs.map (·.1))[j]'(by simpa using hj):=by simp[fF,hj]
  rw[gi,gj]at z;rcases Rt e with q|q
  .exact OT.mp t.nd i j (by simpa using hi) (by simpa using hj) q z
  .exact OT.mp t.nd j i (by simpa using hj) (by simpa using hi) q z.symm
theorem yV (t:oq prog w s.heap xs):Cb xs.length (fun i j=>dk (fF xs i) (fF xs j)) (PySem.W.kas_ask prog w A (tuples' true) (valsT xs)) s:=by intro i j C hi hj h;have one:∀ k,k<xs.length->∃ x,(valsT xs).getD k Value.none=.ref x.2/\fF xs k=x.1/\x∈xs:=fun k hk=>⟨xs[k],by simp[valsT,hk],by simp[fF,hk],RU hk⟩;obtain⟨x,ex,kx,mx⟩:=one i hi;obtain⟨y,ey,ky,my⟩:=one j hj;unfold PySem.W.kas_ask;rw[ex,ey];obtain⟨ox,ix,nx,hx,cx,dx,lx⟩:=t.is x mx;obtain⟨oy,iy,ny,hy,cy,dy,ly⟩:=t.is y my;refine PySem.W.kat_lt hx dx hy dy ?_;have h:C (dk (fF xs i) (fF xs j)) s:=h;rw[kx,ky]at h;have:=u7 (A:=A) 0 lx ly h;simpa using this
theorem rE:∀{xs:List gf},(∀ x∈xs,(tK prog w).is h (iK x.1) x.2)->(∀ x∈xs,x.1≠[])->∃ fs:List SI,PySem.W.KatTups h (valsT xs) fs/\fs.length=xs.length/\∀ v∈fs,∃ i t,v=Value.int i t
 | [],_,_=>⟨[],trivial,rfl,fun v hv=>nomatch hv⟩
 |x::xs,h1,h2=>by
  obtain⟨fs,a,b,c⟩:=rE (fun y hy=>h1 y (Ow _ hy)) fun y hy=>h2 y (Ow _ hy);obtain⟨ox,ix,nx,hx,cx,dx,lx⟩:=h1 x Ox;have hne:=h2 x Ox;obtain⟨k,b'⟩:=x;dsimp only at hne lx hx;cases k with
  |nil=>exact(hne rfl).elim
  |cons n ns=>
   generalize hl:ix.toList=l at lx;cases lx with
   | @cons _ v _ vs q1 q2=>
    obtain⟨t,rfl⟩:=k_ q1;refine⟨.int n t::fs,⟨⟨b',ox,ix,nx,rfl,hx,cx,dx,?_⟩,a⟩,by simp[b],fun v hv=>?_⟩
    .rw[<- OY,hl];rfl
    .grind
theorem we (t:oq prog w s.heap xs)(hne:0<xs.length)(h:Q (tuples' true) s):wpAny (model prog w) A (keyKind' (valsT xs).toArray) Q E s:=by
 obtain⟨fs,a,b,c⟩:=rE t.is t.ne;refine PySem.W.kat_kind (T:=.type "int") a (by lia) (fun v hv=>?_) (by decide) ?_
 .obtain⟨i,t,rfl⟩:=c v hv;exact fun A Q E s k q=>Os q
 .have:(Value.type "int" != Value.type "tuple")=true:=by decide
  rw[this];exact h
end
noncomputable def hJ {α:Type}(d:α)(xs:List α)(i:Nat):α:=(xs[i]?).getD d
section
variable {α β:Type}
theorem md (d:α)(xs:List α):(List.range xs.length).map (hJ d xs)=xs:=by
 apply Sq
 intro i;rw[OD];by_cases h:i<xs.length
 .rw[List.getElem?_range h,Ou h];simp[hJ,h]
 .rw[QA (by grind),QA (by grind)];rfl
theorem oP (d:α)(pm:Pm xs.length p):(p.toList.map (hJ d xs)).Perm xs:=by have:=List.Perm.map (hJ d xs) pm;rw[md]at this;exact this
theorem u9 {r:α->α->Bool}(pm:Pm xs.length p)(so:So (fun i j=>r (hJ d xs i) (hJ d xs j)) p xs.length):(p.toList.map (hJ d xs)).Pairwise fun x y=>r x y=true:=by
 rw[PD,OT];intro i j hi hj hij;have hi':i<p.size:=by grind
 have hj':j<p.size:=by grind
 have:=so i j hij (by rw[<- pm.size];exact hj');dsimp only at this;have ei:cB p i=p.toList[i]:=by simp[cB,Array.getD,hi']
 have ej:cB p j=p.toList[j]:=by simp[cB,Array.getD,hj']
 rw[ei,ej]at this;exact this
theorem rF {f:α->β}{e:β}(d:α)(pm:Pm xs.length p):(p.toList.map fun i=>(xs.map f).getD i e)=(p.toList.map (hJ d xs)).map f:=by rw[PN];refine Pt fun i hi=>?_;have hi:i<xs.length:=O9.mp (pm.mem_iff.mp hi);simp[hJ,hi]
end
section
theorem oq.off (t:oq prog w h xs) (ho:h.get? a=some o) (hc:o.cls=.type "list") (k:∀ b o,b≠a->h.get? b=some o->h'.get? b=some o):oq prog w h' xs:=by refine⟨fun x hx=>?_,t.ne,t.nd⟩;obtain⟨ox,ix,nx,h1,c1,r⟩:=t.is x hx;refine⟨ox,ix,nx,k x.2 ox (fun e=>?_) h1,c1,r⟩;rw[e,ho]at h1;cases h1;rw[hc]at c1;exact absurd c1 (by decide)
theorem rG {a:Addr} {n:Nat} {vs:List SI} {κ:SortKind} {lt:Nat->Nat->Bool} {P:PySem.Fin->SF->Prop} (ho:s.heap.get? a=some (seqObj "list" vs.toArray n)) (h64:vs.length<64)
 (hk:∀ H,(∀ b o,b≠a->s.heap.get? b=some o->H.get? b=some o)->2<=vs.length->(∀ Q,Q κ { s with heap:=H }->wpAny (model prog w) A (keyKind' vs.toArray) Q E { s with heap:=H })/\Lt vs.length lt/\Cb vs.length lt (PySem.W.kas_ask prog w A κ vs) { s with heap:=H })
 (h:∀ p h' c,Pm vs.length p->So lt p vs.length->h'.get? a=some (seqObj "list" (p.toList.map fun i=>vs.getD i Value.none).toArray c)->(∀ b o,b≠a->s.heap.get? b=some o->h'.get? b=some o)->P (.done (.ret .none)) { s with heap:=h' }) :
 wpAny (model prog w) A (Builtin.«list.sort» ⟨[.ref a],[]⟩) P E s:=by
 rw[list_sort_plain];refine KE (listItems_at ho rfl (KE (listUpdate_at ho rfl ?_ (by rw[OA,OG];lia) (OP _))));obtain⟨e1,ho1⟩ : ∃ e1,(s.heap.update a (Obj.mapSeq fun _=>#[])).get? a=some (seqObj "list" #[] e1):=⟨_,get?_update_seq ho (fun _=>#[])⟩;refine KE (seqEpoch_at ho1 rfl (KE (wpAny_newTuple (KE (wpAny_newList (Pl ?_) (OP _))) (by show vs.length<=_;rw[OG];lia))));have oth:∀ b o,b≠a->s.heap.get? b=some o->(((s.heap.update a (Obj.mapSeq fun _=>(#[]:Array SI))).push (seqObj "tuple" vs.toArray 0)).push (seqObj "list" #[] 0)).get? b=some o:=fun b o hb e=>Oo _ (Oo _ ((O1 _ _ (Pw hb)).trans e));have ho6:(((s.heap.update a (Obj.mapSeq fun _=>(#[]:Array SI))).push (seqObj "tuple" vs.toArray 0)).push (seqObj "list" #[] 0)).get? a=some (seqObj "list" #[] e1):=Oo _ (Oo _ ho1);show wpAny (model prog w) A _ P E { s with heap:=((s.heap.update a (Obj.mapSeq fun _=>(#[]:Array SI))).push (seqObj "tuple" vs.toArray 0)).push (seqObj "list" #[] 0) };generalize (((s.heap.update a (Obj.mapSeq fun _=>(#[]:Array SI))).push (seqObj "tuple" vs.toArray 0)).push (seqObj "list" #[] 0))=H6 at ho6 oth;dsimp only;have fin:∀(p:Array Nat)(out:Array SI),Pm vs.length p->So lt p vs.length->out=(p.toList.map fun i=>vs.getD i Value.none).toArray->P (.done (.ret .none)) { s with heap:=H6.update a (Obj.mapSeq fun _=>out) }:=fun p out hp hw ho=>by subst ho;exact h p _ _ hp hw (get?_update_seq ho6 fun _=>(p.toList.map fun i=>vs.getD i Value.none).toArray) fun b o hb e=>(O1 _ _ (Pw hb)).trans (oth b o hb e)
 by_cases h2:vs.toArray.size<2
 .rw[OK h2,OK h2];refine KE (Os ?_);rw[StateT.run_pure];have hx2:vs.length<2:=by grind
  have hout:Array.map (fun x:Keyed=>x.2) (vs.toArray.zip vs.toArray)=vs.toArray:=by apply Array.ext';simp[List.map_snd_zip]
  refine KE (Os ?_);dsimp only;refine KE (seqEpoch_at ho6 rfl (KE (listUpdate_at ho6 rfl ?_ (OP _) ?_)))
  .simp only[RF,OM,PL];refine Os (fin (List.range vs.length).toArray _ (Qq _) (fun a b h1 h2=>by lia) (hout.trans ?_));rw[show(fun i=>vs.getD i Value.none)=hJ Value.none vs from funext fun i=>by simp[hJ]];show _=(List.map _ (List.range vs.length)).toArray;rw[md]
  .show(Array.map (fun x:Keyed=>x.2) (vs.toArray.zip vs.toArray)).size<=_;rw[hout,OA,OG];lia
 .rw[OL h2,OL h2];have hx2:2<=vs.length:=by grind
  obtain⟨k1,k2,k3⟩:=hk H6 oth hx2;refine KE (k1 _ ?_);refine KE (Ps (PySem.W.kat_run (s:={ s with heap:=H6 }) (Q:=fun st' s'=>s'={ s with heap:=H6 }/\∃ p:Array Nat,Pm vs.length p/\So lt p vs.length/\arrOf st'=p.map (PySem.W.kas_item (vs.toArray.zip vs.toArray))/\failedOf st'=none)
   (G:=fun p s'=>s'={ s with heap:=H6 }/\Pm vs.length p/\So lt p vs.length) rfl (by lia) (by lia) (fun p st' s' _ a2 a3 g=>⟨g.1,p,g.2.1,g.2.2,a2,a3⟩) ?_) ?_ fun _ _ e=>e)
  .exact Cc k2 k3 hx2 fun p pm so=>⟨rfl,pm,so⟩
  .rintro⟨⟨⟩,st'⟩ s' ⟨rfl,p,pm,so,har,hf⟩;dsimp only;rw[PySem.W.kat_snds rfl har];refine KE (seqEpoch_at ho6 rfl (KE (listUpdate_at ho6 rfl ?_ (OP _) ?_)))
   .rw[hf];simp only[RF,OM,PL];exact Os (fin _ _ pm so rfl)
   .have:=pm.size;simp[this];rw[OG];lia
theorem wf (ho:s.heap.get? a=some (seqObj "list" (valsT xs).toArray n)) (t:oq prog w s.heap xs) (h64:xs.length<64)
 (h:∀ ys h' c,ys.Perm xs->ys.Pairwise (fun x y=>dk x.1 y.1=true)->h'.get? a=some (seqObj "list" (valsT ys).toArray c)->(∀ b o,b≠a->s.heap.get? b=some o->h'.get? b=some o)->P (.done (.ret .none)) { s with heap:=h' }) :
 wpAny (model prog w) A (Builtin.«list.sort» ⟨[.ref a],[]⟩) P E s:=by
 have hvl:(valsT xs).length=xs.length:=by simp[valsT]
 refine rG (κ:=tuples' true) (lt:=fun i j=>dk (fF xs i) (fF xs j)) ho (by lia) (fun H oth h2=>?_) fun p h' c pm so e k=>?_
 .have t6:oq prog w H xs:=t.off ho rfl oth;rw[hvl];exact⟨fun Q q=>we (s:={ s with heap:=H }) t6 (by lia) q,Cf (s:={ s with heap:=H }) t6,yV (s:={ s with heap:=H }) t6⟩
 .rw[hvl]at pm so;exact h (p.toList.map (hJ ([],0) xs)) h' c (oP _ pm) (u9 (r:=fun x y=>dk x.1 y.1) pm so) (by rw[e];unfold valsT;rw[rF ([],0) pm]) k
def pJ (prog:SH) (w:World) (N:Nat):Prop:=∀(A:SJ)(E:SI->SF->Prop)(s:SF)(a:Addr)(n:Nat)(xs:List gf)(P:PySem.Fin->SF->Prop),s.heap.get? a=some (seqObj "list" (valsT xs).toArray n)->oq prog w s.heap xs->xs.length<=N->
 (∀ ys h' c,ys.Perm xs->ys.Pairwise (fun x y=>dk x.1 y.1=true)->h'.get? a=some (seqObj "list" (valsT ys).toArray c)->(∀ b o,b≠a->s.heap.get? b=some o->h'.get? b=some o)->P (.done (.ret .none)) { s with heap:=h' })->wpAny (model prog w) A (Builtin.«list.sort» ⟨[.ref a],[]⟩) P E s
theorem u_:pJ prog w 63:=fun _ _ _ _ _ _ _ ho t hz h=>wf ho t (by lia) h
end
section
variable {κ μ:Type}{its:List (κ×μ)}
theorem mj:∀(l:List (Int×SI)),(∀ e∈l,∃ x∈its,e=ent x)->∃ zs:List (κ×μ),l=zs.map ent/\∀ z∈zs,z∈its
 | [],_=>⟨[],rfl,fun z hz=>nomatch hz⟩
 |e::l,h=>by
  obtain⟨x,hx,rfl⟩:=h e Ox;obtain⟨zs,h1,h2⟩:=mj l fun e he=>h e (Ow _ he);exact⟨x::zs,by rw[h1];rfl,fun z hz=>by
   rcases OC.mp hz with rfl|hz
   .exact hx
   .exact h2 z hz⟩
structure nA (lt:κ->κ->Prop) (its ys:List (κ×μ)):Prop where
 sub:∀ y∈ys,y∈its
 all:∀ x∈its,∃ y∈ys,y.1=x.1
 pw:ys.Pairwise fun x y=>lt x.1 y.1
def E5 (prog:SH) (w:World) (hb:Heap) (ent:κ×μ->Int×SI) (lt:κ->κ->Prop) (its:List (κ×μ)) (N:Nat):Prop:=∀(A:SJ)(E:SI->SF->Prop)(s:SF)(a:Addr)(n:Nat)(zs:List (κ×μ))(P:PySem.Fin->SF->Prop),(∀ b o,hb.get? b=some o->s.heap.get? b=some o)->s.heap.get? a=some (seqObj "list" (zs.map fun z=>(ent z).2).toArray n)->(∀ z∈zs,z∈its)->(zs.map (·.1)).Nodup->zs.length<=N->
 (∀(ys:List (κ×μ)) h' c,ys.Perm zs->ys.Pairwise (fun x y=>lt x.1 y.1)->h'.get? a=some (seqObj "list" (ys.map fun z=>(ent z).2).toArray c)->(∀ b o,b≠a->s.heap.get? b=some o->h'.get? b=some o)->P (.done (.ret .none)) { s with heap:=h' })->wpAny (model prog w) A (Builtin.«list.sort» ⟨[.ref a],[]⟩) P E s
theorem jA (sa:SetAt w s.heap S es)(v:dX ent es its)(un:Bf ent its)(hh:A.handled=none)(hN:N<=300)(hs:E5 prog w s.heap ent lt its N)(hz:its.length<=N)
 (h:∀(ys:List (κ×μ)) h' tk l c,nA lt its ys->ys.length<=N->s.heap.objs.size<=l->h'.get? l=some (seqObj "list" (ys.map fun z=>(ent z).2).toArray c)->(∀ b o,s.heap.get? b=some o->h'.get? b=some o)->Q (.ref l) { s with heap:=h',toks:=tk }) :
 wpAny (model prog w) A (call (.builtin "sorted") [.ref S]) Q E s:=by
 obtain⟨o,ep,t,ho,hex,hd,T,sp,hpl,hle⟩:=sa;have pe:=rC w S ep es;have hes:=v.sz;obtain⟨zs,ez,zm⟩:=mj (ent:=ent) (its:=its) (hI w S ep es).toList fun e he=>v.el e (pe.mem_iff.mp he);have ev:(hI w S ep es).toList.map (·.2)=zs.map fun z=>(ent z).2:=by rw[ez,PN];rfl
 have hzl:zs.length=es.size:=by have:=PJ List.length ez;rw[Ot,Pb,jy]at this;exact this.symm
 have nd:(zs.map (·.1)).Nodup:=by have pw:=(pe.pairwise_iff (fun{x y} hxy a b e1 e2 m1 m2 z=>hxy b a e2 e1 m2 m1 z.symm)).mpr v.pw;rw[ez,PD]at pw;unfold List.Nodup;rw[PD];exact Qn (fun{a b} ha hb hab=>hab a b rfl rfl (zm a ha) (zm b hb)) pw
 refine Calls.call_function_entry kind_sorted plain_sorted entry_sorted (args_sorted1 _) ?_;unfold Builtin.«sorted»;refine KE (m:=checkCount "sorted" 1 1 _) (Os (KE (rD ⟨o,ho,hex,hd⟩ T (gd sp) hpl hle (by simp[hh]) (by lia) fun h1 tk1 g1 k1=>?_)));rw[ev];refine KE (wpAny_newList ?_ (by rw[Ot,hzl,OG];lia));have hoL:(h1.push (seqObj "list" (zs.map fun z=>(ent z).2).toArray 0)).get? h1.objs.size=some (seqObj "list" (zs.map fun z=>(ent z).2).toArray 0):=Oz _ rfl;have kk:∀ b o,s.heap.get? b=some o->(h1.push (seqObj "list" (zs.map fun z=>(ent z).2).toArray 0)).get? b=some o:=fun b o e=>Oo _ (k1 b o e);have ge:s.heap.objs.size<=h1.objs.size:=Rf g1;refine KE (Pl (PB slot_list_sort ⟨_,hoL,rfl⟩ entry_list_sort (hs _ _ { s with heap:=h1.push (seqObj "list" (zs.map fun z=>(ent z).2).toArray 0),toks:=tk1 } _ _ zs _ kk hoL zm nd (by lia) fun ys h2 c2 hp hw hl2 k2=>⟨_,rfl,?_⟩) (args_list_sort _)));refine Os ⟨_,rfl,h ys h2 tk1 _ c2 ⟨fun y hy=>zm y (hp.mem_iff.mp hy),fun x hx=>?_,hw⟩ (by rw[hp.length_eq];lia) ge hl2 fun b o e=>k2 b o (fun z=>?_) (kk b o e)⟩
 .obtain⟨y,y1,y2,y3⟩:=v.all x hx;have y4:=pe.mem_iff.mpr y3;rw[ez]at y4;obtain⟨z,z1,z2⟩:=OB.mp y4;exact⟨z,hp.mem_iff.mpr z1,(un z (zm z z1) y y1 z2).trans y2⟩
 .subst z;exact absurd (Oy e) (Nat.not_lt.mpr ge)
end
def TupsIn (H:Hp):List V->List gf->Prop:=Paired fun v x=>v=.ref x.2/\H x.2=some (.tup ((iK x.1).map kV))
theorem TupsIn.get (t:TupsIn H vs its)(rv:Vals vs us):its.length=us.length/\(∀(i:Nat)(v:SI),us[i]?=some v->∃ x:gf,its[i]?=some x/\v=.ref x.2)/\∀ x∈its,H x.2=some (.tup ((iK x.1).map kV)):=by
 unfold TupsIn at t;induction t generalizing us with
 |nil=>cases rv;exact⟨rfl,fun i v e=>by simp at e,fun x hx=>nomatch hx⟩
 | @cons v y vs its q t ih=>
  cases rv with
  | @cons _ u _ us r s=>
   obtain⟨a,b,c⟩:=ih s;obtain⟨rfl,q⟩:=q;obtain rfl:u=Value.ref y.2:=r;refine⟨by simp[a],fun i v e=>?_,fun x hx=>?_⟩
   .cases i with
    |zero=>simp at e;exact⟨y,rfl,e.symm⟩
    |succ i=>exact b i v e
   .rcases OC.mp hx with rfl|hx
    .exact q
    .exact c x hx
section
theorem wg (hc:X.calm=true) (hu:X.A.units+64<cLine):bQ X (.type "set") (fun xs H Q=>∃ l vs its,xs=[.ref l]/\Rd H l (.lst vs)/\TupsIn H vs its/\vs.length<=300/\
 ∀ p es,H p=none->dX (eT X.prog X.w) es its->Q (.ref p) (upd H p (.ext fun h=>SetAt X.w h p es))):=by
 intro af s σ H xs us Q I r h;obtain⟨l,vs,its,rfl,hl,hp,hz,q⟩:=h;obtain⟨u,rfl,ru⟩:=dm r;obtain rfl:u=Value.ref l:=ru;obtain⟨_,us,n,rv,hg⟩:=(show ObjOk X.prog X.w H s.heap l (.lst vs) from hl.ok I.aX);obtain⟨g1,g2,g3⟩:=hp.get rv;have his:=fun x hx=>dS I.aX (g3 x hx);refine oN (ent:=eT X.prog X.w) (I.ok.hd hc) hg (its:=its) (by grind) (by rw[OA,<- rv.length];exact hz) (fun i v e=>g2 i v (by grind)) (E4 his) (Ce (by show X.A.units+1+1+1<cLine;lia) his) fun h' tk es hS v hk=>?_;have hf:H s.heap.objs.size=none:=I.aX.fresh (Oq _);refine⟨.ref s.heap.objs.size,_,I.laid (a:=s.heap.objs.size) (o:=.ext fun h=>SetAt X.w h s.heap.objs.size es) (t':=tk) (fun b o e=>hk b o (Oy e) e) (Oq _) ?_,rfl,q _ es hf v⟩;exact⟨hS,(let ⟨o,_,_,e,_⟩:=hS;⟨o,e⟩),fun h1 h2 hs k=>SetAt.keep hs k⟩
theorem pK (hc:X.calm=true) (hN:N<=300) (hs:pJ X.prog X.w N):bQ X (.builtin "sorted") (fun xs H Q=>∃ p es its,xs=[.ref p]/\H p=some (.ext fun h=>SetAt X.w h p es)/\dX (eT X.prog X.w) es its/\(∀ x∈its,H x.2=some (.tup ((iK x.1).map kV)))/\(∀ x∈its,x.1≠[])/\its.length<=N/\
 ∀ l ys,H l=none->nA (fun x y=>dk x y=true) its ys->Q (.ref l) (upd H l (.lst (ys.map fun y=>.ref y.2)))):=by
 intro af s σ H xs us Q I r h;obtain⟨p,es,its,rfl,hp,v,ht,hne,hz,q⟩:=h;obtain⟨u,rfl,ru⟩:=dm r;obtain rfl:u=Value.ref p:=ru;obtain⟨hS,_,_⟩:=(show ObjOk X.prog X.w H s.heap p (.ext fun h=>SetAt X.w h p es) from I.aX p _ hp);have his:=fun x hx=>dS I.aX (ht x hx);refine jA hS v (E4 his) (I.ok.hd hc) hN (lt:=fun x y=>dk x y=true) (fun A E s a n zs P kk ho zm nd hz h=>hs A E s a n zs P ho ⟨fun x hx=>kZ (his x (zm x hx)) kk,fun x hx=>hne x (zm x hx),nd⟩ hz h) hz fun ys h' tk l c so hyl hle hl hk=>?_;refine⟨.ref l,_,I.laid (a:=l) (o:=.lst (ys.map fun y=>.ref y.2)) (t':=tk) hk hle ⟨by rw[Ot,OG];lia,_,c,?_,hl⟩,rfl,q l ys (I.aX.fresh hle) so⟩;clear so hl hyl;induction ys with
 |nil=>exact .nil
 |cons y ys ih=>exact .cons rfl ih
end
end L2
namespace L2
open PySem PySem.Spec PyProof.Rows
end L2
namespace L2
open PySem PySem.Spec PySem.Calls PyProof.Rows ST
section
theorem Cg (T:nw t es)(sp:i8 t)(h:Int)(x:SI):∃ j,j∉t.place.toList/\j<=t.mask/\Rea t.mask (·∈ t.place.toList) h j/\layNew t es h x=(SetTable.insertAt es (t.put j).2 (h,x),(t.put j).1,false,false):=by
 have hs:=gd sp;have pr:=lX T.tb hs (fun _=>h+1) h (Va.st t.mask h);have hst:t.probeStart h=st t.mask h:=rfl;generalize hp:t.probe (fun _=>h+1) h (st t.mask h)=m at pr;cases pr with
 |ca n i hi e q b=>exact absurd q (by lia)
 |em n e b=>
  have re:Rea t.mask (·∈ t.place.toList) h (it t.mask n (st t.mask h)).j:=⟨n,rfl,fun k hk=>by obtain⟨i,hi,q,_⟩:=b k hk;show _∈t.place.toList;rw[<- q];simp⟩;have hjm:(it t.mask n (st t.mask h)).j<=t.mask:=((Va.st t.mask h).it).MX;refine⟨_,e,hjm,re,?_⟩;obtain⟨T',em,ez⟩:=tM T e hjm (v:=x) re;have hp1:(t.put (it t.mask n (st t.mask h)).j).2<=es.size:=by rw[k9,<- T.len];exact(cN _ T.tb.sG).1
  have le':(t.put (it t.mask n (st t.mask h)).j).1.place.size<=(t.put (it t.mask n (st t.mask h)).j).1.mask:=by grind [i8]
  have hf:=nw.fits T' le';unfold layNew SetTable.freeSlot;rw[hst,hp];dsimp only[Option.getD,Option.isSome];unfold SetTable.orStandIn;rw[OK hf,hf];rfl
theorem wl (hm:sK m)(hn:SetTable.sizeAbove n=m+1)(hl:es.size<=m):∃ es' t',relayAll t es n=(es',t',false)/\Laid m es es' t'/\t'.led=t.led/\t'.plain=t.plain:=by
 obtain⟨t',order,e,L,h1,h2,hp⟩:=rA hm es hl t.finger (t.movedTo m) t.led t.plain;refine⟨_,t',?_,L,h1,h2⟩;have er:t.relaid (es.map (·.1)) n=some (t',order):=by unfold SetTable.relaid;rw[hn];exact e
 unfold relayAll;rw[er];dsimp only;have hc:coversAll order es.size=true:=by unfold coversAll;exact List.isPerm_iff.mpr hp
 have hf:t'.fits (order.filterMap (es[·]?)).size=true:=nw.fits L.qF (by rw[L.qF.len,L.mask,L.size];exact hl);rw[hc,hf];rfl
end
section
theorem Ci (hS:SetAt w s.heap a es)(el:ElemsOf (intKind prog w) es.toList)(hz:es.size+1<=300)
 (h1:∀ tk,s.toks<=tk->(∃ e∈es.toList,(intKind prog w).is i e.2=true)->Q false { s with toks:=tk })
 (h2:∀ tk h' es',s.toks<=tk->(∀ e∈es.toList,(intKind prog w).is i e.2=false)->Heap.SameBut a s.heap h'->SetAt w h' a es'->kM es es' ((intKind prog w).hash i,.int i t0)->Q true { s with heap:=h',toks:=tk }) :
 wpAny (model prog w) A (setAdd a (.int i t0)) Q E s:=by
 obtain⟨o,ep,t,ho,hex,hd,T,sp,hpl,hle⟩:=hS;have hf:=nw.fits T (gd sp);have gX:=intKind_is prog w i t0;have hsc:(Value.int i t0).scannable=true:=rfl;unfold setAdd;refine Pl ?_;refine KE ((intKind prog w).pyHash (k:=i) gX ?_);have htk:s.toks<=s.toks+1:=Nat.le_succ _;generalize s.toks+1=tk at htk;unfold setAddHashed setAddHashedIn;refine Pl (KE (PF (s:={ s with toks:=tk }) ho hd hf ?_));dsimp only;rw[byScan_of hsc (by unfold scanBound;lia) el];simp only[QT];unfold setAddByScan;refine KE ?_;refine KE (Sm ?_);refine KE (wpAny_setScan_of (s:={ s with toks:=tk }) gX ho hd hf el ?_);cases hr:List.findIdx? (fun e=>(intKind prog w).is i e.2) es.toList with
 |some j=>dsimp only;obtain⟨hj,hpj,_⟩:=List.findIdx?_eq_some_iff_getElem.mp hr;exact Os (Os (h1 tk htk ⟨_,RU hj,hpj⟩))
 |none=>
  dsimp only;have hout:∀ e∈es.toList,(intKind prog w).is i e.2=false:=fun e he=>by have:=List.findIdx?_eq_none_iff.mp hr e he;simpa using this
  obtain⟨j,hj,hjm,re,hlay⟩:=Cg T sp ((intKind prog w).hash i) (.int i t0);obtain⟨T',em,ez⟩:=tM T hj hjm (v:=Value.int i t0) re;have hpl':(t.put j).1.plain=true:=by rw[jx T.tb];exact hpl
  have hle':(t.put j).1.led=!byT w:=by rw[jx T.tb];exact hle
  rw[hlay];dsimp only;refine KE (show wpAny _ _ (pure ()) _ _ _ from Os ?_);rw[hpl'];simp only[QT];rw[hashByValue_scannable 8 hsc];refine KE (Os ?_);rw[show plainKind (Value.int i t0)=true from rfl];simp only[QT];have hp:(t.put j).2<=es.size:=by rw[k9,<- T.len];exact(cN j T.tb.sG).1
  have g:=oM es (t.put j).2 ((intKind prog w).hash i,Value.int i t0) hp;refine KE (RE (s:={ s with toks:=tk }) ho hd ?_ (by rw[g.size,OG];lia));obtain⟨o1,q1,q2,q3⟩:=iF (SetTable.insertAt es (t.put j).2 ((intKind prog w).hash i,Value.int i t0)) (t.put j).1 ho hex hd;have sb:=Pc s.heap a (Obj.putSet (SetTable.insertAt es (t.put j).2 ((intKind prog w).hash i,Value.int i t0)) (t.put j).1);have fill:(t.put j).1.fill=es.size+1:=by unfold SetTable.fill;rw[T'.tb.Hb,ez,T.len];rfl
  by_cases hfull:(t.put j).1.tooFull=true
  .rw[hfull];simp only[Bool.not_false,Bool.and_self,QT];unfold SetTable.tooFull at hfull;rw[fill,em]at hfull;have hfull:(es.size+1)*5>=t.mask*3:=by simpa using hfull
   have sp':es.size*5<t.mask*3:=by rw[<- T.len];exact sp
   obtain⟨m,m1,m2,m3⟩:=l7 T.tb.Ek sp' hfull hz;rw[g.size];obtain⟨es',t',hra,L,l1,l2⟩:=wl (t:=(t.put j).1) (es:=SetTable.insertAt es (t.put j).2 ((intKind prog w).hash i,Value.int i t0)) m2 m1 (by rw[g.size];lia);rw[hra];dsimp only;refine KE (show wpAny _ _ (pure ()) _ _ _ from Os ?_);refine KE (RE q1 q3 ?_ (by rw[L.size,g.size,OG];lia));obtain⟨o2,r1,r2,r3⟩:=iF es' t' q1 q2 q3;refine Os (Os (h2 tk _ es' htk hout (sb.trans (Pc _ a _)) ⟨o2,_,_,r1,r2,r3,L.qF,?_,by rw[l2];exact hpl',by rw[l1];exact hle'⟩ (g.laid L)));unfold i8;rw[L.qF.len,L.mask,L.size,g.size];exact m3
  .have hfull:(t.put j).1.tooFull=false:=by simpa using hfull
   rw[hfull];simp only[RJ,OM,PL];refine Os (Os (h2 tk _ _ htk hout sb ⟨o1,_,_,q1,q2,q3,T',?_,hpl',hle'⟩ g));unfold SetTable.tooFull at hfull;unfold i8;rw[fill]at hfull;rw[ez,T.len];simpa using hfull
end
section
noncomputable abbrev rH:=Int×Tok
noncomputable abbrev eI (prog:SH)(w:World)(x:rH):Int×SI:=((intKind prog w).hash x.1,.int x.1 x.2)
theorem isI:(intKind prog w).is k (.int j t)=true↔k=j:=by
 constructor
 .intro h;by_cases e:k=j
  .exact e
  .have h2:=intKind_is prog w j t;exact absurd ((intKind prog w).inj _ _ _ h h2) e
 .rintro rfl;exact intKind_is prog w k t
theorem Hz:Bf (eI prog w) its:=fun x _ y _ e=>by injection e with _ e;injection e
theorem Cj:uW prog w A hb S (eI prog w) its:=fun x xs s es Q E hx hs K hS v hz h1 h2=>by
 refine Ci hS (fun e he=>?_) hz (fun tk t hin=>h1 tk t ?_) fun tk h' es' t hout sb sa g=>h2 tk h' es' t (fun hin=>?_) sb sa g
 .obtain⟨y,_,rfl⟩:=v.el e he;exact⟨⟨y.1,intKind_is prog w y.1 y.2,rfl⟩,rfl⟩
 .obtain⟨e,he,hh⟩:=hin;obtain⟨y,y1,rfl⟩:=v.el e he;exact⟨y,y1,(isI.mp hh).symm⟩
 .obtain⟨y,y1,y2⟩:=hin;obtain⟨z,z1,z2,z3⟩:=v.all y y1;have:=hout _ z3;rw[isI.mpr (z2.trans y2).symm]at this;cases this
end
section
theorem HA (r:Vals (xs.map V.int) us):∃ its:List rH,its.map (·.1)=xs/\us=its.map fun z=>Value.int z.1 z.2:=by
 induction xs generalizing us with
 |nil=>cases r;exact⟨[],rfl,rfl⟩
 |cons x xs ih=>
  cases r with
  |cons q h=>obtain⟨t,rfl⟩:=q;obtain⟨its,rfl,rfl⟩:=ih h;exact⟨(x,t)::its,rfl,rfl⟩
theorem tT (hc:X.calm=true):bQ X (.type "set") (fun vs H Q=>∃ l xs,vs=[.ref l]/\Rd H l (.lst (xs.map V.int))/\xs.length<=300/\∀ p es its,H p=none->its.map (·.1)=xs->dX (eI X.prog X.w) es its->Q (.ref p) (upd H p (.ext fun h=>SetAt X.w h p es))):=by
 intro af s σ H vs us Q I r h;obtain⟨l,xs,rfl,hl,hz,q⟩:=h;obtain⟨u,rfl,ru⟩:=dm r;obtain rfl:u=Value.ref l:=ru;obtain⟨_,us,n,rv,hg⟩:=(show ObjOk X.prog X.w H s.heap l (.lst (xs.map V.int)) from hl.ok I.aX);obtain⟨its,rfl,rfl⟩:=HA rv;rw[Ot]at hz;refine oN (ent:=eI X.prog X.w) (I.ok.hd hc) hg (its:=its) (by simp) (by simpa using hz) (fun i v e=>?_) Hz Cj fun h' tk es hS v hk=>?_
 .simp only[List.getElem?_toArray,OD,Pd]at e;obtain⟨x,h1,h2⟩:=e;exact⟨x,h1,h2.symm⟩
 .refine⟨.ref s.heap.objs.size,_,I.laid (a:=s.heap.objs.size) (o:=.ext fun h=>SetAt X.w h s.heap.objs.size es) (t':=tk) (fun b o e=>hk b o (Oy e) e) (Oq _) ?_,rfl,q _ es its (I.aX.fresh (Oq _)) rfl v⟩;exact⟨hS,(let ⟨o,_,_,e,_⟩:=hS;⟨o,e⟩),fun h1 h2 hs k=>SetAt.keep hs k⟩
end
noncomputable def hV (zs:List rH):List SI:=zs.map fun z=>Value.int z.1 z.2
section
theorem rJ:∀ zs:List rH,IntsAre (hV zs) (zs.map (·.1))
 | []=>.nil
 |z::zs=>.cons _ _ (rJ zs)
theorem wn {P:PySem.Fin->SF->Prop} (ho:s.heap.get? a=some (seqObj "list" (hV zs).toArray n)) (nd:(zs.map (·.1)).Nodup) (hz:zs.length<=63)
 (h:∀ ys h' c,ys.Perm zs->ys.Pairwise (fun x y=>x.1<y.1)->h'.get? a=some (seqObj "list" (hV ys).toArray c)->(∀ b o,b≠a->s.heap.get? b=some o->h'.get? b=some o)->P (.done (.ret .none)) { s with heap:=h' }) :
 wpAny (model prog w) A (Builtin.«list.sort» ⟨[.ref a],[]⟩) P E s:=by
 have hvl:(hV zs).length=zs.length:=by simp[hV]
 have at_:∀ k (hk:k<zs.length),hJ (0,0) zs k=zs[k]:=fun k hk=>by simp[hJ,hk]
 refine rG (κ:=oneType') (lt:=fun i j=>decide ((hJ (0,0) zs i).1<(hJ (0,0) zs j).1)) ho (by lia) (fun H oth h2=>⟨fun Q q=>?_,⟨fun i=>by simp,fun i j k=>by grind,fun i j hi hj e=>?_⟩,fun i j C hi hj q=>?_⟩) fun p h' c pm so e k=>?_
 .have hkind:keyKind' (hV zs).toArray=pure oneType':=by
   match zs,(show 2<=zs.length by lia) with
   |z1::z2::r,_=>exact keyKind_ints (rJ (z1::z2::r))
  rw[hkind];exact Os q
 .rw[hvl]at hi hj;rw[at_ i hi,at_ j hj];rcases Rt e with q|q
  .have:=OT.mp nd i j (by grind) (by grind) q;grind
  .have:=OT.mp nd j i (by grind) (by grind) q;grind
 .rw[hvl]at hi hj;unfold PySem.W.kas_ask;have one:∀ k (hk:k<zs.length),(hV zs).getD k Value.none=.int zs[k].1 zs[k].2:=fun k hk=>by simp[hV,hk]
  rw[one i hi,one j hj,keyLt'_oneType];dsimp only at q;rw[at_ i hi,at_ j hj]at q;exact oneLt_int q
 .rw[hvl]at pm so;refine h (p.toList.map (hJ (0,0) zs)) h' c (oP _ pm) ((u9 (r:=fun x y=>decide (x.1<y.1)) pm so).imp fun h=>O2 h) ?_ k;rw[e];unfold hV;rw[rF (0,0) pm]
end
section
theorem oQ:∀ ys:List rH,Vals (ys.map fun y=>V.int y.1) (hV ys)
 | []=>.nil
 |y::ys=>.cons ⟨y.2,rfl⟩ (oQ ys)
theorem nT (hc:X.calm=true):bQ X (.builtin "sorted") (fun vs H Q=>∃ p es its,vs=[.ref p]/\H p=some (.ext fun h=>SetAt X.w h p es)/\dX (eI X.prog X.w) es its/\its.length<=63/\
 ∀(l:Addr)(ks:List Int),H l=none->(∀ k,k∈ks↔k∈its.map (·.1))->ks.Pairwise (·< ·)->Q (.ref l) (upd H l (.lst (ks.map V.int)))):=by
 intro af s σ H vs us Q I r h;obtain⟨p,es,its,rfl,hp,v,hz,q⟩:=h;obtain⟨u,rfl,ru⟩:=dm r;obtain rfl:u=Value.ref p:=ru;obtain⟨hS,_,_⟩:=(show ObjOk X.prog X.w H s.heap p (.ext fun h=>SetAt X.w h p es) from I.aX p _ hp);refine jA hS v Hz (I.ok.hd hc) (by decide) (lt:=(·< ·)) (fun A E s a n zs P _ ho _ nd hz h=>wn ho nd hz h) hz fun ys h' tk l c so hyl hle hl hk=>?_;have em:(ys.map (·.1)).map V.int=ys.map fun y=>V.int y.1:=by rw[PN];rfl
 refine⟨.ref l,_,I.laid (a:=l) (o:=.lst ((ys.map (·.1)).map V.int)) (t':=tk) hk hle ?_,rfl,q l (ys.map (·.1)) (I.aX.fresh hle) (fun k=>?_) (PD.mpr so.pw)⟩
 .rw[em];exact⟨by rw[Ot,OG];lia,hV ys,c,oQ ys,hl⟩
 .constructor
  .intro hk;obtain⟨y,hy,rfl⟩:=OB.mp hk;exact OB.mpr ⟨y,so.sub y hy,rfl⟩
  .intro hk;obtain⟨x,hx,rfl⟩:=OB.mp hk;obtain⟨y,y1,y2⟩:=so.all x hx;exact OB.mpr ⟨y,y1,y2⟩
end
end L2
namespace L2
open PySem PySem.Spec PySem.Calls PyProof.Rows
section
theorem E6 {k:List bG}{dflt:SI}{Q:SI->SF->Prop}(hu:A.units<cLine)(gX:(tK prog w).is s.heap k a)(hm:s.heap.DictOfH (tK prog w) d xs)(hsz:xs.length<=sizeLine)
 (h1:∀ p,atKey xs k=some p->Q p.2 { s with toks:=s.toks+(tK prog w).draws k })
 (h2:atKey xs k=none->∀ h',h'.DictOfH (tK prog w) d (storedH xs k a dflt)->Heap.SameBut d s.heap h'->Q dflt { s with heap:=h',toks:=s.toks+(tK prog w).draws k }):wpAny (model prog w) A (dictSetDefault d (.ref a) dflt) Q E s:=by
 obtain⟨o,es,ep,ho,hc,hd,he,his,hn⟩:=hm;unfold dictSetDefault
 try with_reducible refine Pl ?_
 refine KE ((tK prog w).pyHash hu gX (KE (wpAny_dictFind_heap (knd:=tK prog w) (s:={ s with toks:=s.toks+(tK prog w).draws k }) hu gX ho hd he his hn (fun hno=>?_) fun j p hj=>?_)))
 .have hnone:=atKey_none_of_get hno;have hnot:k∉xs.map (·.1):=not_mem_keys_of_get hno;refine KE (Sm (KE (wpAny_updateDictKeys (hz:=by have e:=size_of_entries he;lia) (s:={ s with toks:=s.toks+(tK prog w).draws k }) ho hd (Os (h2 hnone _ ⟨_,_,ep+1,Pq _ ho (Obj.isFreed_of_dict (Q5 hd _)),hc.mapDictKeys _,Q5 hd _,?_,?_,?_⟩ (Pc ..))))))
  .rw[storedH_new hnone];simp[he,entryOfKey]
  .rw[storedH_new hnone];intro x hx;rcases OX.mp hx with hx|hx
   .exact(tK prog w).keeps (his x hx) ho hd (Pc ..)
   .obtain rfl:=OI.mp hx;exact(tK prog w).keeps gX ho hd (Pc ..)
  .rw[storedH_new hnone,O3,Qs];exact⟨hn,by simp,fun x hx y hy e=>by simp only[OE,QJ,OI]at hy;subst hy;exact hnot (e▸hx)⟩
 .refine KE (RH (s:={ s with toks:=s.toks+(tK prog w).draws k }) ho hd ?_);rw[entry_at he j,hj];exact KE (Sm (Os (h1 p (atKey_of_get hn hj))))
end
section
def Ck:V->List V->Hp->VK->Prop:=fun x xs H Q=>∃ a b k y kvs,x=.ref a/\xs=[.ref b,y]/\H b=some (.tup (k.map kV))/\H a=some (.dT kvs)/\kvs.length<sizeLine/\
 ((∃ v,cz kvs k=some v/\Q v H)\/(cz kvs k=none/\Q y (upd H a (.dT (ci kvs k y)))))
theorem oR (hu:X.A.units+64<cLine):EH X "dict.setdefault" Ck:=by
 intro af s σ H x xs v us Q I rx rs q;obtain⟨a,b,k,y,kvs,rfl,rfl,hb,ha,hz,q⟩:=q;obtain rfl:v=Value.ref a:=rx;obtain⟨u1,u2,rfl,ru1,ru2⟩:=lI rs;obtain rfl:u1=Value.ref b:=ru1;obtain⟨z1,y1,vs,r1,d1⟩:=DM I.aX ha;have gX:=dS I.aX hb;have hT:Shared.TypeIs s (.ref a) "dict":=by obtain⟨o,es,ep,ho,hc,_⟩:=d1;exact⟨o,ho,hc.1⟩
 refine PB Po hT RT ?_ (RN _ _ _);unfold Builtin.«dict.setdefault»;refine KE ?_;unfold Builtin.Dict.keyAndDefault;refine KE (RO hT (show wpAny _ _ (pure (a,Value.ref b,some u2)) _ _ s from Os ?_));show wpAny _ _ (if (a==sysModules)=true then _ else (dictSetDefault a (Value.ref b) u2 >>= _)) _ _ s;rw[OL (by grind)];have bW:vs.length<=sizeLine:=by rw[<- QY r1];exact z1
 have rv:=r1.val k;refine KE (E6 (by grind) gX d1 bW (fun p hp=>?_) fun hn0 h' dd' hs=>?_)
 .rcases q with⟨v,hv,q⟩|⟨hv,q⟩
  .have:RelO (some v) (some p.2):=by rw[<- hv];rw[hp]at rv;exact rv
   exact Os ⟨_,rfl,v,H,I.tok _,this,q⟩
  .have:=rv.eY;rw[hv,hp]at this;cases this
 .rcases q with⟨v,hv,q⟩|⟨hv,q⟩
  .have:=rv.eY;rw[hv,hn0]at this;cases this
  .obtain⟨o',es,ep,hq,h2,h3,h4,_,h5⟩:=dd';have hl:(ci kvs k y).length<=sizeLine:=by have:=dN kvs k y;lia
   have aX:ObjOk X.prog X.w (upd H a (.dT (ci kvs k y))) h' a (.dT (ci kvs k y)):=by refine⟨hl,y1,_,(r1.put k hb ru2).keeps fun c ys ec=>?_,o',es,ep,hq,h2,h3,h4,h5⟩;rw[aA (xX ec ha (fun z=>nomatch z))];exact ec
   exact Os ⟨_,rfl,y,_,iE (t':=s.toks+(tK X.prog X.w).draws k) I (by rw[ha];exact True.intro) hs ⟨o',hq⟩ aX,ru2,q⟩
def tU:V->List V->Hp->VK->Prop:=fun x xs H Q=>∃ a b k y kvs,x=.ref a/\xs=[.ref b,y]/\H b=some (.tup (k.map kV))/\(H a=some (.dT kvs)\/(H a=some (.dK [])/\kvs=[]))/\kvs.length<sizeLine/\
 ((∃ v,cz kvs k=some v/\Q v H)\/(cz kvs k=none/\Q y (upd H a (.dT (ci kvs k y)))))
theorem jB (hu:X.A.units+64<cLine):EH X "dict.setdefault" tU:=by
 intro af s σ H x xs v us Q I rx rs q;obtain⟨a,b,k,y,kvs,e1,e2,hb,ha,hz,q⟩:=q;rcases ha with ha|⟨ha,rfl⟩
 .exact oR hu af s σ H x xs v us Q I rx rs ⟨a,b,k,y,kvs,e1,e2,hb,ha,hz,q⟩
 .have nba:b≠a:=xX hb ha (fun z=>nomatch z);refine oR hu af s σ (upd H a (.dT [])) x xs v us Q (I.LV ha) rx rs ⟨a,b,k,y,[],e1,e2,by rw[aA nba];exact hb,ao,hz,.inr ?_⟩;rcases q with⟨v,hv,q⟩|⟨hv,q⟩
  .cases hv
  .have:upd (upd H a (.dT [])) a (.dT (ci [] k y))=upd H a (.dT (ci [] k y)):=by
    funext c;by_cases h:c=a
    .subst h;rw[ao,ao]
    .rw[aA h,aA h,aA h]
   exact⟨hv,by grind⟩
end
def RawD (h:Heap)(d:Addr)(es:Array DictEntry)(ep:Nat):Prop:=∃ o,h.get? d=some o/\o.ExactDict/\o.data=.dict es ep
section
variable {prog:SH}{w:World}{A:SJ}{s:SF}{d v it:Addr}{es:Array DictEntry}{ep i:Nat}{ok ov:SI}
theorem RawD.ty (m:RawD s.heap d es ep):s.TypeIs (.ref d) "dict":=let ⟨o,h,c,_⟩:=m;⟨o,h,c.1⟩
theorem pL (d:Addr)(hd:(d==sysModules)=false) :
 MeetsIn prog w (Builtin.«dict.items» ⟨[.ref d],[]⟩) (fun _ R s=>(∃ es ep,RawD s.heap d es ep)/\R (.ok (.ret (.ref s.heap.objs.size))) { s with heap:=s.heap.push { cls:=.type "dict_items",data:=.fields #[.ref d] } }):=
 .of_wp fun A R s ⟨⟨es,ep,m⟩,h⟩=>by unfold Builtin.«dict.items» Builtin.Dict.noArgs;refine KE (KE (RO m.ty (Os ?_)));show wpAny _ _ (Builtin.Dict.showsAll d >>= _) _ _ s;unfold Builtin.Dict.showsAll;rw[OL (by rw[hd];simp)];exact KE (Os (KE (PY (Os ⟨_,rfl,h⟩))))
theorem rK (hv:s.heap.IsItemsView v d)(m:RawD s.heap d es ep)
 (hQ:Q (.ref s.heap.objs.size) { s with heap:=s.heap.push { cls:=.type "dict_itemiterator",data:=.fields #[.none,.bool false,.ref d,.int 0 0,.int es.size 0,.int ep 0,.none,.none] } }) :
 wpAny (model prog w) A (pyIter (.ref v)) Q E s:=by
 obtain⟨vo,e1,_,e2⟩:=id hv;obtain⟨o,ho,_,hd⟩:=id m;refine RG hv.typeIs F.slot_dict_items_iter (PB F.slot_dict_items_iter hv.typeIs F.entry_dict_items_iter ?_ (F.args_dict_items_iter_1 _));unfold Builtin.«dict_items.__iter__» Builtin.Dict_items.dictOf Builtin.Dict_items.newIterator;refine KE (Os (KE (KE (wpAny_field e1 e2 (x:=.ref d) rfl (Os (KE (KE (RH ho hd (KE (wpAny_dictEpoch ho hd ?_))))))))));simp only[show Builtin.Dict_items.ownsTuple "dict_itemiterator"=true by decide,QT];refine PY (Os ⟨_,rfl, "dict_itemiterator",_,⟨_,Oz _ rfl,rfl⟩,PC.lookup,?_⟩)
  (by simp only[sizeOk,Builtin.Dict_items.ownedTupleFields,OA,OF,OJ,P7,OG];lia)
 simpa[rawInt,Builtin.Dict_items.ownedTupleFields] using hQ
theorem rL (hh:A.handled=none)(y:IsItemIter s.heap it d i es.size ep ok ov)(m:RawD s.heap d es ep)(hi:es.size<=i)(hQ:∀ h',Heap.ExtBut it s.heap h'->Q none { s with heap:=h' }):wpAny (model prog w) A (pyNext (.ref it)) Q E s:=by
 obtain⟨o,ho,_,hd⟩:=id m;have hT:s.TypeIs (.ref it) "dict_itemiterator":=⟨_,y,rfl⟩;unfold pyNext;refine KE (Rr (QM (name:=Str.ofString "__next__") hT PC (PB PC hT F.entry_dict_itemiterator_next ?_ (F.args_dict_itemiterator_next_1 _))));refine KE (Os (KE (KE ?_)))
 first|refine KE (Ql hT (Os ?_))|refine KE (QD hT (Os ?_))
 refine KE (wpAny_fieldsOf y rfl ?_);simp only[show Builtin.Dict_items.ownsTuple "dict_itemiterator"=true by decide,QT];show wpAny _ _ (if (Value.ref d==Value.none)=true then _ else _) _ _ s;rw[OL (show ¬ ((Value.ref d==Value.none)=true) from ON)];refine KE (Os (KE (RH ho hd ?_)));rw[OL (by simp)];refine KE (Os (KE (wpAny_dictEpoch ho hd ?_)));rw[OL (by simp)];refine Os ?_;simp only[show ¬ ((i:Int)<0) from by lia,PL,RC,Array.getElem?_eq_none hi];refine KE ?_
 first|refine KE (Ql hT (Os ?_))|refine KE (QD hT (Os ?_))
 show wpAny _ _ (setField (.ref it) 2 .none >>= _) _ _ s;refine KE (Sf y rfl (by simp) ?_);show wpAny _ _ (newExc (.type "StopIteration") [] >>= _) _ _ _;refine KE ?_;simp only[newExc,newTuple];refine KE (PY ?_ (by size_fits));refine KE (m:=firstArgMember _ _) (Ss (a:=Value.none) (by first|rfl|(simp only[firstArgMember];rfl)) ?_);refine PY ?_ (by size_fits);simp only[raiseNew];refine KE (wpAny_handled ?_);rw[show A.in1.handled=none from hh];refine KE (Os (wpAny_throw ?_));refine KE (wpAny_isInstance (T:="StopIteration") (b:=true) ⟨_,Oz _ rfl,rfl⟩ isSubtype_stop ?_);exact Os (hQ _ (((Pc ..).extBut.push _).push _))
theorem tV (y:IsItemIter s.heap it d i es.size ep ok ov)(m:RawD s.heap d es ep)(he:es[i]?=some e)
 (hQ:∀ h',IsItemIterOut h' it d (i+1) es.size ep e.key e.val s.heap.objs.size->h'.get? s.heap.objs.size=some { cls:=.type "tuple",data:=.seq #[e.key,e.val] }->
   (∀ b o,b≠it->s.heap.get? b=some o->h'.get? b=some o)->Q (some (.ref s.heap.objs.size)) { s with heap:=h' }):wpAny (model prog w) A (pyNext (.ref it)) Q E s:=by
 obtain⟨hp,g,dr,tk,os⟩:=s;obtain⟨o,ho,_,hd⟩:=id m;have hT:Shared.TypeIs ⟨hp,g,dr,tk,os⟩ (.ref it) "dict_itemiterator":=⟨_,y,rfl⟩;have hil:hp.objs.size≠it:=Rg (Oy y);unfold pyNext;refine KE (Rr (QM (name:=Str.ofString "__next__") hT PC (PB PC hT F.entry_dict_itemiterator_next ?_ (F.args_dict_itemiterator_next_1 _))));refine KE (Os (KE (KE ?_)))
 first|refine KE (Ql hT (Os ?_))|refine KE (QD hT (Os ?_))
 refine KE (wpAny_fieldsOf y rfl ?_);simp only[show Builtin.Dict_items.ownsTuple "dict_itemiterator"=true by decide,QT];show wpAny _ _ (if (Value.ref d==Value.none)=true then _ else _) _ _ _;rw[OL (show ¬ ((Value.ref d==Value.none)=true) from ON)];refine KE (Os (KE (RH ho hd ?_)));rw[OL (by simp)];refine KE (Os (KE (wpAny_dictEpoch ho hd ?_)));rw[OL (by simp)];refine Os ?_;simp only[show ¬ ((i:Int)<0) from by lia,PL,RC,he];refine KE ?_
 first|refine KE (Ql hT (Os ?_))|refine KE (QD hT (Os ?_))
 refine KE (Rz hT ?_);show wpAny _ _ (setField (.ref it) 3 (rawInt ((i:Int)+1)) >>= _) _ _ ⟨hp,g,dr,tk,os⟩;refine KE (QV y (by simp) fun h1 y1 s1=>?_);replace s1:Heap.SameBut it hp h1:=s1;replace y1:IsItemIter h1 it d (i+1) es.size ep ok ov:=by
  have q:((i+1:Nat):Int)=(i:Int)+1:=by lia
  unfold IsItemIter;rw[q];simpa[rawInt] using y1
 have hT1:Shared.TypeIs ⟨h1,g,dr,tk,os⟩ (.ref it) "dict_itemiterator":=⟨_,y1,rfl⟩;refine KE (Pl (KE (Rz hT1 (KE (Rz hT1 ?_)))));show wpAny _ _ (Builtin.Dict_items.pairFromOwner (.ref it) 6 e.key e.val) _ _ ⟨h1,g,dr,tk,os⟩;unfold Builtin.Dict_items.pairFromOwner;refine KE (wpAny_newTuple ?_);have y2:IsItemIter (h1.push { cls:=.type "tuple",data:=.seq #[e.key,e.val] }) it d (i+1) es.size ep ok ov:=Oo _ y1;have t2:(h1.push { cls:=.type "tuple",data:=.seq #[e.key,e.val] }).get? hp.objs.size=some { cls:=.type "tuple",data:=.seq #[e.key,e.val] }:=by rw[<- s1.1];exact Oz _ rfl
 have k2:∀ b o,b≠it->hp.get? b=some o->(h1.push { cls:=.type "tuple",data:=.seq #[e.key,e.val] }).get? b=some o:=fun b o n q=>Oo _ (s1.extBut b o n q);have z1:h1.objs.size=hp.objs.size:=s1.1;generalize h1.push { cls:=.type "tuple",data:=.seq #[e.key,e.val] }=h2 at y2 t2 k2;show wpAny _ _ (Builtin.Dict_items.ownedTupleIsFree (.ref it) >>= _) _ _ ⟨h2,g,dr,tk,os⟩;rw[z1];clear y1 s1 hT1 z1 h1;refine KE ?_;unfold Builtin.Dict_items.ownedTupleIsFree;refine KE (wpAny_field y2 rfl (x:=.none) rfl (Os ?_));simp only[QT];refine KE (wpAny_field y2 rfl (x:=ok) rfl (KE (wpAny_field y2 rfl (x:=ov) rfl ?_)));refine KE (QV y2 (by simp) fun h3 y3 s3=>?_);replace y3:IsItemIter h3 it d (i+1) es.size ep e.key ov:=y3;refine KE (QV y3 (by simp) fun h4 y4 s4=>?_);replace y4:IsItemIter h4 it d (i+1) es.size ep e.key e.val:=y4;refine KE (QV y4 (by simp) fun h5 y5 s5=>?_);replace y5:IsItemIterOut h5 it d (i+1) es.size ep e.key e.val hp.objs.size:=y5;refine KE (QV y5 (by simp) fun h6 y6 s6=>?_);replace y6:IsItemIterOut h6 it d (i+1) es.size ep e.key e.val hp.objs.size:=y6;have up:∀ b o,b≠it->h2.get? b=some o->h6.get? b=some o:=fun b o n q=>Rc (show Heap.SameBut it h5 h6 from s6) b o n (Rc (show Heap.SameBut it h4 h5 from s5) b o n (Rc (show Heap.SameBut it h3 h4 from s4) b o n (Rc (show Heap.SameBut it h2 h3 from s3) b o n q)));exact KE (Sw (Os (Os ⟨_,rfl,Os (hQ h6 y6 (up _ _ hil t2) fun b o n q=>up b o n (k2 b o n q))⟩)))
end
theorem tW {P:SH}{w:World}{K:SG}{es:List Expr}{k0:Nat}{pos:Pos}{J:It}{d it:Addr}{o:Obj}{u:HO}{en:Array DictEntry}{ep:Nat}(hex:o.ExactDict)(hdat:o.data=.dict en ep)(hgo:∀ i H,J.go i H->H d=some (.cm o u))(hst:∀ i H,J.stop i H->H d=some (.cm o u)/\en.size<=i)
 (hent:∀ H h,HOk P w H h->∀ i,J.go i H->∃ e y v,en[i]?=some e/\RelV y e.key/\RelV v e.val/\∀ p,H p=none->J.vM i H (.ref p) (upd H p (.tup [y,v]))) :
 Turn P w K (.Tuple es k0 pos) J [it] it (fun i h=>∃ ok ov,IsItemIter h it d i en.size ep ok ov) where
 mem:=by simp
 obj:=fun i h st b hb=>by
  have e:b=it:=by simpa using hb
  subst e;obtain⟨ok,ov,e⟩:=st;exact⟨_,e,fun v z=>by cases z⟩
 keep:=fun i h h' st k=>by obtain⟨ok,ov,e⟩:=st;exact⟨ok,ov,k it (by simp) _ e⟩
 item:=by
  intro X hP hw hK hc i af s σ H E I hf st hg;subst hP hw hK;have hd:=hgo i H hg;obtain⟨ok,ov,st⟩:=st;obtain⟨eo,_⟩:=(show ObjOk X.prog X.w H s.heap d (.cm o u) from I.aX d _ hd);obtain⟨e,y,v,he,ry,rv,hy⟩:=hent H s.heap I.aX i hg;have fi:=hf it (by simp);refine tV st ⟨o,eo,hex,hdat⟩ he fun h' hout hT kp=>?_;refine⟨_,rfl,wpAny_letOwnedTupleGo_items hout fun h'' hit'' hs''=>?_⟩;have keep2:∀ b o,b≠it->s.heap.get? b=some o->h''.get? b=some o:=fun b o n1 q=>(hs''.2 b n1).trans (kp b o n1 q);have hTe:s.heap.objs.size≠it:=Rg (Oy st);have hT'':h''.get? s.heap.objs.size=some { cls:=.type "tuple",data:=.seq #[e.key,e.val] }:=(hs''.2 _ hTe).trans hT;have fr:=I.aX.fresh (Oq _);have I1:Inv X af σ (upd H s.heap.objs.size (.tup [y,v])) { s with heap:=h'' }:=by
   refine I.step (g':=s.gens) (d':=s.drawn) (ch:=[it]) (fun b hb=>?_) (fun b o _ _ hn q _=>keep2 b o (fun z=>hn (by simp[z])) q)
    (fun b o _ _ hn q _=>⟨o.slots,keep2 b o (fun z=>hn (by simp[z])) q⟩) (fun b o _ q hH=>by rw[aA (OQ (Oy q))];exact hH)
    (fun b o hn q=>⟨o,keep2 b o (fun z=>hn (by simp[z])) q⟩) (fun b ys q=>by rw[aA (aB q fr)];exact q)
    (fun b o' u' q=>by rw[aA (aB q fr)];exact q) (fun b ps q=>⟨#[],by rw[aA (aB q fr)];simp[q]⟩) (fun m hm=>?_) (fun b u' q=>?_) I.bare
   .have:b=it:=by simpa using hb
    subst this;exact⟨fi.2.2.2.1,fi.2.1,fi.2.2.2.2.1,fi.2.2.2.2.2⟩
   .obtain⟨o,es',ep,ho',r⟩:=hm;exact⟨o,es',ep,keep2 _ o (Pw fi.2.1) ho',r⟩
   .by_cases hb:b=s.heap.objs.size
    .subst hb;rw[ao]at q;cases q;exact⟨by show 2<=sizeLine;decide,[e.key,e.val],.cons ry (.cons rv .nil),⟨_,hT'',rfl,0,rfl⟩⟩
    .rw[aA hb]at q;refine(I.aX b u' q).stay (fun c v hc' q'=>keep2 c v ?_ q') (fun c r=>by rw[aA (aB r fr)];exact r) fun c ys r=>by rw[aA (aB r fr)];exact r
     rcases hc' with z|z
     .rw[z];exact aB q fi.1
     .exact aB z fi.1
  refine⟨.ref s.heap.objs.size,_,I1,rfl,hy _ fr,⟨_,_,hit''⟩,fun b hb=>?_⟩;have:b=it:=by simpa using hb
  subst this;rw[aA (OQ (Oy st))];exact fi.1
 done:=by intro X hP hw hK hc i af s σ H E I hf st hg;subst hP hw hK;obtain⟨hd,hi⟩:=hst i H hg;obtain⟨ok,ov,st⟩:=st;obtain⟨eo,_⟩:=(show ObjOk X.prog X.w H s.heap d (.cm o u) from I.aX d _ hd);obtain⟨f0,f1,f2,f3,f4,f5⟩:=hf it (by simp);exact rL (I.ok.hd hc) st ⟨o,eo,hex,hdat⟩ (by lia) fun h' eb=>⟨rfl,I.turned (t':=s.toks) (fun b o hb e=>eb b o hb e) f0 f1 f3 f4 f5⟩
 self:=fun A i s Q E st h=>by obtain⟨ok,ov,st⟩:=st;have hT:s.TypeIs (.ref it) "dict_itemiterator":=⟨_,st,rfl⟩;refine RG hT F.slot_dict_itemiterator_iter (PB F.slot_dict_itemiterator_iter hT (entryFor_alias (id':="dict_keyiterator.__iter__") (by kernel_rfl) rfl (by decide +kernel) (by kernel_rfl):entryFor table "dict_itemiterator.__iter__"=some Builtin.«dict_keyiterator.__iter__») ?_ (F.args_dict_itemiterator_iter_1 _));show wpAny _ _ (ret (.ref it)) _ _ s;exact Os ⟨_,rfl, "dict_itemiterator",_,hT,PC.lookup,h⟩
section
theorem oS {R:It->Hp->Prop}(I2:Inv X af σ H2 s1)(e2:H2 d=some (.cm o u))(hd:(d==sysModules)=false)(hex:o.ExactDict)(hdat:o.data=.dict en ep)(hgo:∀ i H,J.go i H->H d=some (.cm o u))(hst:∀ i H,J.stop i H->H d=some (.cm o u)/\en.size<=i)
 (hent:∀ H h,HOk X.prog X.w H h->∀ i,J.go i H->∃ e y v,en[i]?=some e/\RelV y e.key/\RelV v e.val/\∀ p,H p=none->J.vM i H (.ref p) (upd H p (.tup [y,v]))) (q2:R J H2) :
 MethodOn X.prog X.w X.A "items" cpos (.ref d) [] (fun v s1=>wX X (pyIter v) (Hh X af σ (.Tuple es k0 AM) R) X.xe s1) X.xe s1:=by
 obtain⟨eo,_⟩:=(show ObjOk X.prog X.w H2 s1.heap d (.cm o u) from I2.aX d _ e2);have hty:s1.TypeIs (.ref d) "dict":=⟨o,eo,hex.1⟩;have hnod:∀ a,Value.ref d=.ref a->∃ ob,s1.heap.get? a=some ob/\ob.dict=none:=fun a e=>by cases e;exact⟨o,eo,hex.2.1⟩
 refine⟨"dict", "dict.items",O8,PySem.F.slot_dict_items,PySem.F.type_dict_items,hty,hnod,Qc rfl (PySem.evalArgs_none ?_)⟩;refine Rk PySem.F.slot_dict_items hty PySem.F.entry_dict_items (PySem.F.args_dict_items_1 _) (pL d hd) ⟨⟨en,ep,o,eo,hex,hdat⟩,?_⟩;have I3:Inv X af σ H2 { s1 with heap:=s1.heap.push { cls:=.type "dict_items",data:=.fields #[.ref d] } }:=I2.kept (t':=s1.toks) fun b o e=>Oo _ e;have e3:({ s1 with heap:=s1.heap.push { cls:=.type "dict_items",data:=.fields #[.ref d] } }:SF).heap.get? d=some o:=Oo _ eo;generalize hs3:({ s1 with heap:=s1.heap.push { cls:=.type "dict_items",data:=.fields #[.ref d] } }:SF)=s3 at I3 e3;have hv:s3.heap.IsItemsView s1.heap.objs.size d:=by rw[<- hs3];exact⟨_,Oz _ rfl,rfl,rfl⟩
 show wpAny _ _ (pyIter (.ref s1.heap.objs.size)) _ _ _;refine rK hv ⟨o,e3,hex,hdat⟩ ?_;refine⟨s3.heap.objs.size,[s3.heap.objs.size],_,_,H2,rfl,I3.kept (t':=s3.toks) fun b o e=>Oo _ e,tW hex hdat hgo hst hent,⟨_,_,Oz _ rfl⟩,fun b hb=>?_,q2⟩;have e:b=s3.heap.objs.size:=by simpa using hb
 subst e;exact I3.qu (Oq _) (I3.aX.fresh (Oq _))
end
def JX (d:Addr)(o:Obj)(u:HO)(kvs:List (bG×V)):It:=⟨fun i H=>H d=some (.cm o u)/\i<kvs.length,fun i H x H'=>∃ p k v,H p=none/\x=.ref p/\H'=upd H p (.tup [kV k,v])/\kvs[i]?=some (k,v),fun i H=>H d=some (.cm o u)/\kvs.length<=i⟩
theorem KV.at (r:KV a b):∀(i:Nat) p q,a[i]?=some p->b[i]?=some q->p.1=q.1/\RelV p.2 q.2:=by
 induction r with
 |nil=>intro i p q e;simp at e
 |cons hq t ih=>
  intro i p q e1 e2;cases i with
  |zero=>simp at e1 e2;subst e1 e2;exact hq
  |succ i=>exact ih i p q (by simpa using e1) (by simpa using e2)
theorem yW {P:SH}{w:World}{a:List (bG×V)}{b:List (bG×SI)}{l:List DictEntry}(r:KV a b)(q:Pairs (aS P w) l b):l.length=a.length/\∀(i:Nat) p,a[i]?=some p->∃ e,l[i]?=some e/\RelV (kV p.1) e.key/\RelV p.2 e.val:=by
 unfold KV at r;induction r generalizing l with
 |nil=>cases q;exact⟨rfl,fun i p e=>by simp at e⟩
 |cons h _ ih=>
  cases q with
  |cons h1 h2 q=>
   obtain⟨a,b⟩:=ih q;refine⟨by simp[a],fun i p e=>?_⟩;cases i with
   |zero=>simp only[List.getElem?_cons_zero,Option.some.injEq]at e;subst e;exact⟨_,rfl,by rw[h.1];exact B7 h1,by rw[h2];exact h.2⟩
   |succ i=>exact b i p e
section
def HB (X:Cx)(tl:TE):TI:=fun σ H R=>tl σ H fun x H1=>∃ d kvs u,x=.ref d/\(u=.dK kvs\/(u=.dT []/\kvs=[]))/\((∃ o,H1 d=some (.cm o u)/\R (JX d o u kvs) H1)\/(H1 d=some u/\∀ o,(∀ o' v,X.H₀ d≠some (.cm o' v))->R (JX d o u kvs) (upd H1 d (.cm o u))))
theorem yX {tl:TE} {apos cpos:Pos} (hl:PE X l tl) (hbase:autoParam (attributeBase l "items" X.env (eval l X.env)=eval l X.env) SQ._auto_1) (hline:autoParam ((apos.endLine==cpos.line)=true) SQ._auto_1):PI X (.Tuple es k0 AM) (.Call (.Attribute l "items" apos) [] [] cpos) (HB X tl):=by
 intro af s σ H R I h;refine Rq hbase hline (b7 (hl af s σ H _ I h) fun v s1 ⟨x,H1,I1,r1,q1⟩=>?_);obtain⟨d,kvs,u,e,hu,q⟩:=q1;subst e;cases r1;have qq:nO u:=by rcases hu with rfl|⟨rfl,_⟩<;>exact True.intro
 have fin:∀(o:Obj)(H2:Hp),Inv X af σ H2 s1->H2 d=some (.cm o u)->R (JX d o u kvs) H2->MethodOn X.prog X.w X.A "items" cpos (.ref d) [] (fun v s1=>wX X (pyIter v) (Hh X af σ (.Tuple es k0 AM) R) X.xe s1) X.xe s1:=fun o H2 I2 e2 q2=>by
  obtain⟨eo,hx⟩:=(show ObjOk X.prog X.w H2 s1.heap d (.cm o u) from I2.aX d _ e2);have key:∀{H h},HOk X.prog X.w H h->H d=some (.cm o u)->(d==sysModules)=false/\∃ en ep vs,o.ExactDict/\o.data=.dict en ep/\KV kvs vs/\Pairs (aS X.prog X.w) en.toList vs:=fun{H h} ok e=>by
   obtain⟨eo,hx⟩:=(show ObjOk X.prog X.w H h d (.cm o u) from ok d _ e);have key:(d==sysModules)=false/\∃ vs,KV kvs vs/\h.DictOf (aS X.prog X.w) d vs:=by
    rcases hu with rfl|⟨rfl,rfl⟩
    .exact hx.2
    .obtain⟨hd,dd⟩:=pE hx;exact⟨hd,[],.nil,dd⟩
   obtain⟨hd,vs,rel,o',en,ep,eo',hex,hdat,_,hpr,_⟩:=key;rw[eo]at eo';cases eo';exact⟨hd,en,ep,vs,hex,hdat,rel,hpr⟩
  obtain⟨hd,en,ep,vs,hex,hdat,rel,hpr⟩:=key I2.aX e2;refine oS (J:=JX d o u kvs) I2 e2 hd hex hdat (fun i H h=>h.1) (fun i H h=>⟨h.1,?_⟩) (fun H h ok i g=>?_) q2
  .rw[<- Pb,(yW rel hpr).1];exact h.2
  .obtain⟨_,g⟩ : _/\i<kvs.length:=g;have hk:kvs[i]?=some kvs[i]:=by simp[g]
   obtain⟨e,h1,h2,h3⟩:=(yW rel hpr).2 i _ hk;exact⟨e,kV kvs[i].1,kvs[i].2,by rw[<- OY];exact h1,h2,h3,fun p hp=>⟨p,_,_,hp,rfl,rfl,hk⟩⟩
 rcases q with⟨o,e1,q⟩|⟨e1,q⟩
 .exact fin o H1 I1 e1 q
 .have hob:∃ o,s1.heap.get? d=some o:=by
   rcases hu with rfl|⟨rfl,_⟩
   .obtain⟨_,_,_,_,o,_,_,ho,_⟩:=(show ObjOk X.prog X.w H1 s1.heap d (.dK kvs) from I1.aX d _ e1);exact⟨o,ho⟩
   .obtain⟨_,_,_,_,o,_,_,ho,_⟩:=(show ObjOk X.prog X.w H1 s1.heap d (.dT []) from I1.aX d _ e1);exact⟨o,ho⟩
  obtain⟨o,ho⟩:=hob;exact fin o _ (I1.cm e1 qq ho) ao (q o (I1.Eh e1 qq))
end
def JY (d:Addr)(o:Obj)(u:HO)(kvs:List (List bG×V)):It:=⟨fun i H=>H d=some (.cm o u)/\i<kvs.length,fun i H x H'=>∃ p b k v,H p=none/\x=.ref p/\H b=some (.tup (k.map kV))/\H'=upd H p (.tup [.ref b,v])/\kvs[i]?=some (k,v),fun i H=>H d=some (.cm o u)/\kvs.length<=i⟩
theorem KT.at {H:Hp}{a:List (List bG×V)}{b:List (List bG×Addr×SI)}(r:KT H a b):∀(i:Nat) p q,a[i]?=some p->b[i]?=some q->p.1=q.1/\H q.2.1=some (.tup (p.1.map kV))/\RelV p.2 q.2.2:=by
 induction r with
 |nil=>intro i p q e;simp at e
 |cons hq t ih=>
  intro i p q e1 e2;cases i with
  |zero=>simp at e1 e2;subst e1 e2;exact hq
  |succ i=>exact ih i p q (by simpa using e1) (by simpa using e2)
section
def HC (X:Cx)(tl:TE):TI:=fun σ H R=>tl σ H fun x H1=>∃ d kvs u,x=.ref d/\(u=.dT kvs\/(u=.dK []/\kvs=[]))/\((∃ o,H1 d=some (.cm o u)/\R (JY d o u kvs) H1)\/(H1 d=some u/\∀ o,(∀ o' v,X.H₀ d≠some (.cm o' v))->R (JY d o u kvs) (upd H1 d (.cm o u))))
theorem wo (hl:PE X l tl) (hbase:autoParam (attributeBase l "items" X.env (eval l X.env)=eval l X.env) SQ._auto_1) (hline:autoParam ((apos.endLine==cpos.line)=true) SQ._auto_1):PI X (.Tuple es k0 AM) (.Call (.Attribute l "items" apos) [] [] cpos) (HC X tl):=by
 intro af s σ H R I h;refine Rq hbase hline (b7 (hl af s σ H _ I h) fun v s1 ⟨x,H1,I1,r1,q1⟩=>?_);obtain⟨d,kvs,u,e,hu,q⟩:=q1;subst e;cases r1;have qq:nO u:=by rcases hu with rfl|⟨rfl,_⟩<;>exact True.intro
 have fin:∀(o:Obj)(H2:Hp),Inv X af σ H2 s1->H2 d=some (.cm o u)->R (JY d o u kvs) H2->MethodOn X.prog X.w X.A "items" cpos (.ref d) [] (fun v s1=>wX X (pyIter v) (Hh X af σ (.Tuple es k0 AM) R) X.xe s1) X.xe s1:=fun o H2 I2 e2 q2=>by
  obtain⟨eo,_⟩:=(show ObjOk X.prog X.w H2 s1.heap d (.cm o u) from I2.aX d _ e2);have key:∀{H h},HOk X.prog X.w H h->H d=some (.cm o u)->(d==sysModules)=false/\∃(en:Array DictEntry)(ep:Nat),o.ExactDict/\o.data=.dict en ep/\en.size=kvs.length/\∀(i:Nat) p,kvs[i]?=some p->∃ e b,en[i]?=some e/\e.key=.ref b/\H b=some (.tup (p.1.map kV))/\RelV p.2 e.val:=fun{H h} ok e=>by
   obtain⟨eo,hx⟩:=(show ObjOk X.prog X.w H h d (.cm o u) from ok d _ e);rcases hu with rfl|⟨rfl,rfl⟩
   .obtain⟨_,hd,xs,rel,o',en,ep,eo',hex,hdat,hes,_,_⟩:=kE ok (.inr ⟨o,e⟩);rw[eo]at eo';cases eo';refine⟨hd,en,ep,hex,hdat,by rw[size_of_entries hes,QY rel],fun i p hp=>?_⟩;have hl:i<xs.length:=by rw[<- QY rel];exact(Ov.mp hp).1
    have hx:xs[i]?=some xs[i]:=by simp[hl]
    obtain⟨_,hb,rv⟩:=rel.at i _ _ hp hx;exact⟨_,_,by rw[entry_at hes,hx];rfl,rfl,hb,rv⟩
   .obtain⟨_,hd,vs,rel,o',en,ep,eo',hex,hdat,_,hpr,_⟩:=js ok (.inr ⟨o,e⟩);rw[eo]at eo';cases eo';cases rel;cases he:en.toList with
    |nil=>exact⟨hd,en,ep,hex,hdat,by rw[<- Pb,he];rfl,fun i p e=>by simp at e⟩
    |cons _ _=>rw[he]at hpr;cases hpr
  obtain⟨hd,en,ep,hex,hdat,bW,_⟩:=key I2.aX e2;refine oS (J:=JY d o u kvs) I2 e2 hd hex hdat (fun i H h=>h.1) (fun i H h=>⟨h.1,by rw[bW];exact h.2⟩) (fun H h ok i g=>?_) q2;obtain⟨_,en',ep',_,hdat',_,f⟩:=key ok g.1;rw[hdat]at hdat';cases hdat';obtain⟨_,g⟩ : _/\i<kvs.length:=g;have hk:kvs[i]?=some kvs[i]:=by simp[g]
  obtain⟨e,b,h1,h2,h3,h4⟩:=f i _ hk;exact⟨e,.ref b,kvs[i].2,h1,h2,h4,fun p hp=>⟨p,b,_,_,hp,rfl,h3,rfl,hk⟩⟩
 rcases q with⟨o,e1,q⟩|⟨e1,q⟩
 .exact fin o H1 I1 e1 q
 .have hob:∃ o,s1.heap.get? d=some o:=by
   rcases hu with rfl|⟨rfl,_⟩
   .obtain⟨_,_,_,_,o,_,_,ho,_⟩:=(show ObjOk X.prog X.w H1 s1.heap d (.dT kvs) from I1.aX d _ e1);exact⟨o,ho⟩
   .obtain⟨_,_,_,_,o,_,_,ho,_⟩:=(show ObjOk X.prog X.w H1 s1.heap d (.dK []) from I1.aX d _ e1);exact⟨o,ho⟩
  obtain⟨o,ho⟩:=hob;exact fin o _ (I1.cm e1 qq ho) ao (q o (I1.Eh e1 qq))
end
section
theorem vc:∀{vs:List V}{its:List SI},vs.length=its.length->(∀(i:Nat) v u,vs[i]?=some v->its[i]?=some u->RelV v u)->Vals vs its
 | [],[],_,_=>.nil
 | [],_::_,e,_=>by cases e
 |_::_,[],e,_=>by cases e
 |v::vs,u::its,e,f=>.cons (f 0 v u rfl rfl) (vc (by simpa using e) fun i w z a b=>f (i+1) w z (by simpa using a) (by simpa using b))
def vd (ta:TA):TE:=fun σ H Q=>ta σ H fun vs H1=>∃ j:Int,vs=[.int j]/\0<=j/\j<=1000/\∀ l,H1 l=none->Q (.ref l) (upd H1 l (.lst ((List.range j.toNat).map fun k=>.int (k:Nat))))
theorem wq (hc:X.calm=true) (hgl:Gl X "list") (hml:X.mg "list"=none) (hvl:bootBuiltins "list"=some (.type "list")) (hg:Gl X "range") (hm:X.mg "range"=none) (ha:PA X [a] ta) (hs:autoParam (starEach [a] X.env=[(false,eval a X.env)]) SQ._auto_1)
 (hs2:autoParam (starEach [.Call (.Name "range" p2) [a] [] pos2] X.env=[(false,eval (.Call (.Name "range" p2) [a] [] pos2) X.env)]) SQ._auto_1):PE X (.Call (.Name "list" p) [.Call (.Name "range" p2) [a] [] pos2] [] pos) (vd ta):=by
 intro af s σ H Q I h;refine Call_ (gw I hgl hml hvl (PH ?_ hs2 rfl));rw[hs2];show wpAny _ _ (spliced ((false,eval (.Call (.Name "range" p2) [a] [] pos2) X.env)::[])) _ _ s;refine Qy (Call_ (gw I hg hm boot_range (PH (b7 (ha pos2 af s σ H _ I h) fun us s1 ⟨vs,H1,I1,r1,q1⟩=>?_) hs rfl)));obtain⟨j,e,j0,j1,q⟩:=q1;subst e;cases r1 with
 |cons r rr=>
  cases rr;obtain⟨t,rfl⟩:=r;refine call_range_1 (QZ ?_);have I2:Inv X af σ H1 { s1 with heap:=s1.heap.push { cls:=.type "range",data:=.fields #[.int 0 s1.toks,.int j t,.int 1 (s1.toks+1)] },toks:=s1.toks+1+1 }:=I1.kept fun b o e=>Oo _ e;have hr:IsRange ({ s1 with heap:=s1.heap.push { cls:=.type "range",data:=.fields #[.int 0 s1.toks,.int j t,.int 1 (s1.toks+1)] },toks:=s1.toks+1+1 }:SF).heap s1.heap.objs.size 0 j 1 s1.toks t (s1.toks+1):=Oz _ rfl;generalize ({ s1 with heap:=s1.heap.push { cls:=.type "range",data:=.fields #[.int 0 s1.toks,.int j t,.int 1 (s1.toks+1)] },toks:=s1.toks+1+1 }:SF)=s2 at I2 hr;have hn:Builtin.Range.rangeSize 0 j 1=(j.toNat:Nat):=by rw[rangeSize_one];split<;>lia
  refine call_list_range (I2.ok.hd hc) hr (small_one (by lia) (by lia) (by lia) (by lia)) hn (by lia) fun h' tk acc c' kp e it=>?_;obtain⟨i1,i2⟩:=it;have rv:Vals ((List.range j.toNat).map fun k=>.int (k:Nat)) acc.toList:=by
   refine vc (by rw[Ot,Pj,Pb,i1]) fun i v w ev ew=>?_;obtain⟨t',rfl⟩:=i2 i w (by rw[<- OY];exact ew);rw[OD]at ev;have hi:i<j.toNat:=by have:=(Ov.mp ew).1;rw[Pb,i1]at this;exact this
   rw[List.getElem?_range hi]at ev;cases ev;exact⟨t',by congr 1;lia⟩
  have e:h'.get? s2.heap.objs.size=some { cls:=.type "list",dict:=none,data:=.seq acc.toList.toArray c',slots:=#[] }:=by rw[Array.toArray_toList];exact e
  exact⟨.ref s2.heap.objs.size,_,I2.laid (t':=tk) kp (Oq _) (show ObjOk X.prog X.w _ h' _ (.lst ((List.range j.toNat).map fun k=>.int (k:Nat))) from⟨by rw[Ot,Pj,OG];lia,acc.toList,c',rv,e⟩),rfl,q _ (I2.aX.fresh (Oq _))⟩
end
section
open PySem.MeetsSeq PySem.SeqAt
open PySem.AutoSeq1 (wpAny_loadPart')
end
noncomputable def pM:List Int->Int
 | []=>0
 |x::r=>r.foldl (fun a b=>if b<a then b else a) x
theorem wt (h:l≠[])(z:Int):pM (l++[z])=if z<pM l then z else pM l:=by
 cases l with
 |nil=>exact(h rfl).elim
 |cons x r=>show(r++[z]).foldl _ x=_;rw[QH];rfl
theorem ml (xs:Array (Int×Tok)):∀ k,k<xs.size->numAt xs (argBest (fun i j=>decide (numAt xs i<numAt xs j)) k)=pM ((xs.toList.map (·.1)).take (k+1))
 |0,h=>by
  have e:xs.toList.map (·.1)≠[]:=fun z=>by have:=PJ List.length z;simp at this;rw[this]at h;simp at h
  cases q:xs.toList.map (·.1) with
  |nil=>exact(e q).elim
  |cons y r=>
   have:(xs[0]?.map (·.1))=some y:=by rw[<- OY,<- OD,q];rfl
   show numAt xs 0=y;unfold numAt;rw[this];rfl
 |k+1,h=>by
  have ih:=ml xs k (by lia);have ez:(xs.toList.map (·.1))[k+1]?=some (numAt xs (k+1)):=by rw[OD,OY];unfold numAt;rw[Array.getElem?_eq_getElem h];rfl
  have et:(xs.toList.map (·.1)).take (k+1+1)=(xs.toList.map (·.1)).take (k+1)++[numAt xs (k+1)]:=by rw[List.take_succ,ez];rfl
  have ne:(xs.toList.map (·.1)).take (k+1)≠[]:=fun z=>by have h9:=PJ List.length z;rw[Py,Ot,Pb,P7]at h9;lia
  rw[et,wt ne,<- ih];show numAt xs (if (decide (numAt xs (k+1)<numAt xs (argBest _ k)))=true then k+1 else argBest _ k)=_;by_cases hl:numAt xs (k+1)<numAt xs (argBest (fun i j=>decide (numAt xs i<numAt xs j)) k)
  .rw[OK (OO hl),OK hl]
  .rw[OL (by simpa using hl),OL hl]
theorem mr:∀{ns:List Int}{its:List SI},Vals (ns.map V.int) its->∃ ps:List (Int×Tok),its=ps.map (fun p=>.int p.1 p.2)/\ps.map (·.1)=ns
 | [],_,h=>by cases h;exact⟨[],rfl,rfl⟩
 |n::ns,_,h=>by
  cases h with
  |cons r rr=>obtain⟨t,rfl⟩:=r;obtain⟨ps,rfl,e⟩:=mr rr;exact⟨(n,t)::ps,rfl,by rw[OE,e]⟩
theorem wu (hc:X.calm=true):bQ X (.builtin "min") (fun xs H Q=>∃ p ns,xs=[.ref p]/\SqL X.K H p (ns.map V.int)/\ns≠[]/\Q (.int (pM ns)) H):=by
 intro af s σ H xs us Q I r h;obtain⟨p,ns,rfl,hq,hne,q⟩:=h;obtain⟨u,rfl,rx⟩:=dm r;cases rx;obtain⟨its,rv,pl,hz⟩:=I.list hq;obtain⟨ps,rfl,e⟩:=mr rv;have hl:s.heap.IsList p (intItems ps.toArray):=by
  have:intItems ps.toArray=(ps.map (fun p=>Value.int p.1 p.2)).toArray:=by simp[intItems]
  rw[this];exact pl.isList
 have hpos:0<ps.toArray.size:=by
  cases ps with
  |nil=>exact(hne e.symm).elim
  |cons _ _=>simp
 refine min_intList (I.ok.hd hc) hl hpos fun v h' tk ev kp=>?_;obtain⟨t,rfl⟩:=intItems_at ev;rw[ml ps.toArray _ (by lia)];have ef:(ps.toArray.toList.map (·.1)).take (ps.toArray.size-1+1)=ns:=by rw[Pe (by simp;lia)];simpa using e
 rw[ef];exact⟨.int (pM ns),H,I.kept (t':=tk) kp,⟨t,rfl⟩,q⟩
end L2
namespace L2
open PySem PySem.Spec PySem.Calls PyProof.Rows ST
end L2
namespace L2
open PySem PySem.Spec PySem.Calls PyProof.Rows
end L2
namespace L2
open PySem PySem.Spec PyProof.Rows
open Sem (wp)
open Builtin
open Sem (wp)
open Builtin
noncomputable def mw (kts:List (Addr×List V))(a:Addr)(o:Obj)(ns:List Int):Hp:=fun b=>match kts.lookup b with
 |some xs=>some (.tup xs)
 |none=>if b=a then some (.cm o (.lst (ns.map V.int))) else none
section
theorem Cm (e:kts.lookup b=some xs):mw kts a o ns b=some (.tup xs):=by unfold mw;rw[e]
theorem Co (e:kts.lookup a=none):mw kts a o ns a=some (.cm o (.lst (ns.map V.int))):=by unfold mw;rw[e];exact OK rfl
theorem Cp (e:kts.lookup b=none)(n:b≠a):mw kts a o ns b=none:=by unfold mw;rw[e];exact OL n
end
theorem jC:∀{vs:List SI}{ns:List Int},IntsAre vs ns->Vals (ns.map V.int) vs
 |_,_,.nil=>.nil
 |_,_,.cons n t h=>.cons ⟨t,rfl⟩ (jC h)
theorem ww {P:SH}{w:World}{K:SG}{mg mb:Str->Option SI}{CX:yk}{k:Nat}{fa a:Addr}{fd:FuncData}{x:Str}{sp:Sp}{s₁:SF}{vs:List SI}{ns:List Int}{kts:List (Addr×List V)}
 (KX:K.In s₁.heap) (hns:s₁.heap.Ns mainGlobals mg) (hb:s₁.heap.Ns builtinsNs mb) (hbb:∀ x:Str,x≠"__name__"->mb x=bootBuiltins x) (hlim:s₁.heap.NoLimit) (hg:s₁.gens=#[])
 (ha:s₁.heap.get? a=some { cls:=.type "list",data:=.seq vs.toArray }) (hi:IntsAre vs ns) (hl:ns.length<=sizeLine) (hr:cT k callerA)
 (hK:∀ o,K.lookup a=some o->o.cls=.type "list"->False)
 (hT:∀ b xs,kts.lookup b=some xs->K.lookup b=none/\∃(o:Obj)(its:Array SI)(n:Nat),s₁.heap.get? b=some o/\o.cls=.type "tuple"/\o.data=.seq its n/\its.size<=sizeLine/\Vals xs its.toList)
 (hM:∀ p∈K,∀ b xs,Er p.2=some (b,xs)->kts.lookup b=some xs)
 (F:∀ base:Heap,K.In base->base.Ns mainGlobals mg->bF P w K mg base CX k fa fd [x] sp) (hbind:∀(s:SF)(u:SI),BindsTo s fd ⟨[u],[]⟩ [(x,u)])
 (hsp:∀ H:Hp,(∃ o,H a=some (.cm o (.lst (ns.map V.int))))->sp [.ref a] H (fun v _=>v=.bl true) fun _ _ _=>False)
 (hCX:∀ H e s',CX [] H s₁ (fun _ _ _=>False) e s'->False) :
 codeAny (model P w) callerA (.call (.ref fa) ⟨[.ref a],[]⟩) (fun r s'=>r=.ok (.ret (.bool true))/\OldK s₁.heap s'.heap/\s'.os=s₁.os/\AllBare s'.gens) s₁:=by
 have rv:=jC hi;have noK:K.lookup a=none:=by
  cases q:K.lookup a with
  |none=>rfl
  |some o=>have e:=KX a o q;rw[ha]at e;cases e;exact(hK _ q rfl).elim
 have noT:kts.lookup a=none:=by
  cases q:kts.lookup a with
  |none=>rfl
  |some xs=>obtain⟨_,o,its,n,e,c,_⟩:=hT a xs q;rw[ha]at e;cases e;exact absurd c (by simp)
 obtain⟨ob,eob⟩ : ∃ ob:Obj,ob={ cls:=.type "list",data:=.seq vs.toArray }:=⟨_,rfl⟩;rw[<- eob]at ha;generalize eH:mw kts a ob ns=H;have Ha:H a=some (.cm ob (.lst (ns.map V.int))):=by rw[<- eH];exact Co noT
 have Ht:∀ b xs,kts.lookup b=some xs->H b=some (.tup xs):=fun b xs e=>by rw[<- eH];exact Cm e
 have Hn:∀ b,kts.lookup b=none->b≠a->H b=none:=fun b e n=>by rw[<- eH];exact Cp e n
 have freeK:∀ b o,K.lookup b=some o->H b=none:=fun b o e=>by
  refine Hn b ?_ fun z=>by rw[z,noK]at e;cases e
  cases q:kts.lookup b with
  |none=>rfl
  |some xs=>rw[(hT b xs q).1]at e;cases e
 have freeD:∀(b:Addr)(o:Obj)(es:Array DictEntry)(ep:Nat),s₁.heap.get? b=some o->o.data=.dict es ep->H b=none:=fun b o es ep e d=>by
  refine Hn b ?_ fun z=>?_
  .cases q:kts.lookup b with
   |none=>rfl
   |some xs=>obtain⟨_,o',its,n,e',_,d',_⟩:=hT b xs q;rw[e]at e';cases e';rw[d]at d';cases d'
  .rw[z,ha]at e;cases e;rw[eob]at d;cases d
 have nsK:∀{b:Addr}{m:Str->Option SI},s₁.heap.Ns b m->(qJ s₁.heap H).Ns b m:=fun{b m} ⟨o,es,ep,e,d,r⟩=>⟨o,es,ep,qK e (freeD b o es ep e d),d,r⟩;have hKb:K.In (qJ s₁.heap H):=fun b o e=>qK (KX b o e) (freeK b o e);have hMd:Mod K mg (qJ s₁.heap H):=⟨hKb,nsK hns,⟨mb,nsK hb,hbb⟩,let ⟨mc,h1,h2⟩:=hlim;⟨mc,nsK h1,h2⟩⟩;have aX:HOk P w H s₁.heap:=fun b u e=>by
  cases q:kts.lookup b with
  |some xs=>rw[Ht b xs q]at e;cases e;obtain⟨_,o,its,n,e1,c,d,z,r⟩:=hT b xs q;refine⟨by rw[r.length];simpa using z,its.toList,r,o,e1,c,n,by simpa using d⟩
  |none=>
   by_cases hba:b=a
   .rw[hba,Ha]at e;cases e;rw[hba];exact⟨ha,by rw[Ot];exact hl,vs,_,rv,by rw[ha,eob]⟩
   .rw[Hn b q hba]at e;cases e
 have e0:uA P w K mg (qJ s₁.heap H) callerA [] s₁ H:=⟨rfl,hMd,fun b o e=>BK e,Sa (vQ _ _),trivial,fun b hb=>absurd (show b∈([]:List Addr) from hb) (by simp),aX,.of_eq hg,fun p hp b xs e=>Ht b xs (hM p hp b xs e)⟩;refine Rj ((F _ hKb (nsK hns)).run callerA [] s₁ H ⟨[.ref a],[]⟩ [.ref a] [.ref a] _ _ hr e0 (hbind s₁ (.ref a)) (.cons rfl .nil) (hsp H ⟨ob,Ha⟩)) fun r s' h=>?_;cases r with
 |error e=>exact(hCX H e s' h).elim
 |ok fl=>
  cases fl with
  |next=>exact False.elim h
  |brk=>exact False.elim h
  |cont=>exact False.elim h
  |ret u=>
   obtain⟨v,H',os,bare,un,hok',r',q⟩:=h;have q':v=.bl true:=q;subst q';obtain rfl:u=Value.bool true:=r';refine⟨rfl,OldK.of_keep fun b o e=>?_,os,bare⟩;by_cases hba:b=a
   .rw[hba]at e ⊢;have z2:=un.iB a ob _ Ha;obtain⟨e2,_⟩:=hok' a _ z2;rw[ha]at e;cases e;exact e2
   .refine un.keep b o e ?_ (by intro z;exact absurd (show b∈([]:List Addr) from z) (by simp)) (by simp);cases q:kts.lookup b with
    |none=>exact .inl (Hn b q hba)
    |some xs=>exact .inr ⟨xs,Ht b xs q⟩
section
variable {K K':SG}
def Kv (K:SG):Bool:=K.all fun p=>(Er p.2).isNone
structure iT (K K':SG):Prop where
 look:∀ b o,K.lookup b=some o->(∀ its n,o.data≠.seq its n)->K'.lookup b=some o
theorem wx:iT K K:=⟨fun _ _ e _=>e⟩
theorem iT.code (S:iT K K')(h:PySem.W.codeIn K cd q=true):PySem.W.codeIn K' cd q=true:=by
 unfold PySem.W.codeIn at h ⊢;cases cd with
 |ref c=>
  dsimp only at h ⊢;cases e:K.lookup c with
  |none=>rw[e]at h;cases h
  |some o=>
   obtain⟨o1,o2,o3,o4⟩:=o;cases o3 with
   |fields vs=>rw[S.look c _ e (fun _ _ z=>nomatch z)];rw[e]at h;exact h
   |_=>rw[e]at h;cases h
 |_=>cases h
theorem iT.keep (S:iT K K')(e:K.lookup f=some ⟨o1,o2,.func fd,o4⟩):PySem.W.keepIn K' (.ref f)=true:=by unfold PySem.W.keepIn;dsimp only;rw[S.look f _ e (fun _ _ z=>nomatch z)]
theorem iT.ns (S:iT K K')(h:PySem.W.nsIn K n x=some r):PySem.W.nsIn K' n x=some r:=by
 unfold PySem.W.nsIn at h ⊢;cases e:K.lookup n with
 |none=>rw[e]at h;cases h
 |some o=>
  obtain⟨o1,o2,o3,o4⟩:=o;cases o3 with
  |dict es ep=>rw[S.look n _ e (fun _ _ z=>nomatch z)];rw[e]at h;exact h
  |_=>rw[e]at h;cases h
theorem iT.nsOk (S:iT K K')(h:PySem.W.nsOkIn K n=true):PySem.W.nsOkIn K' n=true:=by
 unfold PySem.W.nsOkIn at h ⊢;cases e:K.lookup n with
 |none=>rw[e]at h;cases h
 |some o=>
  obtain⟨o1,o2,o3,o4⟩:=o;cases o3 with
  |dict es ep=>rw[S.look n _ e (fun _ _ z=>nomatch z)];rw[e]at h;exact h
  |_=>rw[e]at h;cases h
theorem iT.tail (S:iT K K'):∀{l:List SI},PySem.W.tailIn K bm l=true->PySem.W.tailIn K' bm l=true
 | [],h=>h
 |v::r,h=>by
  unfold PySem.W.tailIn at h ⊢;rw[Bool.or_eq_true]at h ⊢;refine h.imp id fun h=>?_;cases v with
  |ref A=>
   dsimp only at h ⊢;cases e:K.lookup A with
   |none=>rw[e]at h;cases h
   |some o=>
    obtain⟨o1,o2,o3,o4⟩:=o;cases o3 with
    |cls cd=>rw[S.look A _ e (fun _ _ z=>nomatch z)];rw[e]at h;dsimp only at h ⊢;simp only[PU,Rh]at h ⊢;exact⟨⟨S.nsOk h.1.1,S.ns h.1.2⟩,S.tail h.2⟩
    |_=>rw[e]at h;cases h
  |_=>cases h
theorem iT.exc (S:iT K K')(h:PySem.W.excIn K C bm i=true):PySem.W.excIn K' C bm i=true/\fQ K' C=fQ K C:=by
 unfold PySem.W.excIn at h ⊢;unfold fQ;cases e:K.lookup C with
 |none=>rw[e]at h;cases h
 |some o=>
  obtain⟨o1,o2,o3,o4⟩:=o;rw[e]at h;cases o3 with
  |cls cd=>
   rw[S.look C _ e (fun _ _ z=>nomatch z)];refine⟨?_,rfl⟩;split at h
   .rename_i dd cd' sl he;injection he with he;injection he with he1 he2 he3 he4;injection he3 with he3;subst he1 he2 he3 he4
    try dsimp only at h
    try dsimp only
    split at h
    .rename_i hm hs;simp only[PU,Rh]at h ⊢;exact⟨⟨⟨h.1.1.1,S.tail h.1.1.2⟩,S.nsOk h.1.2⟩,S.ns h.2⟩
    .cases h
   .cases h
  |_=>split at h<;>first|cases h|(rename_i he;injection he with he;injection he with _ _ he _;cases he)
end
noncomputable def ve:SI->Bool
 | .type n=>n=="list"
 |_=>false
def Kw (K:SG):Bool:=K.all fun p=>!ve p.2.cls
theorem yY:∀{K:SG},Kw K=true->K.lookup a=some o->o.cls=.type "list"->False
 | [],_,e,_=>by cases e
 |(b,x)::r,h,e,c=>by
  unfold Kw at h;rw[List.all_cons,PU]at h;rw[QS]at e;split at e
  .cases e;rw[c]at h;have h1:=h.1;simp[ve]at h1
  .exact yY (K:=r) h.2 e c
section
variable {l:PySem.W.OpenLaw}{K:Params->SG}{CX:World->yk}{sp:World->Sp}
theorem yZ (hn:l.most=some n)(hn2:n<=sizeLine)(hdf:d.params.defaults=[])(hr:cT k callerA)(hY:∀(w:World)(h:Heap),YP w h->(K w.params).In h)
 (hL:∀ w:World,Kw (K w.params)=true/\Kv (K w.params)=true)
 (F:∀(w:World)(mg:Str->Option SI)(fa:Addr)(h:Heap),(K w.params).In h->h.Ns mainGlobals mg->mg d.name=some (.ref fa)->
   ∃ fd:FuncData,(∀(s:SF)(u:SI),BindsTo s fd ⟨[u],[]⟩ [(x,u)])/\∀ base:Heap,(K w.params).In base->base.Ns mainGlobals mg->bF l.prog w (K w.params) mg base (CX w) k fa fd [x] (sp w))
 (hsp:∀(w:World)(H:Hp)(a:Addr)(ns:List Int),ns.length<=n->(∃ o,H a=some (.cm o (.lst (ns.map V.int))))->sp w [.ref a] H (fun v _=>v=.bl true) fun _ _ _=>False)
 (hCX:∀(w:World)(H:Hp)(s:SF)(e:SI)(s':SF),CX w [] H s (fun _ _ _=>False) e s'->False) :
 PySem.W.WalkO q loose XP YP l.row.toRowW d [] (fun f vs=>PySem.call f vs):=by
 refine Att.attach_call hn hdf fun w s₀ s₁ mg mb fa o pm cd doc a vs ns G Y ho hd hcd hmg hobj hints bW hg=>?_;have KX:=hY w _ Y;obtain⟨fd,hb,hF⟩:=F w mg fa _ KX G.T.g hmg;exact ww (kts:=[]) KX G.T.g G.T.b G.T.builtins G.T.nolimit hg hobj hints (OR bW hn2) hr (fun o e c=>yY (hL w).1 e c) (fun b xs e=>by cases e)
  (fun p hp b xs e=>by have:=QQ.mp (hL w).2 p hp;rw[e]at this;cases this) hF hb (fun H hS=>hsp w H a ns bW hS) fun H e s'=>hCX w H s₁ e s'
end
end L2
namespace L2
open PySem PySem.Spec PySem.Calls PyProof.Rows
noncomputable abbrev K0:=Sum Int (List Int)
abbrev NX:=List (List K0×Addr×SI)
end L2
namespace L2
open PySem PySem.Spec PySem.Calls PyProof.Rows ST
section
theorem wz (t:TupsIn H vs its)(rv:Vals vs us):us=valsT its:=by
 unfold TupsIn at t;induction t generalizing us with
 |nil=>cases rv;rfl
 |cons q _ ih=>
  cases rv with
  |cons r s=>obtain⟨rfl,q⟩:=q;cases r;rw[ih s];rfl
theorem nU (hN:N<=300) (hs:pJ X.prog X.w N):bQ X (.builtin "sorted") (fun xs H Q=>∃(l:Addr)(vs:List V)(its:List gf),xs=[.ref l]/\Rd H l (.lst vs)/\TupsIn H vs its/\its.length<=N/\(∀ x∈its,x.1≠[])/\(its.map (·.1)).Nodup/\
 ∀(l':Addr)(ys:List gf),H l'=none->ys.Perm its->ys.Pairwise (fun x y=>dk x.1 y.1=true)->Q (.ref l') (upd H l' (.lst (ys.map fun y=>.ref y.2)))):=by
 intro af s σ H xs us Q I r h;obtain⟨l,vs,its,rfl,hl,hp,hz,hne,nd,q⟩:=h;obtain⟨u,rfl,ru⟩:=dm r;obtain rfl:u=Value.ref l:=ru;obtain⟨_,us,n,rv,hg⟩:=(show ObjOk X.prog X.w H s.heap l (.lst vs) from hl.ok I.aX);obtain⟨_,_,g3⟩:=hp.get rv;obtain rfl:=wz hp rv;have hvl:(valsT its).length=its.length:=by simp[valsT]
 have sl:=OG;refine Calls.call_function_entry kind_sorted plain_sorted entry_sorted (args_sorted1 _) ?_;unfold Builtin.«sorted»;refine KE (m:=checkCount "sorted" 1 1 _) (Os (KE (collect_list (l:=l) (vs:=valsT its) ⟨_,hg,rfl,n,rfl⟩ ?_ (by rw[hvl];lia))));have k1:∀ b o,s.heap.get? b=some o->((s.heap.push (seqObj "list" #[] 0)).update s.heap.objs.size (Obj.mapSeq (·++ (valsT its).toArray))).get? b=some o:=fun b o e=>(O1 _ _ (Pw (OQ (Oy e)))).trans (Oo _ e);have g1:s.heap.objs.size<=((s.heap.push (seqObj "list" #[] 0)).update s.heap.objs.size (Obj.mapSeq (·++ (valsT its).toArray))).objs.size:=Rf (Oy (get?_update_seq (Oz _ rfl) (·++ (valsT its).toArray)));generalize ((s.heap.push (seqObj "list" #[] 0)).update s.heap.objs.size (Obj.mapSeq (·++ (valsT its).toArray)))=h1 at k1 g1;refine KE (wpAny_newList ?_ (by rw[hvl];lia));have hoL:(h1.push (seqObj "list" (valsT its).toArray 0)).get? h1.objs.size=some (seqObj "list" (valsT its).toArray 0):=Oz _ rfl;have kk:∀ b o,s.heap.get? b=some o->(h1.push (seqObj "list" (valsT its).toArray 0)).get? b=some o:=fun b o e=>Oo _ (k1 b o e);have t1:oq X.prog X.w (h1.push (seqObj "list" (valsT its).toArray 0)) its:=⟨fun x hx=>kZ (dS I.aX (g3 x hx)) kk,hne,nd⟩;refine KE (Pl (PB slot_list_sort ⟨_,hoL,rfl⟩ entry_list_sort ?body (args_list_sort _)))
 case body=>
  refine hs _ _ { s with heap:=h1.push (seqObj "list" (valsT its).toArray 0) } _ _ _ _ hoL t1 hz fun ys h2 c2 hp2 hw hl2 k2=>⟨_,rfl,?_⟩;have hf:H h1.objs.size=none:=I.aX.fresh g1;refine Os ⟨_,rfl,.ref h1.objs.size,_,I.laid (a:=h1.objs.size) (o:=.lst (ys.map fun y=>.ref y.2)) (t':=s.toks) (fun b o e=>k2 b o (fun z=>?_) (kk b o e)) g1 ?_,rfl,q h1.objs.size ys hf hp2 hw⟩
  .subst z;exact absurd (Oy e) (Nat.not_lt.mpr g1)
  .refine⟨by rw[Ot,hp2.length_eq];lia,valsT ys,c2,?_,hl2⟩;clear hl2 hw hp2;induction ys with
   |nil=>exact .nil
   |cons y ys ih=>exact .cons rfl ih
end
end L2
namespace L3
open PySem PySem.Spec PyProof.Rows L2
abbrev DK:=Sum bG (List bG)
inductive D where
 |bC|bl (b:Bool)|int (i:Int)|str (x:Str)|tup (ds:List D)|lst (ds:List D)|xI (ks:List DK) (ds:List D)
mutual
noncomputable def D.flat:D->Bool
 | .lst _=>false
 | .xI _ _=>false
 | .tup ds=>D.A7 ds
 |_=>true
noncomputable def D.A7:List D->Bool
 | []=>true
 |d::ds=>d.flat&&D.A7 ds
end
mutual
noncomputable def D.dep:D->Nat
 | .lst ds=>D.fA ds+1
 | .tup ds=>D.fA ds+1
 | .xI _ ds=>D.fA ds+1000
 |_=>0
noncomputable def D.fA:List D->Nat
 | []=>0
 |d::ds=>max d.dep (D.fA ds)
end
def DAt (H:Hp)(a:Addr)(ks:List DK)(vs:List V):Prop:=(∃ kvs:List (bG×V),Rd H a (.dK kvs)/\ks=kvs.map (fun p=>.inl p.1)/\vs=kvs.map Prod.snd)\/∃ kvs:List (List bG×V),Rd H a (.dT kvs)/\ks=kvs.map (fun p=>.inr p.1)/\vs=kvs.map Prod.snd
noncomputable def Kx:HO->Prop
 | .lst _=>True
 | .dK _=>True
 | .dT _=>True
 | .ext _=>True
 |_=>False
def Mu (H:Hp)(a:Addr):Prop:=∃ o,H a=some o/\Kx o
theorem DS (h:Rd H a u):∃ o,H a=some o:=h.elim (fun e=>⟨_,e⟩) fun⟨_,e⟩=>⟨_,e⟩
theorem y8 (h:Rd H a u)(s:∀ o,H a=some o->H' a=some o):Rd H' a u:=h.imp (s _) fun⟨o,e⟩=>⟨o,s _ e⟩
theorem DAt.obj (h:DAt H a ks vs):∃ o,H a=some o:=h.elim (fun⟨_,e,_⟩=>DS e) fun⟨_,e,_⟩=>DS e
theorem DAt.keep (h:DAt H a ks vs)(s:∀ o,H a=some o->H' a=some o):DAt H' a ks vs:=h.imp (fun⟨kvs,e,r⟩=>⟨kvs,y8 e s,r⟩) fun⟨kvs,e,r⟩=>⟨kvs,y8 e s,r⟩
mutual
noncomputable def Is (H:Hp)(m:Addr->Prop):D->V->Prop
 | .bC,v=>v=.bC
 | .bl b,v=>v=.bl b
 | .int i,v=>v=.int i
 | .str x,v=>v=.str x
 | .tup ds,v=>∃ a vs,v=.ref a/\H a=some (.tup vs)/\IsAll H m ds vs
 | .lst ds,v=>∃ a vs,v=.ref a/\((H a=some (.lst vs)/\m a)\/∃ o,H a=some (.cm o (.lst vs))/\m a)/\IsAll H m ds vs
 | .xI ks ds,v=>∃ a vs,v=.ref a/\(DAt H a ks vs/\m a)/\IsAll H m ds vs
noncomputable def IsAll (H:Hp)(m:Addr->Prop):List D->List V->Prop
 | [],vs=>vs=[]
 |d::ds,vs=>∃ v r,vs=v::r/\Is H m d v/\IsAll H m ds r
end
noncomputable def HD:HO->Prop
 | .tup _=>True
 | .cm _ _=>True
 |_=>False
section
mutual
theorem Is.mono (kp:∀ a o,H a=some o->(m a\/HD o)->H' a=some o)(mm:∀ a o,H a=some o->m a->m' a):∀{d:D}{v:V},Is H m d v->Is H' m' d v
 | .bC,_,h=>h
 | .bl _,_,h=>h
 | .int _,_,h=>h
 | .str _,_,h=>h
 | .tup ds,_,h=>by obtain⟨a,vs,e,h1,h2⟩:=h;exact⟨a,vs,e,kp a _ h1 (.inr True.intro),IsAll.mono kp mm h2⟩
 | .lst ds,_,h=>by
  obtain⟨a,vs,e,h1,h2⟩:=h;refine⟨a,vs,e,?_,IsAll.mono kp mm h2⟩;rcases h1 with⟨h1,h3⟩|⟨o,h1,h3⟩
  .exact .inl ⟨kp a _ h1 (.inl h3),mm a _ h1 h3⟩
  .exact .inr ⟨o,kp a _ h1 (.inr True.intro),mm a _ h1 h3⟩
 | .xI ks ds,_,h=>by obtain⟨a,vs,e,h1,h2⟩:=h;obtain⟨o,eo⟩:=h1.1.obj;exact⟨a,vs,e,⟨h1.1.keep fun o e=>kp a o e (.inl h1.2),mm a o eo h1.2⟩,IsAll.mono kp mm h2⟩
theorem IsAll.mono (kp:∀ a o,H a=some o->(m a\/HD o)->H' a=some o)(mm:∀ a o,H a=some o->m a->m' a):∀{ds:List D}{vs:List V},IsAll H m ds vs->IsAll H' m' ds vs
 | [],_,h=>h
 |d::ds,_,h=>by obtain⟨v,r,e,h1,h2⟩:=h;exact⟨v,r,e,Is.mono kp mm h1,IsAll.mono kp mm h2⟩
end
theorem IsAll.length:∀{ds:List D}{vs:List V},IsAll H m ds vs->vs.length=ds.length
 | [],_,h=>by cases h;rfl
 |d::ds,_,h=>by obtain⟨v,r,rfl,_,h2⟩:=h;simp[IsAll.length h2]
theorem IsAll.get:∀{ds:List D}{vs:List V}{i:Nat}{d:D},IsAll H m ds vs->ds[i]?=some d->∃ v,vs[i]?=some v/\Is H m d v
 | [],_,_,_,_,e=>by simp at e
 |d::ds,_,0,_,h,e=>by obtain⟨v,r,rfl,h1,h2⟩:=h;simp at e;subst e;exact⟨v,rfl,h1⟩
 |d::ds,_,i+1,_,h,e=>by obtain⟨v,r,rfl,h1,h2⟩:=h;obtain⟨w,a,b⟩:=IsAll.get (i:=i) h2 (by simpa using e);exact⟨w,by simpa using a,b⟩
end
section
variable {s:SF}{m:Addr->Prop}
theorem mB (ok:HOk P w H s.heap)(h:(H a=some (.lst vs)/\m a)\/∃ o,H a=some (.cm o (.lst vs))/\m a) :
 ∃ its:List SI,Vals vs its/\s.heap.IsList a its.toArray:=by
 have key:ObjOk P w H s.heap a (.lst vs)->∃ its:List SI,Vals vs its/\s.heap.IsList a its.toArray:=fun⟨_,its,n,r,e⟩=>⟨its,r,⟨_,e,rfl,n,rfl⟩⟩;rcases h with⟨h,_⟩|⟨o,h,_⟩
 .exact key (ok a _ h)
 .exact key (ok a _ h).2
theorem pN (ok:HOk P w H s.heap)(h:H a=some (.tup vs)):∃ its:List SI,Vals vs its/\s.heap.IsTuple a its.toArray:=by obtain⟨_,its,r,e⟩:=ok a _ h;exact⟨its,r,e⟩
theorem lb:∀{ds:List D}{j:Nat}{d:D},ds[j]?=some d->d.dep<=D.fA ds
 | [],_,_,e=>by simp at e
 |d::ds,0,_,e=>by simp at e;subst e;simp only[D.fA];lia
 |d::ds,j+1,x,e=>by have:=lb (ds:=ds) (j:=j) (d:=x) (by simpa using e);simp only[D.fA];lia
end
abbrev St:=L2.St
inductive Res (α:Type) where
 |stuck|ok (a:α)|exc (c:Str)
noncomputable def Res.bind {α β:Type}:Res α->(α->Res β)->Res β
 | .stuck,_=>.stuck
 | .exc c,_=>.exc c
 | .ok a,k=>k a
inductive Sl where
 |val (d:D) (fr:Bool)|own (ds:List D) (fr:Bool)|LR (d:D)|N1 (d:D)
noncomputable abbrev En:=List (Option Sl)
inductive R where
 |val (d:D) (fr:Bool) (al:List Nat)|new (ds:List D) (fr:Bool)|DB (d:D)
noncomputable def R.d:R->D
 | .val d _ _=>d
 | .new ds _=>.lst ds
 | .DB d=>d
noncomputable def R.fr:R->Bool
 | .val _ f _=>f
 | .new _ f=>f
 | .DB _=>true
noncomputable def R.al:R->List Nat
 | .val _ _ al=>al
 | .new _ _=>[]
 | .DB _=>[]
structure Gd where
 H₀:Hp
 Ma:Addr->Prop
 Z:Addr->Prop
 root:Option V
 LU:Option V
noncomputable abbrev L_ (H:Hp)(Ma:Addr->Prop):Gd:=⟨H,Ma,fun _=>False,none,none⟩
noncomputable abbrev Pr:=Nat->Addr->Prop
noncomputable def Gd.rt (g:Gd)(n:Nat):Option V:=if n=0 then g.root else g.LU
noncomputable def Sl.J6:Sl->Bool
 | .val _ _=>false
 |_=>true
def DT (env:En)(j:Nat):Bool:=match env[j]? with
 |some (some sl)=>sl.J6
 |_=>false
section
theorem az (h:H a=none):Same H (upd H a o):=fun b u e=>by rw[aA (aB e h)];exact e
end
def M6 (mg:Str->Option SI)(E:XK)(g:Gd)(c:Str):Prop:=∀ cls dx H',mg c=some cls->Same g.H₀ H'->E cls dx H'
section
def HE (rs:List R):Bool:=rs.all R.fr
end
noncomputable def lim:Nat:=1000000
def Mb (ds:List D)(fr:Bool)(al:List Nat):R:=if D.A7 ds then .new ds true else if al.isEmpty then .new ds fr else .val (.lst ds) fr al
def nl (H0 H':Hp)(a:Addr):Prop:=H0 a=none/\Mu H' a
def DU (g:Gd)(H':Hp)(v:V):R->Prop
 | .val d fr _=>Is H' (fun a=>nl g.H₀ H' a\/(fr=false/\g.Ma a)) d v
 | .new ds fr=>∃ a vs,v=.ref a/\H' a=some (.lst vs)/\g.H₀ a=none/\IsAll H' (fun b=>b≠a/\(nl g.H₀ H' b\/(fr=false/\g.Ma b))) ds vs
 | .DB d=>Is H' (nl g.H₀ H') d v
def HF (mg:Str->Option SI)(E:XK)(g:Gd)(Q:VK):Res R->Prop
 | .stuck=>False
 | .exc c=>M6 mg E g c
 | .ok r=>∀ v H',Same g.H₀ H'->DU g H' v r->Q v H'
def y9 (mg:Str->Option SI)(n:Nat)(F:List D->Res R):Sp:=fun vs H Q E=>vs.length=n/\∃ ds Ma,IsAll H Ma ds vs/\HF mg E (L_ H Ma) Q (F ds)
inductive Fl where
 |nx (env:En)|rt (r:R)|bk (env:En)|ct (env:En)|rm (r:R) (env:En)
section
def Ky (env:En)(i:Nat):En:=match env[i]? with
 |some (some (.own ds fr))=>env.set i (some (.val (.lst ds) fr))
 |some (some (.LR d))=>env.set i (some (.val d true))
 |some (some (.N1 _))=>env.set i none
 |_=>env
def cm (env:En)(al:List Nat):En:=al.foldl Ky env
def put (env:En)(i:Nat):R->En
 | .new ds fr=>env.set i (some (.own ds fr))
 | .val d fr al=>(cm env al).set i (some (.val d fr))
 | .DB d=>env.set i (some (.LR d))
end
structure Src where
 xs:List D
 fr:Bool
 al:List Nat
theorem gA:∀(names:List (Str×NameKind))(cs:List (Str×Addr)),(∀ x∈names,x.2=.free->∃ c,env.cells.lookup x.1=some c)->(∀ y c,cs.lookup y=some c->env.cells.lookup y=some c)->
 ∃ cl,(forIn names cs fun(x:Str×NameKind)(r:List (Str×Addr))=>(do
  if (x.2==.free)=true then
   let c <- cellOf env x.1
   pure (ForInStep.yield ((x.1,c)::r))
  else pure (ForInStep.yield r):Sem (ForInStep (List (Str×Addr)))))=pure cl/\(∀ y c,cl.lookup y=some c->env.cells.lookup y=some c)/\(∀ x∈names,x.2=.free->∃ c,cl.lookup x.1=some c)/\(∀ y c,cs.lookup y=some c->∃ c',cl.lookup y=some c')
 | [],cs,_,h=>⟨cs,by simp,h,fun _ z=>absurd z (by simp),fun y c e=>⟨c,e⟩⟩
 |(n,k)::r,cs,hf,h=>by
  by_cases hk:k=.free
  .subst hk;obtain⟨c,hc⟩:=hf (n,.free) (by simp) rfl;have hco:cellOf env n=pure c:=by simp[cellOf,hc]
   have h':∀ y c',((n,c)::cs).lookup y=some c'->env.cells.lookup y=some c':=fun y c' e=>by
    rw[QS]at e;cases hy:y==n with
    |true=>rw[hy]at e;cases e;rw[eq_of_beq hy];exact hc
    |false=>rw[hy]at e;exact h y c' e
   obtain⟨cl,e1,e2,e3,e4⟩:=gA r ((n,c)::cs) (fun x hx=>hf x (by simp[hx])) h';have self:∃ c',cl.lookup n=some c':=e4 n c (by simp[QS]);refine⟨cl,?_,e2,fun x hx hxf=>?_,fun y c' e=>?_⟩
   .rw[List.forIn_cons];simp only[QR,QT,hco,pure_bind];exact e1
   .rcases OC.mp hx with rfl|hx
    .exact self
    .exact e3 x hx hxf
   .by_cases hy:y=n
    .rw[hy];exact self
    .refine e4 y c' ?_;have hb:(y==n)=false:=by simpa using hy
     rw[QS,hb];exact e
  .obtain⟨cl,e1,e2,e3,e4⟩:=gA r cs (fun x hx=>hf x (by simp[hx])) h;refine⟨cl,?_,e2,fun x hx hxf=>?_,e4⟩
   .rw[List.forIn_cons];have hkb:(k==NameKind.free)=false:=by simpa using hk
    simp only[hkb,OM,PL,pure_bind];exact e1
   .rcases OC.mp hx with rfl|hx
    .exact absurd hxf hk
    .exact e3 x hx hxf
theorem nV (h:∀ x∈scope.names,x.2=.free->∃ c,env.cells.lookup x.1=some c) :
 ∃ cl,closureFor scope env=pure cl/\(∀ y c,cl.lookup y=some c->env.cells.lookup y=some c)/\(∀ x∈scope.names,x.2=.free->∃ c,cl.lookup x.1=some c):=by
 obtain⟨cl,e1,e2,e3,_⟩:=gA scope.names [] h (fun _ _ e=>by simp at e);refine⟨cl,?_,e2,e3⟩;unfold closureFor;refine Eq.trans ?_ (show((pure cl:Sem (List (Str×Addr))) >>= fun cs=>pure cs)=pure cl by simp);rw[<- e1]
 all_goals first
  |rfl
  |(congr 1;congr 1;funext x r;obtain⟨n,k⟩:=x;first|rfl|(dsimp only;split<;>simp_all))
theorem kF {f:Str->NameKind->NameKind}:∀(names:List (Str×NameKind))(y:Str),(names.map fun x=>(x.1,f x.1 x.2)).lookup y=(names.lookup y).map (f y)
 | [],y=>rfl
 |(n,k)::r,y=>by
  rw[OE,QS,QS];cases h:y==n with
  |true=>rw[eq_of_beq h];rfl
  |false=>exact kF r y
theorem hZ (scope:Scope)(env:Env)(y:Str):(relabel scope env).names.lookup y=(scope.names.lookup y).map fun k=>if (k==.free&&env.scope.kind==.function&&env.kindOf y==some .cell)=true then .cell else k:=by
 have e:(relabel scope env).names=scope.names.map fun x=>(x.1,(fun n k=>if (k==NameKind.free&&env.scope.kind==.function&&env.kindOf n==some .cell)=true then NameKind.cell else k) x.1 x.2):=by unfold relabel;refine Pt fun x _=>?_;obtain⟨n,k⟩:=x;dsimp only;split<;>rfl
 rw[e];exact kF (f:=fun n k=>if (k==NameKind.free&&env.scope.kind==.function&&env.kindOf n==some .cell)=true then NameKind.cell else k) scope.names y
theorem pO (h:scope.names.lookup y=some .free):(relabel scope env).names.lookup y=some .cell\/(relabel scope env).names.lookup y=some .free:=by
 rw[hZ,h];simp only[Option.map_some];split
 .exact .inl rfl
 .exact .inr rfl
noncomputable def bw (X:Cx)(scope:Scope)(N:List Str)(cl:List (Str×Addr))(C:Addr)(s:SF)(H:Hp)(ex:List Addr):Cx:={ X with N:=N,s₀:=s,H₀:=H,env:=compEnvC scope cl C X.env,outer:=X.stack,ex:=ex,fn:=fun _=>false,pn:=[],xe:=fun _ _=>False }
section
theorem Cq (I:L2.Inv X af σ H s)(hkind:scope.kind=.function)(hcell:∀ y∈scope.names,y.2≠.cell)(hcl:∀ y c,cl.lookup y=some c->X.env.cells.lookup y=some c)(hhas:∀ x∈scope.names,x.2=.free->∃ c,cl.lookup x.1=some c)
 (hC:s.heap.objs.size<=C) (hex:∀ b∈ex,iL X af H b/\b<s.heap.objs.size):(bw X scope N cl C s H ex).Ok where
 mod:=I.ok.mod
 kind:=hkind
 glob:=I.ok.glob
 blt:=I.ok.blt
 above:=hC
 inj:=fun x y c h1 h2=>I.ok.inj x y c (hcl x c h1) (hcl y c h2)
 has:=fun y hy=>by
  have key:∀ k,(relabel scope X.env).names.lookup y=some k->(k=.cell\/k=.free)->∃ c,cl.lookup y=some c:=fun k e hk=>by
   rw[hZ]at e;cases q:scope.names.lookup y with
   |none=>rw[q]at e;cases e
   |some k0=>
    have hm:=Qd q;have h0:=hcell _ hm;have hf:k0=.free:=by
     rw[q]at e;simp only[Option.map_some,Option.some.injEq]at e;split at e
     .rename_i z;simp only[PU,Rh]at z;exact z.1.1
     .rcases hk with hk|hk
      .exact absurd (e.trans hk) h0
      .exact e.trans hk
    exact hhas _ hm hf
  rcases hy with hy|hy
  .exact key _ hy (.inl rfl)
  .exact key _ hy (.inr rfl)
 Bu:=fun _ _ h=>by cases h
 hd:=I.ok.hd
 frames:=I.ok.frames
 stk:=.inl rfl
 GD:=fun b hb=>⟨OQ (OV (hex b hb).2 hC),fun x c e=>(hex b hb).1.2.2.2.2.1 x c (hcl x c e)⟩
 bs:=fun b o e=>I.bs b o e
 vK:=OR I.ok.vK I.sz
 om:=fun b o e hb=>by
  rcases (hex b hb).1.2.2.2.1 with z|z
  .exact I.ok.om b o e z
  .exact absurd (OV (Oy e) (OR I.ok.vK z)) (Qe _)
 qr:=fun b hb hfs=>by
  rcases OC.mp (I.nC b hfs) with z|z
  .exact(hex b hb).1.2.1 z
  .exact(hex b hb).1.2.2.1 z
 iA:=I.stack
 xW:=I.qw
 kt:=I.kt
structure JS (X:Cx) (scope:Scope) (capN:List Str) (caps:List Nat):Prop where
 at':∀(k:Nat)(y:Str),capN[k]?=some y->∃ j:Nat,caps[k]?=some j/\X.N[j]?=some y
 out:∀ y∈capN,X.env.kindOf y=some .cell\/X.env.kindOf y=some .free
 MI:∀ y∈capN,scope.names.lookup y=some .free
 len:caps.length=capN.length
noncomputable def iP (σ:St)(caps:List Nat):St:=caps.map fun j=>(σ[j]?).join
theorem y_ (I:L2.Inv X af σ H s)(hkind:scope.kind=.function)(hcell:∀ y∈scope.names,y.2≠.cell)(hcl:∀ y c,cl.lookup y=some c->X.env.cells.lookup y=some c)(hhas:∀ x∈scope.names,x.2=.free->∃ c,cl.lookup x.1=some c)
 (hC:s.heap.objs.size<=C) (hex:∀ b∈ex,iL X af H b/\b<s.heap.objs.size) (hc:JS X scope capN caps) (kp:∀ b o,s.heap.get? b=some o->h4.get? b=some o) (ns:h4.Ns C m4) :
 L2.Inv (bw X scope (tN++capN) cl C s H ex) [] (List.replicate tN.length none++iP σ caps) H { s with heap:=h4,toks:=tk } where
 ok:=Cq I hkind hcell hcl hhas hC hex
 os:=rfl
 bare:=I.bare
 base:=Un.kept kp
 loc:=by
  refine⟨m4,ns,fun i y v e1 e2 e3=>?_⟩;by_cases hlt:i<tN.length
  .rw[Qg (by simpa using hlt),List.getElem?_replicate]at e2;rw[OK hlt]at e2;cases e2
  .obtain⟨k,rfl⟩ : ∃ k,i=tN.length+k:=⟨i-tN.length,by lia⟩;have e1:capN[k]?=some y:=by
    have e1:(tN++capN)[tN.length+k]?=some y:=e1
    rwa [Qa (by lia),Rx]at e1
   have e2:(iP σ caps)[k]?=some (some v):=by
    rwa [Qa (by simp),RM,Rx]at e2
   obtain⟨j,ej,eN⟩:=hc.at' k y e1;have e4:σ[j]?=some (some v):=by
    unfold iP at e2;rw[OD,ej]at e2;have e2:(σ[j]?).join=some v:=by simpa using e2
    cases q:σ[j]? with
    |none=>rw[q]at e2;cases e2
    |some o=>rw[q]at e2;cases o with
     |none=>cases e2
     |some w=>cases e2;rfl
   have hm:=OU e1;obtain⟨m,hn,hl⟩:=I.loc;have hout:=hc.out y hm;obtain⟨u,r,l⟩:=hl j y v eN e4 (.inr hout);refine⟨u,r,.inr ⟨pO (hc.MI y hm),?_⟩⟩;obtain⟨c,hcl2⟩:=hhas (y,.free) (Qd (hc.MI y hm)) rfl;refine⟨c,hcl2,?_⟩;rcases l with⟨l,_⟩|⟨_,c',e5,z⟩
   .rcases hout with h|h<;>(rw[h]at l;cases l)
   .have:=hcl y c hcl2;rw[e5]at this;cases this;obtain⟨o,ho,hd⟩:=z;exact⟨o,kp _ o ho,hd⟩
 cell:=fun y c e=>by obtain⟨v,o,ho,hd⟩:=I.cell y c (hcl y c e);exact⟨v,o,kp _ o ho,hd⟩
 free:=I.aX.fresh hC
 dj:=fun y c e=>I.dj y c (hcl y c e)
 pin:=fun p hp=>absurd (show p∈([]:List (Addr×Obj)) from hp) (by simp)
 aX:=I.aX.kept kp
 len:=by simp[bw,iP,hc.len]
theorem wB (I:L2.Inv X af σ H s)(hX:X'=bw X scope N cl C s H ex)(hC:s.heap.objs.size<=C)(hex:∀ b∈ex,iL X af H b/\b<s.heap.objs.size)
 (I':L2.Inv X' pl σ' H' s'):L2.Inv X af σ H' s'/\iL X af H' C:=by
 subst hX;refine⟨I.Ei (ch:=ex) I'.os I'.base I'.aX I'.bare fun b hb=>?_,I.qu hC I'.free⟩;obtain⟨_,h2,h3,h4,h5,h6⟩:=(hex b hb).1;exact⟨h4,h2,h5,h6⟩
theorem vf (I:L2.Inv X af σ H s)(hf:iL X af H C)(sb:Heap.SameBut C s.heap h'):L2.Inv X af σ H { s with heap:=h' }:=I.turned (t':=s.toks) (it:=C) (fun b o hb e=>(sb.2 b hb).trans e) hf.1 hf.2.1 hf.2.2.2.1 hf.2.2.2.2.1 hf.2.2.2.2.2
end
section
def Bg (X:Cx)(ifs:List Expr)(tt:TT):Prop:=∀(af:List (Addr×Obj))(s:SF)(σ:St)(H:Hp)(Q:Bool->Hp->Prop),L2.Inv X af σ H s->tt σ H Q->
 wpAny (model X.prog X.w) X.A (forIn ifs true fun c r=>if r=true then do let ok <- isTrue c X.env (eval c X.env);pure (ForInStep.yield ok) else pure (ForInStep.yield r)) (TP X af σ Q) X.xe s
theorem lg:Bg X [] (fun _ H Q=>Q true H):=fun _ _ σ H Q I q=>wpAny_tests_nil ⟨H,I,q⟩
theorem lh (h:PT X c tt):Bg X [c] tt:=fun af s σ H Q I q=>wpAny_tests_one (h af s σ H Q I q)
theorem wC (hX:X'=bw X scope (tN++capN) cl C s3 H3 fp)(T:Turn X.prog X.w X.K tg J fp it tn)(hcalm:X.calm=true)
 (I4:L2.Inv X' [] (List.replicate tN.length none++σc) H3 s4) (bW:X'.N.length=tN.length+σc.length) (st4:tn 0 s4.heap) (hf:∀ b∈fp,iL X' [] H3 b)
 (hg:PG X' tg gt) (ht:Bg X' ifs tt) (he:PE X' elt te)
   (W:Nat->Nat->List V->Hp->Prop) (Fin:List V->Hp->Prop) (w0:∃ m,W 0 m [] H3)
   (turn:∀ i m acc H,W i m acc H->H Dl=some (.lst acc)/\((J.stop i H/\Fin acc H)\/(J.go i H/\∀ xv H' o,J.vM i H xv H'->o.length=tN.length->gt xv (o++σc) H' fun σ2 H1=>(∀ j:Nat,tN.length<=j->σ2[j]?=(o++σc)[j]?)/\tt σ2 H1 fun b H2=>if b=true then
     te σ2 H2 fun y H5=>H5 Dl=some (.lst acc)/\acc.length<sizeLine/\∃ m',m'<m/\W (i+1) m' (acc++[y]) (upd H5 Dl (.lst (acc++[y]))) else ∃ m',m'<m/\W (i+1) m' acc H2)))
   (R:Result->SF->Prop) (hR:∀ σ' H' acc s',L2.Inv X' [] σ' H' s'->H' Dl=some (.lst acc)->Fin acc H'->R (.ok .next) s') :
   codeAny (model X.prog X.w) X.A (.compLoop (.ListComp elt [⟨tg,iter,ifs,0⟩] scope pos) 0 (.ref it) (.ref Dl) (compEnvC scope cl C X.env)) R s4:=by
  obtain⟨m0,w0⟩:=w0;have eA:X'.A=X.A:=by rw[hX];rfl
  have eP:X'.prog=X.prog:=by rw[hX];rfl
  have eW:X'.w=X.w:=by rw[hX];rfl
  have eK:X'.K=X.K:=by rw[hX];rfl
  have eE:X'.env=compEnvC scope cl C X.env:=by rw[hX];rfl
  have eX:X'.xe=fun _ _=>False:=by rw[hX];rfl
  have eC:X'.calm=true:=by rw[hX];exact hcalm
  have stat:∀{H':Hp},(∀ b∈fp,H' b=none)->∀ b∈fp,iL X' [] H' b:=fun hn b hb=>⟨hn b hb,(hf b hb).2⟩;refine codeAny_loop rfl (fun n s=>∃ i o acc H,L2.Inv X' [] (o++σc) H s/\o.length=tN.length/\tn i s.heap/\(∀ b∈fp,H b=none)/\W i n acc H) ?_ m0 ⟨0,List.replicate tN.length none,[],H3,I4,by simp,st4,fun b hb=>(hf b hb).1,w0⟩;rintro n s5 ⟨i,o,acc,H5,I5,lo,st5,fr5,w5⟩;show wpAny _ X.A ((compTurn (.ListComp elt [⟨tg,iter,ifs,0⟩] scope pos) 0 (.ref it) (.ref Dl) (compEnvC scope cl C X.env)).onRaise (fun x=>do noteFrame x (compEnvC scope cl C X.env);theTreesLotGoes x)) _ _ s5;refine wpAny_noted ?_;rw[compTurn_list];obtain⟨hD,alt⟩:=turn i n acc H5 w5;rcases alt with⟨stop,fin⟩|⟨go,step⟩
  .refine KE (wpAny_standAt (KE (Ps (eA▸T.done X' eP eW eK eC i [] s5 _ H5 _ I5 (stat fr5) st5 stop) (fun r s6 ⟨hr,I6⟩=>?_) fun _ _ z=>z)));subst hr;exact Os (hR _ H5 acc s6 I6 hD fin)
  .refine KE (wpAny_standAt (KE (Ps (eA▸T.item X' eP eW eK eC i [] s5 _ H5 _ I5 (stat fr5) st5 go) (fun r s6 ⟨u,hr,h6⟩=>?_) fun _ _ z=>z)));subst hr;refine KE (Ps h6 (fun _ s7 ⟨xv,H7,I7,r7,y7,st7,fr7⟩=>?_) fun _ _ z=>z);have I7':=I7.pinned (stat fr7) (T.obj _ _ st7);have hg':=hg _ s7 _ H7 xv u _ I7' r7 (step xv H7 o y7 lo);rw[eP,eW,eA,eE,eX]at hg';refine KE (Ps hg' (fun _ s8 ⟨σ8,H8,I8,shp,q8⟩=>?_) fun _ _ z=>z.elim);obtain⟨o2,lo2,eσ⟩ : ∃ o2:St,o2.length=tN.length/\σ8=o2++σc:=by
    have l8:σ8.length=tN.length+σc.length:=I8.len.trans bW;refine⟨σ8.take tN.length,by rw[Py];lia,?_⟩;have ed:σ8.drop tN.length=σc:=by
     apply Sq
     intro j;rw[List.getElem?_drop,shp (tN.length+j) (by lia),Qa (by lia),lo,Rx]
    rw[<- ed,Qk]
   subst eσ;have ht':=ht _ s8 _ H8 _ I8 q8;rw[eP,eW,eA,eE,eX]at ht';refine KE (Ps ht' (fun ok s9 ⟨H9,I9,q9⟩=>?_) fun _ _ z=>z.elim);have again:∀{s':SF}{H':Hp},L2.Inv X' ([]++lG fp s7.heap) (o2++σc) H' s'->L2.Inv X' [] (o2++σc) H' s'/\tn (i+1) s'.heap/\∀ b∈fp,H' b=none:=fun{s' H'} J'=>by refine⟨J'.jN,T.keep _ _ _ st7 fun b hb ob e=>(J'.pin (b,ob) (O0 _ (O0 _ (gx hb e)))).1,fun b hb=>?_⟩;obtain⟨ob,e,d⟩:=T.obj _ _ st7 b hb;exact(J'.pin (b,ob) (O0 _ (O0 _ (gx hb e)))).2.1
   cases ok with
   |false=>obtain⟨m',hm,w9⟩:=(show ∃ m',m'<n/\W (i+1) m' acc H9 from by simpa using q9);obtain⟨a1,a2,a3⟩:=again I9;exact Os ⟨rfl,m',hm,i+1,o2,acc,H9,a1,lo2,a2,a3,w9⟩
   |true=>
    have q9:te (o2++σc) H9 fun y H5=>H5 Dl=some (.lst acc)/\acc.length<sizeLine/\∃ m',m'<n/\W (i+1) m' (acc++[y]) (upd H5 Dl (.lst (acc++[y]))):=by simpa using q9
    have he':=he _ s9 _ H9 _ I9 q9;rw[eP,eW,eA,eE,eX]at he';refine KE (KE (Ps he' (fun v s10 ⟨y,H10,I10,ry,eD,hl,m',hm,w10⟩=>?_) fun _ _ z=>z.elim));have hm':=cp (X:=X') _ s10 _ H10 (.ref Dl) [y] (.ref Dl) [v] (fun w H'=>w=.bC/\H'=upd H10 Dl (.lst (acc++[y]))) I10 rfl (.cons ry .nil) ⟨Dl,acc,y,rfl,rfl,eD,hl,rfl,rfl⟩;rw[eP,eW,eA,eX]at hm';refine KE (Ps hm' (fun _ s11 ⟨w,H11,I11,_,_,eH⟩=>?_) fun _ _ z=>z.elim);subst eH;obtain⟨a1,a2,a3⟩:=again I11;exact Os (Os ⟨rfl,m',hm,i+1,o2,acc++[y],_,a1,lo2,a2,a3,w10⟩)
end
structure cH (X:Cx) (scope:Scope) (tN:List Str) (capN:List Str) (caps:List Nat):Prop where
 kind:scope.kind=.function
 Ej:∀ y∈scope.names,y.2≠.cell
 names:∀ y∈scope.names,y.2=.local->scope.names.lookup y.1=some .local
 own:∀ x∈tN,scope.names.lookup x=some .local
 free:∀ y∈scope.names,y.2=.free->X.env.kindOf y.1=some .cell\/X.env.kindOf y.1=some .free
 cap:JS X scope capN caps
 nd:(tN++capN).Nodup
section
def cY (X:Cx)(scope:Scope)(tg:Expr)(tN:List Str)(capN:List Str)(caps:List Nat)(elt:Expr)(ifs:List Expr)(σ:St)(Fin:Addr->List V->Hp->Prop)(J:It)(H2:Hp):Prop:=
 ∀(Dl:Addr),H2 Dl=none->∀(cl:List (Str×Addr))(C:Addr)(s3:SF)(fp:List Addr),∃(gt:TG)(tt:TT)(te:TE)(W:Nat->Nat->List V->Hp->Prop),
  PG (bw X scope (tN++capN) cl C s3 (upd H2 Dl (.lst [])) fp) tg gt/\Bg (bw X scope (tN++capN) cl C s3 (upd H2 Dl (.lst [])) fp) ifs tt/\PE (bw X scope (tN++capN) cl C s3 (upd H2 Dl (.lst [])) fp) elt te/\(∃ m,W 0 m [] (upd H2 Dl (.lst [])))/\
  ∀ i m acc H,W i m acc H->H Dl=some (.lst acc)/\((J.stop i H/\Fin Dl acc H)\/(J.go i H/\∀ xv H' (o:St),J.vM i H xv H'->o.length=tN.length->gt xv (o++iP σ caps) H' fun σ2 H1=>(∀ j:Nat,tN.length<=j->σ2[j]?=(o++iP σ caps)[j]?)/\tt σ2 H1 fun b H2=>if b=true then
   te σ2 H2 fun y H5=>H5 Dl=some (.lst acc)/\acc.length<sizeLine/\∃ m',m'<m/\W (i+1) m' (acc++[y]) (upd H5 Dl (.lst (acc++[y]))) else ∃ m',m'<m/\W (i+1) m' acc H2))
theorem oT {use:Option (SI->Sem Unit)}{Qv:SI->SF->Prop}{Fin:Addr->List V->Hp->Prop}(hc:X.calm=true)(S:cH X scope tN capN caps)(I:L2.Inv X af σ H s)(hi:PI X tg iter wi)
 (h:wi σ H (cY X scope tg tN capN caps elt ifs σ Fin))
 (hu:∀(Dl C:Addr)(acc:List V)(H':Hp)(s':SF),L2.Inv X af σ H' s'->iL X af H' C->H' Dl=some (.lst acc)->Fin Dl acc H'->(∃ m,s'.heap.Ns C m)->compPost (model X.prog X.w) X.A X.xe use Qv (.ref Dl) C (.ok .next) s')
 (hs:autoParam (∀ x,foldedSetIterable iter X.env x=pure x) SN._auto_1) :
 wX X (comprehension (.ListComp elt [⟨tg,iter,ifs,0⟩] scope pos) scope X.env (firstIterPos [⟨tg,iter,ifs,0⟩] pos) (newList []) false (eval iter X.env) use) Qv X.xe s:=by
 obtain⟨cl,ecl,hcl,hhas⟩:=nV (scope:=scope) (env:=X.env) fun y hy hf=>I.ok.has y.1 (S.free y hy hf);refine wpAny_comprehension_free rfl hs ecl S.kind S.names (b7 (hi af s σ H _ I h) fun v s1 h1=>b7 h1 fun itv s2 h2=>?_);obtain⟨it,fp,tn,J,H2,rfl,I2,T,st2,f2,goal⟩:=h2;refine PY (wpAny_newFunctionEnv S.Ej (by intro y hy;simp at hy) (fun h₁ hns₁ hsb₁=>?_) S.kind);dsimp only at hns₁ hsb₁ ⊢;have hD:H2 s2.heap.objs.size=none:=I2.aX.fresh (Oq _);have I3:L2.Inv X af σ (upd H2 s2.heap.objs.size (.lst [])) { s2 with heap:=s2.heap.push { cls:=.type "list",dict:=none,data:=.seq ([]:List SI).toArray } }:=I2.laid (t':=s2.toks) (fun b u e=>Oo _ e) (Oq _) ⟨OP _,[],0,.nil,Oz _ rfl⟩;generalize hs3:({ s2 with heap:=s2.heap.push { cls:=.type "list",dict:=none,data:=.seq ([]:List SI).toArray } }:SF)=s3 at I3;have e3:s2.heap.push { cls:=.type "list",dict:=none,data:=.seq ([]:List SI).toArray }=s3.heap:=by rw[<- hs3]
 rw[e3]at hns₁ hsb₁ ⊢;have kp:∀ b o,s3.heap.get? b=some o->h₁.get? b=some o:=fun b o e=>hsb₁.extBut b o (OQ (Oy e)) (Oo _ e);have k23:∀ b o,s2.heap.get? b=some o->s3.heap.get? b=some o:=fun b o e=>by rw[<- e3];exact Oo _ e
 have hex:∀ b∈fp,iL X af (upd H2 s2.heap.objs.size (.lst [])) b/\b<s3.heap.objs.size:=fun b hb=>by obtain⟨o,ho,_⟩:=T.obj 0 _ st2 b hb;have hlt:b<s2.heap.objs.size:=Oy ho;refine⟨⟨?_,(f2 b hb).2⟩,Oy (k23 b o ho)⟩;rw[aA (OQ hlt)];exact(f2 b hb).1
 have es:({ s2 with heap:=h₁,toks:=s2.toks+([]:List (Str×SI)).length }:SF)={ s3 with heap:=h₁,toks:=s2.toks+([]:List (Str×SI)).length }:=by rw[<- hs3]
 have I4:L2.Inv (bw X scope (tN++capN) cl s3.heap.objs.size s3 (upd H2 s2.heap.objs.size (.lst [])) fp) [] (List.replicate tN.length none++iP σ caps) (upd H2 s2.heap.objs.size (.lst [])) { s3 with heap:=h₁,toks:=s2.toks+([]:List (Str×SI)).length }:=y_ I3 S.kind S.Ej hcl hhas (Oq _) hex S.cap kp hns₁;obtain⟨gt,tt,te,W,hg,ht,he,w0,turn⟩:=goal s2.heap.objs.size hD cl s3.heap.objs.size s3 fp;have st4:tn 0 h₁:=T.keep 0 _ _ st2 fun b hb o e=>kp b o (k23 b o e);have f4:∀ b∈fp,iL (bw X scope (tN++capN) cl s3.heap.objs.size s3 (upd H2 s2.heap.objs.size (.lst [])) fp) [] (upd H2 s2.heap.objs.size (.lst [])) b:=fun b hb=>by
  obtain⟨f,hlt⟩:=hex b hb;refine⟨f.1,OQ hlt,fun hfs=>?_,.inl hb,fun y c e=>f.2.2.2.2.1 y c (hcl y c e),fun p hp=>absurd (show p∈([]:List (Addr×Obj)) from hp) (by simp)⟩;rcases OC.mp (I3.nC b hfs) with z|z
  .exact f.2.1 z
  .exact f.2.2.1 z
 have loop:codeAny (model X.prog X.w) X.A (.compLoop (.ListComp elt [⟨tg,iter,ifs,0⟩] scope pos) 0 (.ref it) (.ref s2.heap.objs.size) (compEnvC scope cl s3.heap.objs.size X.env)) (compPost (model X.prog X.w) X.A X.xe use Qv (.ref s2.heap.objs.size) s3.heap.objs.size)
  { s3 with heap:=h₁,toks:=s2.toks+([]:List (Str×SI)).length }:=by
  refine wC rfl T hc I4 (by show(tN++capN).length=_;simp[iP,S.cap.len]) st4 f4 hg ht he W (Fin s2.heap.objs.size) w0 turn _ fun σ' H' acc s' I' hD' fin=>?_;obtain⟨Io,fo⟩:=wB I3 rfl (Oq _) hex I';obtain⟨m',hn',_⟩:=I'.loc;exact hu _ _ acc H' s' Io fo hD' fin ⟨m',hn'⟩
 rw[es];exact codeAny_compStart_list loop (T.self _ 0 _ _ _ st4 loop)
theorem za (hc:X.calm=true)(S:cH X scope tN capN caps)(I:L2.Inv X af σ H s)(hi:PI X tg iter wi)(h:wi σ H (cY X scope tg tN capN caps elt ifs σ fun Dl _ H'=>Q (.ref Dl) H'))
 (hs:autoParam (∀ x,foldedSetIterable iter X.env x=pure x) SN._auto_1):wX X (eval (.ListComp elt [⟨tg,iter,ifs,0⟩] scope pos) X.env) (EP X af σ Q) X.xe s:=by
 rw[eval_ListComp];refine oT (use:=none) hc S I hi h (fun Dl C acc H' s' Io fo hD fin hn=>?_) hs;obtain⟨m,hn⟩:=hn;exact⟨m,hn,fun h' sb=>⟨.ref Dl,H',vf Io fo sb,rfl,fin⟩⟩
theorem zb {D:Ends}{i:Nat}(hc:X.calm=true)(S:cH X scope tN capN caps)(hN:X.N.Nodup)(hi':X.N[i]?=some y)(hy:X.env.scope.names.lookup y=some .local)
 (hsw:swapsWith (.ListComp elt [⟨tg,iter,ifs,0⟩] scope pos) (some (.Name y py)) spos.line X.env=pure true) (I:L2.Inv X af σ H s) (hi:PI X tg iter wi)
 (h:wi σ H (cY X scope tg tN capN caps elt ifs σ fun Dl _ H'=>D.nx (σ.set i (some (.ref Dl))) H')) (hs:autoParam (∀ x,foldedSetIterable iter X.env x=pure x) SN._auto_1) :
 wX X (exec (.Assign [.Name y py] (.ListComp elt [⟨tg,iter,ifs,0⟩] scope pos) spos) X.env) (SP X af D) X.xe s:=by
 rw[exec_Assign_Name_used _ _ _ _ hsw];refine KE (wpAny_standAt (KE ?_));show wpAny _ X.A (do let _ <- comprehension (.ListComp elt [⟨tg,iter,ifs,0⟩] scope pos) scope X.env _ (newList []) false (eval iter X.env) (some (assign (.Name y py) X.env))) _ _ s;refine KE (Ps (oT (use:=some (assign (.Name y py) X.env)) (Qv:=fun _ s'=>SP X af D .next s') hc S I hi h (fun Dl C acc H' s' Io fo hD fin hn=>?_) hs) (fun _ s' hq=>Os (Os hq)) fun _ _ e=>e);obtain⟨m,hn⟩:=hn;show wpAny _ X.A (assign (.Name y py) X.env (.ref Dl)) _ _ _;refine wpAny_assign_Name (ot (v:=.ref Dl) Io hN hi' (.inl hy) rfl (fun s'' I'' ⟨a,sb,ha⟩=>?_) (.inr hy));have nca:C≠a:=by
  rcases ha with z|z
  .rw[z];exact fo.2.1
  .exact Pw (fo.2.2.2.2.1 y a z)
 refine⟨m,hn.sameBut sb nca,fun h' sb'=>?_⟩;exact⟨_,H',vf I'' fo sb',fin⟩
end
noncomputable def Res.MJ {α:Type}:Res α->Res α
 | .exc _=>.stuck
 |r=>r
def Kz (env:En)(j:Nat):Option Sl:=match env[j]? with
 |some (some (.val d fr))=>some (.val d fr)
 |some (some (.own ds fr))=>some (.val (.lst ds) fr)
 |some (some (.LR d))=>some (.val d true)
 |_=>none
def HG (env:En)(n:Nat)(caps:List Nat):En:=List.replicate n none++caps.map (Kz env)
def vg (mk:D->Option En)(test:En->Res Bool)(elt:En->Res R):List D->Res (List R)
 | []=>.ok []
 |x::xs=>match mk x with
  |none=>.stuck
  |some e=>(test e).bind fun b=>if b then (elt e).bind fun r=>(vg mk test elt xs).bind fun rs=>.ok (r::rs) else vg mk test elt xs
def HH (n:Nat)(caps:List Nat)(src:En->Res Src)(asg:D->Bool->En->Option En)(test:En->Res Bool)(elt:En->Res R):En->Res R:=fun env=>(src env).bind fun s=>if s.xs.length<=lim then
 (vg (fun d=>asg d s.fr (HG env n caps)) test elt s.xs).MJ.bind fun rs=>.ok (Mb (rs.map R.d) (HE rs) (s.al++caps.filter (DT env))) else .stuck
noncomputable def mC (X:Cx)(scope:Scope)(tg:Expr)(tN:List Str)(capN:List Str)(caps:List Nat)(elt:Expr)(ifs:List Expr)(wi:TI):TE:=fun σ H Q=>wi σ H (cY X scope tg tN capN caps elt ifs σ fun Dl _ H'=>Q (.ref Dl) H')
def zd (N:List Str)(ds:List D):En:=ds.map (fun d=>some (.val d false))++List.replicate (N.length-ds.length) none
def HI:Res Fl->Res R
 | .ok (.nx _)=>.ok (.val .bC true [])
 | .ok (.rt r)=>.ok r
 | .ok _=>.stuck
 | .exc c=>.exc c
 | .stuck=>.stuck
def KA (N:List Str)(FB:En->Res Fl)(ds:List D):Res R:=HI (FB (zd N ds))
theorem HJ:fP gU X E:=fun _ _ _ _ _ _ _ h=>h.elim
section
noncomputable def D.ty:D->String
 | .bC=>"NoneType" | .bl _=>"bool" | .int _=>"int" | .str _=>"str" | .tup _=>"tuple" | .lst _=>"list" | .xI _ _=>"dict"
def KB (K:SG) (H:Hp) (x:V) (t:SI):Prop:=kz K H x t\/(t=.type "dict"/\∃ a,x=.ref a/\Hv H a)
def Mc (T:String)(d:D):Bool:=match d with
 | .bC=>T=="NoneType"
 | .bl _=>T=="bool" || T=="int"
 | .int _=>T=="int"
 | .str _=>T=="str"
 | .tup _=>T=="tuple"
 | .lst _=>T=="list"
 | .xI _ _=>T=="dict"
def Cr (T:String):Prop:=∀(K:SG)(d:D),PySem.W.kitOne K (.type d.ty) (.type T)=some (Mc T d)
theorem zf:Cr "int":=fun K d=>by cases d<;>kernel_rfl
theorem wD:Cr "bool":=fun K d=>by cases d<;>kernel_rfl
theorem wF:Cr "list":=fun K d=>by cases d<;>kernel_rfl
theorem zg:bQ X (.builtin "isinstance") (fun xs H Q=>∃ x T t b,xs=[x,.ty T]/\KB X.K H x t/\PySem.W.kitOne X.K t (.type T)=some b/\Q (.bl b) H):=by
 intro af s σ H xs us Q I r h;obtain⟨x,T,t,b,rfl,ty,e,q⟩:=h;obtain⟨u,c,rfl,ru,rc⟩:=lI r;obtain rfl:c=Value.type T:=rc;rcases ty with ty|⟨rfl,a,rfl,hd⟩
 .exact vY I ru ty e fun tk=>⟨.bl b,H,I.tok tk,rfl,q⟩
 .obtain rfl:u=Value.ref a:=ru;obtain⟨t1,_⟩:=pC I hd;exact Px Si I.iW t1 e (fun z=>nomatch z) fun tk=>⟨.bl b,H,I.tok tk,rfl,q⟩
end
section
theorem wG (hc:X.calm=true):bQ X (.builtin "all") (fun xs H Q=>∃(p:Addr)(vs:List V)(bs:List Bool),xs=[.ref p]/\SqL X.K H p vs/\vs=bs.map V.bl/\Q (.bl (bs.all id)) H):=by
 intro af s σ H xs us Q I r h;obtain⟨p,vs,bs,rfl,hq,rfl,q⟩:=h;obtain⟨u,rfl,rx⟩:=dm r;cases rx;obtain⟨its,rv,pl,hz⟩:=I.list hq;have hh:X.A.in1.handled=none:=I.ok.hd hc;obtain⟨o,ho,_⟩:=pl.isList;have hlt:p<s.heap.objs.size:=Oy ho;refine call_all_walk (RB pl.isList ?_);refine⟨s.heap.objs.size,_,_,_,_,_,fun i=>(bs[i]?).getD true,rfl,Walks.list hh s.heap.objs.size p (OQ hlt) its.toArray,⟨⟨_,Oz _ rfl,rfl,rfl⟩,?_⟩,?_,fun h' tk hk=>?_⟩
 .exact pl.isList.at fun o e=>Oo _ e
 .intro i v s' Q' E' hv hQ';have hv:its[i]?=some v:=by simpa using hv
  have hi:i<its.length:=(Ov.mp hv).1;have hl:=rv.length;have hb:i<bs.length:=by simpa using (by rw[Ot]at hl;lia:i<bs.length)
  obtain⟨u',hu,ru⟩:=rv.get (i:=i) (x:=.bl bs[i]) (by simp[hb]);rw[hv]at hu;cases hu;cases ru;have eb:bs[i]?=some bs[i]:=by simp[hb]
  dsimp only at hQ';rw[eb]at hQ';exact PX hQ'
 .have hl:=rv.length;rw[Ot]at hl;have e:((List.range its.toArray.size).all fun i=>(bs[i]?).getD true)=bs.all id:=by
   rw[OA,<- hl];rw[Rm,QQ,QQ];constructor
   .intro h b hb;obtain⟨i,hi⟩:=OS.mp hb;have:=h i (by simp;exact(Ov.mp hi).1);rw[hi]at this;exact this
   .intro h i hi;have hi:i<bs.length:=by simpa using hi
    have eb:bs[i]?=some bs[i]:=by simp[hi]
    rw[eb];exact h _ (RU hi)
  rw[e];refine⟨.bl _,H,?_,rfl,q⟩;have I1:L2.Inv X af σ H { s with heap:=s.heap.push { cls:=.type "list_iterator",data:=.fields #[.ref p,.int 0 0] } }:=I.kept (t':=s.toks) fun b o e=>Oo _ e;have fo:=I.qu (H':=H) (Oq s.heap.objs.size) (I.aX.fresh (Oq _));exact I1.turned (t':=tk) (it:=s.heap.objs.size) (fun b o hb e=>hk b o (by simpa using hb) e) fo.1 fo.2.1 fo.2.2.2.1 fo.2.2.2.2.1 fo.2.2.2.2.2
end
def JZ (K:SG)(a:Addr):It:=⟨fun i H=>∃ xs x,SqL K H a xs/\xs[i]?=some x,fun i H y H'=>∃ p x,H p=none/\y=.ref p/\H'=upd H p (.tup [.int (i:Nat),x])/\∀ xs,SqL K H a xs->xs[i]?=some x,fun i H=>∃ xs,SqL K H a xs/\xs.length<=i⟩
theorem wH {P:SH}{w:World}{K:SG}(a it e:Addr)(hei:e≠it):Turn P w K (.Tuple es k pos) (JZ K a) [e,it] e (fun i h=>(∃ old,IsEnum h e it i old)/\h.IsListIter it a i) where
 mem:=by simp
 obj:=fun i h st b hb=>by
  obtain⟨⟨old,he⟩,o,ho,c,d⟩:=st;rcases OC.mp hb with rfl|hb
  .exact⟨_,he,fun v z=>by cases z⟩
  .have:b=it:=by simpa using hb
   subst this;exact⟨o,ho,fun v z=>by rw[d]at z;cases z⟩
 keep:=fun i h h' st kk=>by obtain⟨⟨old,he⟩,hl⟩:=st;exact⟨⟨old,kk e (by simp) _ he⟩,hl.at fun o q=>kk it (by simp) o q⟩
 item:=by
  intro X hP hw hK hc i af s σ H E I hf st hg;subst hP hw hK;obtain⟨xs,x,hq,hx⟩:=hg;obtain⟨⟨old,he⟩,hl⟩:=st;obtain⟨its,rv,p,hz⟩:=I.list hq;obtain⟨u,hu,ru⟩:=rv.get hx;have fe:=hf e (by simp);have fi:=hf it (by simp);have hai:a≠it:=by intro z;obtain⟨o1,e1,c1,_⟩:=p.isList;obtain⟨o2,e2,c2,_⟩:=hl;rw[z,e2]at e1;cases e1;rw[c2]at c1;injection c1 with z;exact absurd z (by decide)
  have hae:a≠e:=by intro z;obtain⟨o1,e1,c1,_⟩:=p.isList;rw[z,he]at e1;cases e1;injection c1 with z;exact absurd z (by decide)
  have hh:X.A.in1.handled=none:=I.ok.hd hc;have hil:i<its.length:=(Ov.mp hu).1;refine wpAny_pyNext_enum_itemD (Draws.list hh it a hai its.toArray) he ⟨hl,p.isList⟩ (by simpa using hil) hei (by simp;exact⟨hei,Pw hae⟩) fun x' h' tk hx' ho hs' hT hsz hk=>?_;have ex:x'=u:=by
   have:its[i]?=some x':=by simpa using hx'
   rw[hu]at this;exact(OW this).symm
  subst ex;refine⟨_,rfl,wpAny_letOwnedTupleGo_enum ho fun h'' he'' hs''=>?_⟩;have keep2:∀ b o,b≠e->b≠it->s.heap.get? b=some o->h''.get? b=some o:=fun b o n1 n2 q=>(hs''.2 b n1).trans (hk b o n1 n2 q);have hTe:s.heap.objs.size≠e:=Rg (Oy he);have hT'':h''.get? s.heap.objs.size=some { cls:=.type "tuple",data:=.seq #[.int i tk,x'] }:=(hs''.2 _ hTe).trans hT;have I1:L2.Inv X af σ (upd H s.heap.objs.size (.tup [.int (i:Nat),x])) { s with heap:=h'',toks:=tk+1 }:=by
   refine I.step (g':=s.gens) (d':=s.drawn) (ch:=[e,it]) (fun b hb=>?_) (fun b o _ _ hn q _=>keep2 b o (fun z=>hn (by simp[z])) (fun z=>hn (by simp[z])) q)
    (fun b o _ _ hn q _=>⟨o.slots,keep2 b o (fun z=>hn (by simp[z])) (fun z=>hn (by simp[z])) q⟩) (fun b o _ q hH=>by rw[aA (OQ (Oy q))];exact hH)
    (fun b o hn q=>⟨o,keep2 b o (fun z=>hn (by simp[z])) (fun z=>hn (by simp[z])) q⟩) (fun b ys q=>by rw[aA (aB q (I.aX.fresh (Oq _)))];exact q)
    (fun b o' u' q=>by rw[aA (aB q (I.aX.fresh (Oq _)))];exact q) (fun b ps q=>⟨#[],by rw[aA (aB q (I.aX.fresh (Oq _)))];simp[q]⟩) (fun m hm=>?_) (fun b u' q=>?_) I.bare
   .rcases OC.mp hb with rfl|hb
    .exact⟨fe.2.2.2.1,fe.2.1,fe.2.2.2.2.1,fe.2.2.2.2.2⟩
    .have:b=it:=by simpa using hb
     subst this;exact⟨fi.2.2.2.1,fi.2.1,fi.2.2.2.2.1,fi.2.2.2.2.2⟩
   .obtain⟨o,es',ep,ho',r⟩:=hm;exact⟨o,es',ep,keep2 _ o (Pw fe.2.1) (Pw fi.2.1) ho',r⟩
   .by_cases hb:b=s.heap.objs.size
    .subst hb;rw[ao]at q;cases q;refine⟨by show 2<=sizeLine;decide,[.int i tk,x'],.cons ⟨tk,rfl⟩ (.cons ru .nil),⟨_,hT'',rfl,0,rfl⟩⟩
    .rw[aA hb]at q;refine(I.aX b u' q).stay (fun c v hc' q'=>keep2 c v ?_ ?_ q') (fun c r=>by rw[aA (aB r (I.aX.fresh (Oq _)))];exact r) fun c ys r=>by rw[aA (aB r (I.aX.fresh (Oq _)))];exact r
     .rcases hc' with z|z
      .rw[z];exact aB q fe.1
      .exact aB z fe.1
     .rcases hc' with z|z
      .rw[z];exact aB q fi.1
      .exact aB z fi.1
  refine⟨.ref s.heap.objs.size,_,I1,rfl,⟨_,x,I.aX.fresh (Oq _),rfl,rfl,fun ys hy=>by rw[I.nF hy hq];exact hx⟩,⟨⟨_,by simpa using he''⟩,?_⟩,fun b hb=>?_⟩
  .obtain⟨o,q,r⟩:=hs'.1;exact⟨o,(hs''.2 it (Pw hei)).trans q,r⟩
  .rcases OC.mp hb with rfl|hb
   .rw[aA (OQ (Oy he))];exact fe.1
   .have:b=it:=by simpa using hb
    subst this;obtain⟨o,q,_⟩:=hl;rw[aA (OQ (Oy q))];exact fi.1
 done:=by
  intro X hP hw hK hc i af s σ H E I hf st hg;subst hP hw hK;obtain⟨xs,hq,hx⟩:=hg;obtain⟨⟨old,he⟩,hl⟩:=st;obtain⟨its,rv,p,hz⟩:=I.list hq;have fi:=hf it (by simp);have hai:a≠it:=by intro z;obtain⟨o1,e1,c1,_⟩:=p.isList;obtain⟨o2,e2,c2,_⟩:=hl;rw[z,e2]at e1;cases e1;rw[c2]at c1;injection c1 with z;exact absurd z (by decide)
  have hh:X.A.in1.handled=none:=I.ok.hd hc;have hln:=rv.length;have Dr:Draws X.prog X.w X.A.in1 it [it,a] 0 (fun _ _=>True) (fun _ h=>h.IsListIter it a i/\h.IsList a its.toArray):=
   { live:=fun _ _ st=>let ⟨o,ho,_⟩:=st.1;⟨o,ho⟩
     frame:=fun _ _ _ st hk=>⟨st.1.at fun o e=>hk it (by simp) o e,st.2.at fun o e=>hk a (by simp) o e⟩
     item:=fun i s Q E hi=>absurd hi (by lia)
     done:=fun s Q E st hE=>wpAny_nextOf_list_end hh st.1 st.2 (by simp;lia) hE }
  exact wpAny_pyNext_enum_endD Dr he ⟨hl,p.isList⟩ fun h' eb=>⟨rfl,I.turned (t':=s.toks) (fun b o hb e=>eb b o hb e) fi.1 fi.2.1 fi.2.2.2.1 fi.2.2.2.2.1 fi.2.2.2.2.2⟩
 self:=fun A i s Q E st h=>by obtain⟨⟨old,he⟩,_⟩:=st;exact wpAny_pyIter_enum he h
section
def vh (K:SG)(ta:TA):TI:=fun σ H R=>ta σ H fun vs H1=>∃ a xs,vs=[.ref a]/\SqL K H1 a xs/\R (JZ K a) H1
theorem vi {l:Expr} (hg:Gl X "enumerate") (hm:X.mg "enumerate"=none) (ha:PA X [l] ta) (hs:autoParam (starEach [l] X.env=[(false,eval l X.env)]) SQ._auto_1):PI X (.Tuple es k AM) (.Call (.Name "enumerate" p) [l] [] pos) (vh X.K ta):=by
 intro af s σ H R I h;refine Call_ (gw I hg hm (by decide +kernel:bootBuiltins "enumerate"=some (.type "enumerate")) (PH (b7 (ha pos af s σ H _ I h) fun us s1 ⟨vs,H1,I1,r1,q1⟩=>?_) hs rfl));obtain⟨a,xs,e,hq,q⟩:=q1;subst e;cases r1 with
 |cons r rr=>
  cases rr;cases r;obtain⟨its,rv,pl,hz⟩:=I1.list hq;refine call_enumerate_list pl.isList fun h' he hl hsz kp=>?_;have I2:L2.Inv X af σ H1 { s1 with heap:=h' }:=I1.kept (t':=s1.toks) kp;refine wpAny_pyIter_enum he ?_;refine⟨s1.heap.objs.size+1,[s1.heap.objs.size+1,s1.heap.objs.size],_,_,H1,rfl,I2,wH a s1.heap.objs.size (s1.heap.objs.size+1) (Nat.succ_ne_self _),⟨⟨_,by simpa using he⟩,hl⟩,fun b hb=>?_,q⟩;rcases OC.mp hb with rfl|hb
  .exact I1.qu (Nat.le_succ _) (I1.aX.fresh (Nat.le_succ _))
  .have e:b=s1.heap.objs.size:=by simpa using hb
   subst e;exact I1.qu (Oq _) (I1.aX.fresh (Oq _))
end
noncomputable def Md (osc:Scope)(N:List Str)(scope:Scope)(tN capN:List Str)(caps:List Nat):Bool:=
 (scope.kind==.function)&&scope.names.all (fun y=>y.2 != .cell)&&scope.names.all (fun y=>y.2 != .local || scope.names.lookup y.1==some .local)&&tN.all (fun x=>scope.names.lookup x==some .local) &&
 scope.names.all (fun y=>y.2 != .free || (osc.names.lookup y.1==some .cell || osc.names.lookup y.1==some .free))&&(capN.zip caps).all (fun p=>N[p.2]?==some p.1)&&(caps.length==capN.length) &&
 capN.all (fun y=>osc.names.lookup y==some .cell || osc.names.lookup y==some .free)&&capN.all (fun y=>scope.names.lookup y==some .free)&&decide (tN++capN).Nodup
theorem cH.of (h1:X.env.scope=osc)(h2:X.N=N)(h3:Md osc N scope tN capN caps=true):cH X scope tN capN caps:=by
 unfold Md at h3;simp only[PU,QQ,Bool.or_eq_true,Rh,bne_iff_ne,decide_eq_true_eq,ne_eq]at h3;obtain⟨⟨⟨⟨⟨⟨⟨⟨⟨a1,a2⟩,a3⟩,a4⟩,a5⟩,a6⟩,a7⟩,a8⟩,a9⟩,a10⟩:=h3;subst h1 h2;refine⟨a1,a2,fun y hy hl=>(a3 y hy).resolve_left fun z=>z hl,a4,fun y hy hf=>(a5 y hy).resolve_left fun z=>z hf,⟨fun k y e=>?_,a8,a9,a7⟩,a10⟩;have hk:k<capN.length:=(Ov.mp e).1;have hk2:k<caps.length:=by lia
 refine⟨caps[k],by simp[hk2],?_⟩;have hm:(y,caps[k])∈capN.zip caps:=by
  have:(capN.zip caps)[k]?=some (y,caps[k]):=by rw[Q8];exact⟨e,by simp[hk2]⟩
  exact OU this
 exact a6 _ hm
structure Fn (K:SG) (mg:Str->Option SI) (x:Str) (st:Stmt) (ps:List Str) (f:Addr) (fd:FuncData):Prop where
 fu:Bq K x x st f fd
 bi:Binds K fd ps []
 gl:mg x=some (.ref f)
def J0 (F:List D->Res R):Sp:=fun vs H Q _=>vs.length=1/\∃ ds Ma r,IsAll H Ma ds vs/\F ds=.ok r/\∀ v H',Same H H'->DU (L_ H Ma) H' v r->Q v H'
theorem mE:∀ ns:List Int,IsAll H m (ns.map D.int) (ns.map V.int)
 | []=>rfl
 |n::r=>⟨.int n,r.map V.int,rfl,rfl,mE r⟩
theorem E7 (hF:∀ ns:List Int,ns.length<=63->∃ f al,F [.lst (ns.map .int)]=.ok (.val (.bl true) f al))(H:Hp)(a:Addr)(ns:List Int)(hl:ns.length<=63)(hS:∃ o,H a=some (.cm o (.lst (ns.map V.int)))) :
 J0 F [.ref a] H (fun v _=>v=.bl true) fun _ _ _=>False:=by
 obtain⟨f,al,e⟩:=hF ns hl;obtain⟨o,hS⟩:=hS;exact⟨rfl,[.lst (ns.map .int)],fun b=>b=a,_,⟨_,[],rfl,⟨a,ns.map V.int,rfl,.inr ⟨o,hS,rfl⟩,mE ns⟩,rfl⟩,e,fun v H' _ h=>h⟩
section
variable {P:SH}{w:World}{K:SG}{mg:Str->Option SI}{base:Heap}
theorem bF.top (h:bF P w K mg base CX k f fd ps (y9 mg 1 F)):bF P w K mg base CX k f fd ps (J0 F):=h.imp fun vs H Q E ⟨hl,ds,Ma,r,is,e,q⟩=>⟨hl,ds,Ma,is,by rw[e];exact q⟩
end
theorem E8 (h:uP P w l H s (fun _ _ _=>False) e s'):False:=by obtain⟨_,_,_,_,_,_,_,_,_,_,_,_,_,_,_,z⟩:=h;exact z
end L3
namespace L2
open PySem PySem.Spec PySem.Calls PyProof.Rows
abbrev Cx.bO (X:Cx)(x:Addr)(o:Obj):Cx:={ X.caught x with pn:=(x,o)::X.pn }
section
variable {X:Cx}{af:List (Addr×Obj)}{σ:St}{H:Hp}{s:SF}{x:Addr}{o:Obj}
theorem Inv.bO (I:Inv X af σ H s)(e:s.heap.get? x=some o)(n:H x=none)(nl:x≠X.env.locals)(nf:x∉X.fs)(nc:∀ v,o.data≠.cell v):Inv (X.bO x o) af σ H s:=
 let J:=I.caught x
 ⟨⟨I.ok.mod,I.ok.kind,I.ok.glob,I.ok.blt,I.ok.above,I.ok.inj,I.ok.has,I.ok.Bu,(fun z=>by cases z),I.ok.frames,I.ok.stk,I.ok.GD,I.ok.bs,I.ok.vK,I.ok.om,I.ok.qr,I.ok.iA,I.ok.xW,I.ok.kt⟩,I.os,I.bare,I.base,I.loc,I.cell,I.free,I.dj,(fun p hp=>by
   rcases OC.mp hp with rfl|hp
   .exact⟨e,n,nl,nf,nc⟩
   .exact I.pin p hp),I.aX,I.len⟩
theorem Inv.xK (I:Inv (X.bO x o) af σ H s)(ok:X.Ok):Inv X af σ H s:=⟨ok,I.os,I.bare,I.base,I.loc,I.cell,I.free,I.dj,fun p hp=>I.pin p (Ow _ hp),I.aX,I.len⟩
theorem Cs (I:Inv X af σ H s)(hN:X.N.Nodup)(hi:X.N[i]?=some n)(hk:X.env.scope.names.lookup n=some .local)
 (h:∀ s',Inv X af (σ.set i none) H s'->Q () s'):wpAny M A (do bindName X.env n .none;unbindBehindTheSuite X.env n pos) Q E s:=by
 obtain⟨m,hn,hl⟩:=id I.loc;have hcls:(X.env.scope.kind==.class || (X.env.scope.kind==.module&&X.env.locals != X.env.globals))=false:=by rw[I.ok.kind];rfl
 have hiσ:i<σ.length:=by rw[I.len];exact(Ov.mp hi).1
 have AX:=I.AX;have tracked:∀{a:Addr}{h':Heap},(∃ o,s.heap.get? a=some o/\H a=none)->Heap.SameBut a s.heap h'->HOk X.prog X.w H h':=fun{a h'} ha hs b ob e=>by
  obtain⟨_,_,hfree⟩:=ha;refine(I.aX b ob e).stay (fun c w' hc q=>(hs.2 c ?_).trans q) (fun _ q=>q) fun _ _ q=>q;rintro rfl;rcases hc with rfl|hc
  .rw[hfree]at e;cases e
  .rw[hfree]at hc;cases hc
 refine wpAny_nameGoes_keeps hk hn hcls fun h' v hn' hs=>?_;obtain⟨oL,_,_,hoL,_⟩:=id hn;refine h _ ⟨I.ok,I.os,I.bare,⟨fun b o e n hb hx=>?_,fun b o e n hb hx=>?_,I.base.free,fun b o e hx=>?_,I.base.gY,I.base.iB,I.base.kA⟩,⟨_,hn',fun j y v' e1 e2 e3=>?_⟩,fun y c e=>?_,I.free,I.dj,fun p hp=>?_,tracked ⟨oL,hoL,I.free⟩ hs,by simpa using I.len⟩
 .exact(hs.2 b (OQ (OV (Oy e) I.ok.above))).trans (I.base.keep b o e n hb hx)
 .obtain⟨sl,e1⟩:=I.base.slot b o e n hb hx;exact⟨sl,(hs.2 b (OQ (OV (Oy e) I.ok.above))).trans e1⟩
 .obtain⟨o',e1⟩:=I.base.there b o e hx;exact⟨o',(hs.2 b (OQ (OV (Oy e) I.ok.above))).trans e1⟩
 .by_cases hj:j=i
  .subst hj;rw[Ry hiσ]at e2;cases e2
  .rw[RV (Pw hj)]at e2;obtain⟨u',r',q⟩:=hl j y v' e1 e2 e3;refine⟨u',r',?_⟩;rcases q with⟨k,e⟩|⟨k,c,e,z⟩
   .refine .inl ⟨k,?_⟩;have:y≠n:=fun e=>hj (lE hN e1 (e▸hi));simp[this,e]
   .exact .inr ⟨k,c,e,z.sameBut hs (AX y c e)⟩
 .obtain⟨w',z⟩:=I.cell y c e;exact⟨w',z.sameBut hs (AX y c e)⟩
 .obtain⟨e,n,ne,nf,d⟩:=I.pin p hp;exact⟨(hs.2 p.1 ne).trans e,n,ne,nf,d⟩
end
end L2
namespace L3
open PySem PySem.Spec PyProof.Rows L2
section
variable {X:Cx}
noncomputable def HK (neg:Bool):R2:=fun x y H Q=>∃ a o,y=.ref a/\DO H a x o/\Q (.bl (if neg then !o.isSome else o.isSome)) H
theorem E9 (hu:X.A.units+64<cLine):iN X (compareOp .In) (HK false):=by intro af s σ H x y v u Q I rx ry h;obtain⟨a,o,rfl,g,q⟩:=h;cases ry;exact Hw (by lia) I g rx fun s' I'=>⟨.bl _,H,I',rfl,q⟩
end
def getD:List DK->List D->DK->Option D
 |k'::ks,d::ds,k=>if k'=k then some d else getD ks ds k
 |_,_,_=>none
theorem oU (t:TupsIn H vs its):∀ x∈its,H x.2=some (.tup ((iK x.1).map kV)):=by
 unfold TupsIn at t;induction t with
 |nil=>exact fun x hx=>nomatch hx
 |cons q _ ih=>
  intro x hx;rcases OC.mp hx with rfl|hx
  .exact q.2
  .exact ih x hx
noncomputable abbrev Me:=Int×Int×Int
noncomputable def dd (l:List Int)(x:Int):List Int:=if x∈l then l else l++[x]
def KC (xs:List Int):List Int:=xs.foldl dd []
def g2 (ts:List Me)(x:Int):List Int:=KC ((ts.filter fun t=>decide (t.1=x)).map (·.2.1))
theorem gB:∀(k:List Int),IsAll H m (k.map .int) (k.map .int)
 | []=>rfl
 |i::k=>⟨.int i,_,rfl,rfl,gB k⟩
theorem KD (h:n+64<c):n+1<c:=by lia
end L3
namespace L2
open PySem PySem.Spec PyProof.Rows
end L2
namespace L3
open PySem PySem.Spec PyProof.Rows L2
section
def vj (a b:Str):Prop:=0<b.length/\a.length<=100000/\(Txt.split a b).length<=100000/\(Builtin.Str.partsBetween a (Builtin.Str.occurrences a b 0 a.length (a.length+1)) b.length).length<=100000
instance (a b:Str):Decidable (vj a b):=by unfold vj;infer_instance
end
section
theorem jr {kvs:List (bG×V)}(h:cz kvs k=none):ci kvs k y=kvs++[(k,y)]:=by unfold ci;rw[gb,h,OL (by simp)]
end
noncomputable abbrev IP:=Int×Int
noncomputable def dp (l:List IP)(x:IP):List IP:=if x∈l then l else l++[x]
def h1 (ts:List Me):List IP:=(ts.map fun t=>(t.1,t.2.1)).foldl dp []
end L3
namespace L2
open PySem PySem.Spec PySem.Calls PyProof.Rows
section
theorem wI:bQ X (.builtin "len") (fun xs H Q=>∃(d:Addr)(kvs:List (bG×V))(u:HO),xs=[.ref d]/\(u=.dK kvs\/(u=.dT []/\kvs=[]))/\Rd H d u/\kvs.length<=sizeLine/\Q (.int kvs.length) H):=by
 intro af s σ H xs us Q I r h;obtain⟨d,kvs,u,rfl,hu,hrd,hz,q⟩:=h;obtain⟨w,rfl,rx⟩:=dm r;cases rx;have hx:=hrd.ok I.aX;have key:(d==sysModules)=false/\∃ vs,KV kvs vs/\s.heap.DictOf (aS X.prog X.w) d vs:=by
  rcases hu with rfl|⟨rfl,rfl⟩
  .obtain⟨z,hd,vs,rel,dd⟩:=hx;exact⟨hd,vs,rel,dd⟩
  .obtain⟨hd,dd⟩:=pE hx;exact⟨hd,[],.nil,dd⟩
 obtain⟨hd,vs,rel,dd⟩:=key;refine call_len_dict hd dd (by rw[<- rel.length];rw[OG]at hz;lia) ?_;exact⟨.int kvs.length,H,I.tok _,⟨_,by rw[rel.length]⟩,q⟩
end
end L2
namespace L3
open PySem PySem.Spec PyProof.Rows L2
theorem E_ {K KK:SG}{mg:Str->Option SI}{x:Str}{st:Stmt}{ps:List Str}{f:Addr}{oc:SI}{od an:Option Addr}{osl:Array (Option SI)}{kV doc pm cdv ct:SI}(U:iT K KK)
 (l:K.lookup f=some ⟨oc,od,.func (PySem.W.fnOf x x (b9 st) (bR st) (aC st) .none kV doc pm an cdv ct),osl⟩) (c:PySem.W.codeIn K cdv x=true) (g:mg x=some (.ref f))
 (h:∀(kV doc pm:SI)(an:Option Addr)(cdv ct:SI)(us:List SI),us.length=ps.length->bindArgs (PySem.W.fnOf x x (b9 st) (bR st) (aC st) .none kV doc pm an cdv ct) ⟨us,[]⟩=pure (ps.zip us)) :
 Fn KK mg x st ps f (PySem.W.fnOf x x (b9 st) (bR st) (aC st) .none kV doc pm an cdv ct):=
 have F:Bq KK x x st f _:=yw (U.look _ _ l (fun _ _ z=>nomatch z)) (U.code c) (U.keep l)
 ⟨F,F.binds h,g⟩
end L3
namespace Pz
section
variable {κ α:Type}[DecidableEq κ]
noncomputable abbrev MD (κ α:Type):=List (κ×List α)
def MD.get (d:MD κ α)(k:κ):List α:=((d.find? fun x=>decide (x.1=k)).map (·.2)).getD []
def MD.has (d:MD κ α)(k:κ):Bool:=d.any fun x=>decide (x.1=k)
def MD.app (d:MD κ α)(k:κ)(v:α):MD κ α:=if d.has k then d.map (fun x=>if x.1=k then (x.1,x.2++[v]) else x) else d++[(k,[v])]
def MD.drop (d:MD κ α)(k:κ):MD κ α:=d.filter fun x=>decide (x.1≠k)
def MD.flat (d:MD κ α):List α:=d.flatMap (·.2)
abbrev MD.keys (d:MD κ α):List κ:=d.map (·.1)
structure MD.Ok (d:MD κ α):Prop where
 nk:d.keys.Nodup
 ne:∀ x∈d,x.2≠[]
theorem cZ (x:κ×List α)(d:MD κ α)(k:κ):MD.get (x::d) k=if x.1=k then x.2 else MD.get d k:=by grind [MD.get]
theorem has_iff {d:MD κ α}{k:κ}:d.has k=true↔k∈d.keys:=by
 unfold MD.has
 grind
theorem zh {d:MD κ α}{k:κ}(h:k∉d.keys):d.get k=[]:=by
 induction d with
 |nil=>rfl
 |cons x r ih=>grind [cZ]
theorem Ct {d:MD κ α}(nd:d.keys.Nodup){k:κ}{l:List α}(h:(k,l)∈d):d.get k=l:=by
 induction d with
 |nil=>cases h
 |cons x r ih=>grind [cZ]
theorem pP {d:MD κ α}{k:κ}{v:α}(h:v∈d.get k):(k,d.get k)∈d:=by
 induction d with
 |nil=>cases h
 |cons x r ih=>grind [cZ]
theorem pQ {d:MD κ α}{k:κ}{v:α}(h:k∉d.keys):d.map (fun x=>if x.1=k then (x.1,x.2++[v]) else x)=d:=by induction d<;>grind
theorem zi (d:MD κ α)(k:κ)(v:α):(d.app k v).keys=if k∈d.keys then d.keys else d.keys++[k]:=by
 unfold MD.app;by_cases h:k∈d.keys
 .rw[OK (has_iff.mpr h),OK h];unfold MD.keys;rw[PN];exact Pt fun x _=>by grind
 .rw[OL (fun q=>h (has_iff.mp q)),OL h];unfold MD.keys;rw[O3];rfl
theorem mF {d:MD κ α}(O:d.Ok)(k:κ)(v:α):(d.app k v).Ok:=by
 constructor
 .rw[zi];split
  .exact O.nk
  .rename_i h;exact Qs.mpr ⟨O.nk,by simp,fun a ha b hb e=>by grind⟩
 .intro x hx;unfold MD.app at hx;split at hx
  .obtain⟨y,hy,rfl⟩:=OB.mp hx;split
   .simp
   .exact O.ne y hy
  .rcases OX.mp hx with h|h
   .exact O.ne x h
   .rw[OI]at h;subst h;simp
theorem kS {d:MD κ α}{k:κ}{l:List α}(h:k∉d.keys):MD.get (d++[(k,l)]) k=l:=by
 grind [MD.get]
theorem nW {d:MD κ α}{k k':κ}{l:List α}(h:k≠k'):MD.get (d++[(k,l)]) k'=d.get k':=by
 grind [MD.get]
theorem pR {d:MD κ α}{k:κ}{v:α}(h:k∈d.keys):MD.get (d.map (fun x=>if x.1=k then (x.1,x.2++[v]) else x)) k=d.get k++[v]:=by
 induction d with
 |nil=>cases h
 |cons x r ih=>
  rw[OE,cZ,cZ];by_cases e:x.1=k
  .rw[OK e,OK (show x.1=k from e),OK e]
  .rw[OL e,OL e,OL e];rcases OC.mp h with q|q
   .exact(e q.symm).elim
   .exact ih q
theorem tX {d:MD κ α}{k k':κ}{v:α}(h:k≠k'):MD.get (d.map (fun x=>if x.1=k then (x.1,x.2++[v]) else x)) k'=d.get k':=by
 induction d with
 |nil=>rfl
 |cons x r ih=>grind [cZ]
theorem pS (d:MD κ α)(k:κ)(v:α)(k':κ):(d.app k v).get k'=if k=k' then d.get k++[v] else d.get k':=by
 unfold MD.app;by_cases h:k∈d.keys
 .rw[OK (has_iff.mpr h)];by_cases e:k=k'
  .subst e;rw[OK rfl,pR h]
  .rw[OL e,tX e]
 .rw[OL (fun q=>h (has_iff.mp q))];by_cases e:k=k'
  .subst e;rw[OK rfl,kS h,zh h];rfl
  .rw[OL e,nW e]
theorem fc {d:MD κ α}(nd:d.keys.Nodup)(k:κ)(v:α):(d.app k v).flat.Perm (v::d.flat):=by
 unfold MD.app;by_cases h:k∈d.keys
 .rw[OK (has_iff.mpr h)];induction d with
  |nil=>cases h
  |cons x r ih=>
   have nd':=Pk.mp nd;unfold MD.flat at ih ⊢;rw[OE,Q2,Q2];by_cases e:x.1=k
   .subst e;rw[OK rfl,pQ nd'.1];show((x.2++[v])++_).Perm _;rw[Q1];exact SB
   .rw[OL e];rcases OC.mp h with q|q
    .exact(e q.symm).elim
    .exact((Qq _).append (ih nd'.2 q)).trans SB
 .rw[OL (fun q=>h (has_iff.mp q))];unfold MD.flat;rw[List.flatMap_append];show(_++([v]++[])).Perm _;rw[Rn];exact List.perm_append_singleton _ _
theorem wJ (d:MD κ α)(k:κ):(d.drop k).keys=d.keys.filter fun x=>decide (x≠k):=by unfold MD.drop MD.keys;rw[List.filter_map];rfl
theorem vk {d:MD κ α}(O:d.Ok)(k:κ):(d.drop k).Ok:=⟨by rw[wJ];exact List.Pairwise.filter _ O.nk,fun x hx=>O.ne x (Pa.mp hx).1⟩
theorem wK {d:MD κ α}{k:κ}(h:k∉d.keys):d.drop k=d:=by induction d<;>grind [MD.drop]
theorem kc {d:MD κ α}(nd:d.keys.Nodup)(k:κ):d.flat.Perm (d.get k++(d.drop k).flat):=by
 induction d with
 |nil=>exact Qq _
 |cons x r ih=>
  have nd':=Pk.mp nd;rw[cZ];by_cases e:x.1=k
  .subst e;rw[OK rfl];have:MD.drop (x::r) x.1=r:=by grind [MD.drop,wK]
   rw[this];exact Qq _
  .rw[OL e];have:MD.drop (x::r) k=x::MD.drop r k:=by grind [MD.drop]
   rw[this];unfold MD.flat at ih ⊢;rw[Q2,Q2];refine((Qq _).append (ih nd'.2)).trans ?_;rw[<- Q1,<- Q1];exact List.perm_append_comm.append_right _
theorem mem_flat {d:MD κ α}{v:α}:v∈d.flat↔∃ x∈d,v∈x.2:=List.mem_flatMap
theorem jD (d:MD κ α){k:κ}{v:α}(h:v∈d.get k):v∈d.flat:=mem_flat.mpr ⟨_,pP h,h⟩
theorem lq (d:MD κ α)(k:κ):(d.get k).length<=d.flat.length:=by
 induction d with
 |nil=>exact Oq _
 |cons x r ih=>grind [cZ,MD.flat]
theorem gC {d:MD κ α}(O:d.Ok):d.length<=d.flat.length:=by
 have:∀ d:MD κ α,(∀ x∈d,x.2≠[])->d.length<=d.flat.length:=by
  intro d;induction d with
  |nil=>intro _;exact Oq _
  |cons x r ih=>
   intro h;have h1:=ih fun y hy=>h y (Ow _ hy);have h2:0<x.2.length:=R7.mpr (h x Ox);unfold MD.flat at h1 ⊢
   grind
 exact this d O.ne
end
end Pz
namespace Pz
noncomputable def lo:List Int->Int
 | []=>0
 |x::r=>r.foldl (fun a b=>if b<a then b else a) x
theorem tY:∀(r:List Int)(x:Int),r.foldl (fun a b=>if b<a then b else a) x∈x::r/\∀ y∈x::r,r.foldl (fun a b=>if b<a then b else a) x<=y
 | [],x=>by grind
 |z::r,x=>by
  obtain⟨h1,h2⟩:=tY r (if z<x then z else x);rw[QI];constructor
  .grind
  .intro y hy;have h3:=h2 _ Ox
   grind
theorem zj (h:l≠[]):lo l∈l:=by
 cases l with
 |nil=>exact(h rfl).elim
 |cons x r=>exact(tY r x).1
theorem zo (h:y∈l):lo l<=y:=by
 cases l with
 |nil=>cases h
 |cons x r=>exact(tY r x).2 y h
structure qv (pile:Int->Int->Int):Prop where
 nn:∀{p l:Int},0<=p->0<=l->0<=pile p l
 ch:∀{p l:Int},0<=p->0<=l->∀ k:Nat,pile p l<=k↔p / 2 ^ k=l / 2 ^ k
section
variable (P:qv pile)
include P
theorem qv.zero (hp:0<=p)(hl:0<=l):pile p l=0↔p=l:=by
 have h1:=P.nn hp hl;have h2:=P.ch hp hl 0
 grind
theorem qv.lt (hl:0<=l)(hp:l<=p)(hr:l<=r)(h:pile p l<pile r l):p<r:=by
 have p0:0<=p:=Qr hl hp;have r0:0<=r:=Qr hl hr;obtain⟨k,hk⟩:=Pu (P.nn p0 hl);have e1:=(P.ch p0 hl k).mp (by lia);have e2:¬ r / 2 ^ k=l / 2 ^ k:=fun e=>by have:=(P.ch r0 hl k).mpr e;lia
 have pos:(0:Int)<2 ^ k:=Int.pow_pos (by decide);have e3:=Int.ediv_le_ediv pos hr;refine Int.not_le.mp fun hc=>?_;have e4:=Int.ediv_le_ediv pos hc;lia
theorem qv.same (hl:0<=l)(hm:l<=m)(hr:l<=r)(h:pile m l<pile r l):pile r m=pile r l:=by
 have m0:0<=m:=Qr hl hm;have r0:0<=r:=Qr hl hr;have key:∀ j:Nat,pile r m<=j↔pile r l<=j:=by
  intro j;rw[P.ch r0 m0,P.ch r0 hl];by_cases hj:pile m l<=j
  .rw[(P.ch m0 hl j).mp hj]
  .have hd:∀{a b:Int}{i:Nat},a / 2 ^ j=b / 2 ^ j->a / 2 ^ (j+i)=b / 2 ^ (j+i):=by intro a b i e;rw[Int.pow_add,<- Int.ediv_ediv_of_nonneg (Rl (Int.pow_pos (by decide))),<- Int.ediv_ediv_of_nonneg (Rl (Int.pow_pos (by decide))),e]
   obtain⟨k,hk⟩:=Pu (P.nn m0 hl);obtain⟨i,rfl⟩ : ∃ i,k=j+i:=⟨k-j,by lia⟩;constructor<;>intro e<;>exfalso
   .have e1:=hd (i:=i) e;rw[(P.ch m0 hl (j+i)).mp (by lia)]at e1;have:=(P.ch r0 hl (j+i)).mpr e1;lia
   .have:=(P.ch r0 hl j).mpr e;lia
 obtain⟨a,ha⟩:=Pu (P.nn r0 m0);obtain⟨b,hb⟩:=Pu (P.nn r0 hl);have h1:=key a;have h2:=key b;lia
end
section
variable {α:Type}
abbrev Q (α:Type):=MD Int (Int×α)
structure sL (pile:Int->Int->Int) (last:Int) (d:Q α):Prop where
 ok:d.Ok
 l0:0<=last
 at_:∀ x∈d,∀ y∈x.2,x.1=pile y.1 last/\last<=y.1
theorem sL.add (h:sL pile last d)(a:α)(hp:last<=p):sL pile last (d.app (pile p last) (p,a)):=by
 refine⟨mF h.ok _ _,h.l0,fun x hx y hy=>?_⟩;unfold MD.app at hx;split at hx
 .obtain⟨z,hz,rfl⟩:=OB.mp hx;by_cases e:z.1=pile p last
  .rw[OK e]at hy ⊢;rcases OX.mp hy with hy|hy
   .exact h.at_ z hz y hy
   .rw[OI]at hy;subst hy;exact⟨e,hp⟩
  .rw[OL e]at hy ⊢;exact h.at_ z hz y hy
 .rcases OX.mp hx with hx|hx
  .exact h.at_ x hx y hy
  .grind
def cG (pile:Int->Int->Int)(last:Int)(d:Q α)(l:List (Int×α)):Q α:=l.foldl (fun d x=>d.app (pile x.1 last) x) d
theorem sL.cG:∀{l:List (Int×α)}{d:Q α},sL pile last d->(∀ x∈l,last<=x.1)->sL pile last (cG pile last d l)
 | [],d,h,_=>h
 |x::l,d,h,hl=>sL.cG (l:=l) (h.add x.2 (hl x Ox)) fun y hy=>hl y (Ow _ hy)
theorem h8:∀{l:List (Int×α)}{d:Q α},d.Ok->(cG pile last d l).flat.Perm (l++d.flat)
 | [],d,h=>Qq _
 |x::l,d,h=>(h8 (l:=l) (mF h _ _)).trans (((Qq _).append (fc h.nk _ _)).trans SB)
def ce (d:Q α):Int:=lo d.keys
def lowP (d:Q α):Int:=lo ((d.get (ce d)).map (·.1))
def mid (pile:Int->Int->Int)(d:Q α):Q α:=cG pile (lowP d) (d.drop (ce d)) (d.get (ce d))
def c9 (pile:Int->Int->Int)(d:Q α):List (Int×α):=(mid pile d).get 0
def left (pile:Int->Int->Int)(d:Q α):Q α:=(mid pile d).drop 0
structure GJ (pile:Int->Int->Int) (last:Int) (d:Q α):Prop where
 ge:last<=lowP d
 ok:sL pile (lowP d) (left pile d)
 eq:∀ x∈c9 pile d,x.1=lowP d
 lt:∀ x∈(left pile d).flat,lowP d<x.1
 pm:d.flat.Perm (c9 pile d++(left pile d).flat)
 ne:c9 pile d≠[]
 k1:ce d∈d.keys
 k2:d.get (ce d)≠[]
 k3:0∈(mid pile d).keys
 o1:sL pile (lowP d) (d.drop (ce d))
theorem wL (P:qv pile)(h:sL pile last d)(hne:d≠[]):GJ pile last d:=by
 have k1:ce d∈d.keys:=zj (by simpa[MD.keys] using hne);obtain⟨x0,hx0,ex0⟩:=OB.mp k1;have g0:d.get (ce d)=x0.2:=Ct h.ok.nk (by grind);have k2:d.get (ce d)≠[]:=by rw[g0];exact h.ok.ne x0 hx0
 have hm:lowP d∈(d.get (ce d)).map (·.1):=zj (by simpa using k2);obtain⟨y0,hy0,ey0⟩:=OB.mp hm;have cB:∀ y∈d.get (ce d),ce d=pile y.1 last/\last<=y.1:=fun y hy=>by rw[g0]at hy;have:=h.at_ x0 hx0 y hy;rw[ex0]at this;exact this
 have hl:last<=lowP d:=by grind
 have l0:0<=lowP d:=Qr h.l0 hl;have kP:pile (lowP d) last=ce d:=by grind
 have minP:∀ y∈d.get (ce d),lowP d<=y.1:=fun y hy=>zo (OB.mpr ⟨y,hy,rfl⟩);have oth:∀ x∈d.drop (ce d),∀ y∈x.2,x.1=pile y.1 (lowP d)/\lowP d<y.1:=fun x hx y hy=>by
  obtain⟨hx,hn⟩:=Pa.mp hx;have hn:x.1≠ce d:=O2 hn;have hle:ce d<=x.1:=zo (OB.mpr ⟨x,hx,rfl⟩);obtain⟨e1,e2⟩:=h.at_ x hx y hy;have hlt:pile (lowP d) last<pile y.1 last:=by grind
  exact⟨e1.trans (P.same h.l0 hl e2 hlt).symm,P.lt h.l0 hl e2 hlt⟩
 have o1:sL pile (lowP d) (d.drop (ce d)):=⟨vk h.ok _,l0,fun x hx y hy=>⟨(oth x hx y hy).1,Rl (oth x hx y hy).2⟩⟩;have o2:sL pile (lowP d) (mid pile d):=o1.cG minP;have pm1:d.flat.Perm (mid pile d).flat:=(kc h.ok.nk _).trans (h8 o1.ok).symm;have pm2:(mid pile d).flat.Perm (c9 pile d++(left pile d).flat):=kc o2.ok.nk 0;have eq:∀ x∈c9 pile d,x.1=lowP d:=fun x hx=>by have:=o2.at_ _ (pP hx) x hx;exact(P.zero (Qr l0 this.2) l0).mp this.1.symm
 have lt:∀ x∈(left pile d).flat,lowP d<x.1:=fun x hx=>by obtain⟨y,hy,hx⟩:=mem_flat.mp hx;obtain⟨hy,hn⟩:=Pa.mp hy;have hn:y.1≠0:=O2 hn;obtain⟨e1,e2⟩:=o2.at_ y hy x hx;have:¬ x.1=lowP d:=fun e=>hn (e1.trans ((P.zero (Qr l0 e2) l0).mpr e));lia
 have yin:y0∈c9 pile d:=by
  have h1:y0∈d.flat:=jD d hy0
  grind
 exact⟨hl,⟨vk o2.ok _,l0,fun x hx=>o2.at_ x (Pa.mp hx).1⟩,eq,lt,pm1.trans pm2,(fun e=>by grind),k1,k2,OB.mpr ⟨_,pP yin,rfl⟩,o1⟩
end
end Pz
namespace Pz
noncomputable abbrev Arr:=Int×Int×Int
noncomputable abbrev Rule:=Int×Int×Int×List Int
noncomputable abbrev mG:=Int×Option Int×Option Int
abbrev TD:=List (Arr×mG)
noncomputable def bM (t:TD)(a:Arr):Option mG:=(t.find? fun x=>decide (x.1=a)).map (·.2)
def tput (t:TD)(a:Arr)(v:mG):TD:=if (bM t a).isSome then t.map (fun x=>if x.1=a then (x.1,v) else x) else t++[(a,v)]
structure PS where
 told:TD
 last:Int
 aN:Q Arr
 settled:MD (Int×Int) (Int×Int)
 aR:MD (Int×Int) (Int×Rule×Int)
abbrev RS:=MD (Int×Int) (Int×Rule)
section
variable (pile:Int->Int->Int)(rs:RS)
def gg (S:PS)(a:Arr)(p:Int):Bool:=match bM S.told a with
 |none=>true
 |some v=>decide (p<v.1)
def h_ (S:PS)(a:Arr)(p:Int)(n m:Option Int):PS:={ S with told:=tput S.told a (p,n,m),aN:=S.aN.app (pile p S.last) (p,a) }
def bn (S:PS)(a:Arr)(p:Int)(n m:Option Int):PS:=if gg S a p then h_ pile S a p n m else S
def nth1 (l:List Int):Int:=l[1]?.getD 0
def pT (S:PS)(num:Int)(r:Rule)(mid price:Int):PS:={ S with aR:=S.aR.app (mid,nth1 r.2.2.2) (num,r,price) }
def first (S:PS)(num:Int)(r:Rule)(mid price:Int):PS:=(S.settled.get (mid,nth1 r.2.2.2)).foldl (fun S x=>bn pile S (r.1,r.2.1,x.1) (price+x.2+1) (some num) (some mid)) (pT S num r mid price)
def note (S:PS)(a:Arr)(price:Int):PS:={ S with settled:=S.settled.app (a.1,a.2.1) (a.2.2,price) }
def kG (a:Arr)(price:Int)(S:PS)(x:Int×Rule×Int):PS:=bn pile S (x.2.1.1,x.2.1.2.1,a.2.2) (x.2.2+price+1) (some x.1) (some a.1)
def cu (a:Arr)(price:Int)(S:PS)(x:Int×Rule):PS:=if x.2.2.2.2.length=1 then bn pile S (x.2.1,x.2.2.1,a.2.2) (price+1) (some x.1) none else first pile S x.1 x.2 a.2.2 price
def settle (S:PS)(a:Arr)(price:Int):PS:=(rs.get (a.1,a.2.1)).foldl (cu pile a price) ((S.aR.get (a.1,a.2.1)).foldl (kG pile a price) (note S a price))
def qD (S:PS)(x:Int×Arr):Bool:=match bM S.told x.2 with
 |none=>false
 |some v=>decide (v.1=x.1)
def turn (S:PS)(x:Int×Arr):PS:=if qD S x then settle pile rs S x.2 x.1 else S
def batch (S:PS)(l:List (Int×Arr)):PS:=l.foldl (turn pile rs) S
def take (S:PS):PS:={ S with last:=lowP S.aN,aN:=left pile S.aN }
end
noncomputable def L:Nat:=16000000
structure ja (S:PS):Prop where
 t:S.told.length<L
 p:S.aN.length<L
 pf:S.aN.flat.length<L
 s:S.settled.length<L
 sf:S.settled.flat.length<L
 l:S.aR.length<L
 lf:S.aR.flat.length<L
inductive Loop (pile:Int->Int->Int) (rs:RS):Nat->PS->PS->Prop where
 |done {S:PS}:S.aN=[]->Loop pile rs 0 S S
 |step {n:Nat} {S T:PS}:S.aN≠[]->sL pile S.last S.aN->(∀ x∈c9 pile S.aN,bM S.told x.2≠none)->ja S->ja (batch pile rs (take pile S) (c9 pile S.aN))->
  Loop pile rs n (batch pile rs (take pile S) (c9 pile S.aN)) T->Loop pile rs (n+1) S T
theorem cV (x:Arr×mG)(t:TD)(a:Arr):bM (x::t) a=if x.1=a then some x.2 else bM t a:=by grind [bM]
theorem tget_none:bM t a=none↔a∉t.map (·.1):=by
 induction t with
 |nil=>simp[bM]
 |cons x r ih=>grind [cV]
theorem ff (h:bM t a=some v):(a,v)∈t:=by
 induction t with
 |nil=>cases h
 |cons x r ih=>grind [cV]
theorem jE (nd:(t.map (·.1)).Nodup)(h:(a,v)∈t):bM t a=some v:=by
 induction t with
 |nil=>cases h
 |cons x r ih=>grind [cV]
theorem wM (t:TD)(a:Arr)(v:mG):(tput t a v).map (·.1)=if a∈t.map (·.1) then t.map (·.1) else t.map (·.1)++[a]:=by
 unfold tput;cases h:bM t a with
 |none=>rw[OL (by simp),OL (tget_none.mp h),O3];rfl
 |some w=>have:a∈t.map (·.1):=OB.mpr ⟨_,ff h,rfl⟩;rw[OK (by simp),OK this,PN];exact Pt fun x _=>by grind
theorem Cu (h:(t.map (·.1)).Nodup)(a:Arr)(v:mG):((tput t a v).map (·.1)).Nodup:=by
 rw[wM];split
 .exact h
 .rename_i q;exact Qs.mpr ⟨h,by simp,fun x hx b hb e=>by rw[OI]at hb;subst hb;subst e;exact q hx⟩
theorem rM (t:TD)(a:Arr)(v:mG):t.length<=(tput t a v).length/\(tput t a v).length<=t.length+1:=by
 unfold tput;split
 .rw[Ot];lia
 .rw[OF];simp
theorem gh (t:TD)(a:Arr)(v:mG)(b:Arr):bM (tput t a v) b=if a=b then some v else bM t b:=by
 unfold tput;cases h:bM t a with
 |none=>
  rw[OL (by simp)];have hn:=tget_none.mp h;clear h;induction t with
  |nil=>rw[List.nil_append,cV]
  |cons x r ih=>grind [cV]
 |some w=>
  rw[OK (by simp)];have hm:a∈t.map (·.1):=OB.mpr ⟨_,ff h,rfl⟩;clear h;by_cases e:a=b
  .subst e;rw[OK rfl];induction t with
   |nil=>cases hm
   |cons x r ih=>grind [cV]
  .rw[OL e];clear hm;induction t with
   |nil=>rfl
   |cons x r ih=>grind [cV]
structure eM (S T:PS):Prop where
 t:S.told.length<=T.told.length
 p:S.aN.length<=T.aN.length
 pf:S.aN.flat.length<=T.aN.flat.length
 s:S.settled.length<=T.settled.length
 sf:S.settled.flat.length<=T.settled.flat.length
 l:S.aR.length<=T.aR.length
 lf:S.aR.flat.length<=T.aR.flat.length
theorem eM.refl (S:PS):eM S S:=by
 grind [PS,eM]
theorem eM.trans (a:eM S T)(b:eM T U):eM S U:=⟨OR a.t b.t,OR a.p b.p,OR a.pf b.pf,OR a.s b.s,OR a.sf b.sf,OR a.l b.l,OR a.lf b.lf⟩
theorem eM.fit (a:eM S T)(h:ja T):ja S:=⟨Pp a.t h.t,Pp a.p h.p,Pp a.pf h.pf,Pp a.s h.s,Pp a.sf h.sf,Pp a.l h.l,Pp a.lf h.lf⟩
theorem d9 {κ α:Type}[DecidableEq κ](d:MD κ α)(k:κ)(v:α):d.length<=(d.app k v).length/\d.flat.length<=(d.app k v).flat.length:=by
 unfold MD.app;split
 .rw[Ot];refine⟨Oq _,?_⟩;unfold MD.flat;rw[List.length_flatMap,List.length_flatMap,PN];induction d with
  |nil=>exact Oq _
  |cons x r ih=>
   rename_i h;clear h;rw[OE,OE,Sx,Sx];refine Nat.add_le_add ?_ ?_
   .simp only[Function.comp];split<;>simp
   .clear ih;induction r with
    |nil=>exact Oq _
    |cons y r ih=>rw[OE,OE,Sx,Sx];exact Nat.add_le_add (by simp only[Function.comp];split<;>simp) ih
 .rw[OF];unfold MD.flat;rw[List.flatMap_append,OF];lia
theorem cj {β:Type}(f:PS->β->PS)(h:∀ S x,eM S (f S x)):∀(l:List β)(S:PS),eM S (l.foldl f S)
 | [],S=>.refl S
 |x::l,S=>(h S x).trans (cj f h l _)
theorem cb (S:PS)(a:Arr)(p:Int)(n m:Option Int):eM S (bn pile S a p n m):=by
 unfold bn;split
 .exact⟨(rM _ _ _).1,(d9 _ _ _).1,(d9 _ _ _).2,Oq _,Oq _,Oq _,Oq _⟩
 .exact .refl S
theorem tZ (S:PS)(num:Int)(r:Rule)(mid price:Int):eM S (first pile S num r mid price):=eM.trans (T:=pT S num r mid price) ⟨Oq _,Oq _,Oq _,Oq _,Oq _,(d9 _ _ _).1,(d9 _ _ _).2⟩ (cj _ (fun S x=>cb S _ _ _ _) _ _)
theorem jd (a:Arr)(price:Int)(S:PS)(x:Int×Rule):eM S (cu pile a price S x):=by
 unfold cu;split
 .exact cb _ _ _ _ _
 .exact tZ _ _ _ _ _
theorem rN (S:PS)(a:Arr)(price:Int):eM S (settle pile rs S a price):=(eM.trans (S:=S) (T:=note S a price) ⟨Oq _,Oq _,Oq _,(d9 _ _ _).1,(d9 _ _ _).2,Oq _,Oq _⟩ (cj (kG pile a price) (fun S x=>cb S _ _ _ _) _ _)).trans (cj _ (jd a price) _ _)
theorem wN (S:PS)(x:Int×Arr):eM S (turn pile rs S x):=by
 unfold turn;split
 .exact rN _ _ _
 .exact .refl S
theorem ic {β:Type}(f:PS->β->PS){a:Arr}(h:∀ S x,bM S.told a≠none->bM (f S x).told a≠none):∀(l:List β)(S:PS),bM S.told a≠none->bM (l.foldl f S).told a≠none
 | [],S,k=>k
 |x::l,S,k=>ic f h l _ (h S x k)
theorem mH (h:bM S.told b≠none):bM (bn pile S a p n m).told b≠none:=by
 unfold bn;split
 .show bM (tput _ _ _) _≠none;rw[gh];split
  .simp
  .exact h
 .exact h
theorem zp (h:bM S.told b≠none):bM (cu pile a p S x).told b≠none:=by
 unfold cu;split
 .exact mH h
 .exact ic _ (fun S x k=>mH k) _ _ (show bM (pT S _ _ _ _).told b≠none from h)
theorem Cv (h:bM S.told b≠none):bM (turn pile rs S x).told b≠none:=by
 unfold turn;split
 .exact ic _ (fun S x k=>zp k) _ _ (ic (kG pile _ _) (fun S x k=>mH k) _ _ (show bM (note S _ _).told b≠none from h))
 .exact h
end Pz
namespace Pz
def Sd (S:PS)(a:Arr)(q:Int):Prop:=(a.2.2,q)∈S.settled.get (a.1,a.2.1)
def fR (S:PS)(a:Arr)(p:Int):Prop:=∃ v,bM S.told a=some v/\v.1<=p
def JustP (sd:Arr->Int->Prop)(c:Int)(put:List Int)(t p:Int)(m:Option Int):Prop:=match put with
 | []=>m=none/\p=1/\t=c
 | [x]=>m=none/\∃ q,sd (c,x,t) q/\p=q+1
 | [x,y]=>∃ d q1 q2,m=some d/\sd (c,x,d) q1/\sd (d,y,t) q2/\p=q1+q2+1
 |_=>False
theorem JustP.mono (h:∀ a q,sd a q->sd' a q)(j:JustP sd c put t p m):JustP sd' c put t p m:=by
 match put,j with
 | [],j=>exact j
 | [x],⟨e,q,s,e2⟩=>exact⟨e,q,h _ _ s,e2⟩
 | [x,y],⟨d,q1,q2,e,s1,s2,e2⟩=>exact⟨d,q1,q2,e,h _ _ s1,h _ _ s2,e2⟩
section
variable (RL:List Rule)(M:List Arr)
def Just (sd:Arr->Int->Prop)(a:Arr)(v:mG):Prop:=match v.2.1 with
 |none=>v.2.2=none/\v.1=0/\a∈M
 |some i=>∃(j:Nat)(r:Rule),i=j/\RL[j]?=some r/\a.1=r.1/\a.2.1=r.2.1/\JustP sd r.2.2.1 r.2.2.2 a.2.2 v.1 v.2.2
theorem Just.mono (h:∀ a q,sd a q->sd' a q)(j:Just RL M sd a v):Just RL M sd' a v:=by
 obtain⟨p,n,m⟩:=v;cases n with
 |none=>exact j
 |some i=>obtain⟨k,r,e1,e2,e3,e4,j⟩:=j;exact⟨k,r,e1,e2,e3,e4,j.mono h⟩
structure B (pile:Int->Int->Int) (U:List Arr) (S:PS) (rest:List (Int×Arr)):Prop where
 q:sL pile S.last S.aN
 nd:S.aN.flat.Nodup
 nr:rest.Nodup
 tk:(S.told.map (·.1)).Nodup
 tu:∀ a v,bM S.told a=some v->a∈U
 ju:∀ a v,bM S.told a=some v->Just RL M (Sd S) a v
 ps:∀ a v,bM S.told a=some v->0<=v.1
 sd:∀ a p,Sd S a p->p<=S.last/\∃ v,bM S.told a=some v/\v.1=p
 sp:∀ a v,bM S.told a=some v->Sd S a v.1\/(v.1,a)∈S.aN.flat\/(v.1,a)∈rest
 it:∀ p a,(p,a)∈S.aN.flat\/(p,a)∈rest->fR S a p
 ns:∀ p a,(p,a)∈S.aN.flat\/(p,a)∈rest->¬ Sd S a p
 m0:∀ a v,bM S.told a=some v->a∈M->v=(0,none,none)
end
theorem rO (h:¬ gg S a p=true):fR S a p:=by
 grind [gg,fR]
theorem fg (h:gg S a p=true)(e:bM S.told a=some v):p<v.1:=by unfold gg at h;rw[e]at h;exact O2 h
theorem iG (a:Arr)(p:Int)(n m:Option Int):fR (bn pile S a p n m) a p:=by
 unfold bn;by_cases h:gg S a p=true
 .rw[OK h];exact⟨(p,n,m),by show bM (tput _ _ _) _=_;rw[gh,OK rfl],QX _⟩
 .rw[OL h];exact rO h
theorem gD (h:fR S b q):fR (bn pile S a p n m) b q:=by
 unfold bn;by_cases k:gg S a p=true
 .rw[OK k];obtain⟨v,e,hv⟩:=h;by_cases e2:a=b
  .subst e2;exact⟨(p,n,m),by show bM (tput _ _ _) _=_;rw[gh,OK rfl],Rl (Sb (fg k e) hv)⟩
  .exact⟨v,by show bM (tput _ _ _) _=_;rw[gh,OL e2];exact e,hv⟩
 .rw[OL k];exact h
theorem gE (a:Arr)(p:Int)(n m:Option Int):(bn pile S a p n m).settled=S.settled/\(bn pile S a p n m).aR=S.aR/\(bn pile S a p n m).last=S.last:=by unfold bn;split<;>exact⟨rfl,rfl,rfl⟩
theorem t9 (h:S.aN.Ok)(a:Arr)(p:Int)(n m:Option Int)(hx:x∈(bn pile S a p n m).aN.flat):x∈S.aN.flat\/x=(p,a):=by
 unfold bn at hx;split at hx
 .rcases OC.mp ((fc h.nk _ _).mem_iff.mp hx) with e|e
  .exact .inr e
  .exact .inl e
 .exact .inl hx
theorem oV (h:S.aN.Ok)(a:Arr)(p:Int)(n m:Option Int):(bn pile S a p n m).aN.flat.length<=S.aN.flat.length+1:=by
 unfold bn;split
 .exact Sa (fc h.nk _ _).length_eq
 .lia
theorem B.bn (b:B RL M pile U S rest)(hj:Just RL M (Sd S) a (p,n,m))(hu:a∈U)(hp:S.last<=p)(hr:(p,a)∉rest)(hs:¬ Sd S a p)
 (hm:a∈M->fR S a 0\/(p,n,m)=(0,none,none)):B RL M pile U (bn pile S a p n m) rest:=by
 unfold Pz.bn;by_cases k:gg S a p=true
 .rw[OK k];have hS:∀ c q,Sd (h_ pile S a p n m) c q↔Sd S c q:=fun c q=>Iff.rfl;have tg:∀ c,bM (h_ pile S a p n m).told c=if a=c then some (p,n,m) else bM S.told c:=fun c=>gh _ _ _ _;have pf:=fc b.q.ok.nk (pile p S.last) (p,a);have p0:0<=p:=Qr b.q.l0 hp;have fl:∀ x,x∈(h_ pile S a p n m).aN.flat↔x=(p,a)\/x∈S.aN.flat:=fun x=>by show x∈(S.aN.app (pile p S.last) (p,a)).flat↔_;rw[pf.mem_iff,OC]
  refine⟨b.q.add a hp,?_,b.nr,Cu b.tk _ _,fun c v e=>?_,fun c v e=>?_,fun c v e=>?_,fun c q h=>?_,fun c v e=>?_,fun q c h=>?_,fun q c h=>?_,fun c v e hc=>?_⟩
  .refine pf.nodup_iff.mpr (Pk.mpr ⟨fun h=>?_,b.nd⟩);obtain⟨v,e,hv⟩:=b.it p a (.inl h);have:=fg k e;lia
  .rw[tg]at e;by_cases z:a=c
   .rw[<- z];exact hu
   .rw[OL z]at e;exact b.tu c v e
  .rw[tg]at e;by_cases z:a=c
   .rw[OK z]at e;cases e;rw[<- z];exact hj
   .rw[OL z]at e;exact b.ju c v e
  .rw[tg]at e;by_cases z:a=c
   .rw[OK z]at e;cases e;exact p0
   .rw[OL z]at e;exact b.ps c v e
  .obtain⟨h1,v,e,hv⟩:=b.sd c q h;refine⟨h1,v,?_,hv⟩;rw[tg,OL (fun z=>?_)]
   .exact e
   .subst z;have:=fg k e;lia
  .rw[tg]at e;by_cases z:a=c
   .rw[OK z]at e;cases e;subst z;exact .inr (.inl ((fl _).mpr (.inl rfl)))
   .rw[OL z]at e;rcases b.sp c v e with h|h|h
    .exact .inl h
    .exact .inr (.inl ((fl _).mpr (.inr h)))
    .exact .inr (.inr h)
  .have:(q,c)=(p,a)\/(q,c)∈S.aN.flat\/(q,c)∈rest:=by
    rcases h with h|h
    .rcases (fl _).mp h with h|h
     .exact .inl h
     .exact .inr (.inl h)
    .exact .inr (.inr h)
   rcases this with h|h
   .cases h;exact⟨(p,n,m),by grind,QX _⟩
   .obtain⟨v,e,hv⟩:=b.it q c h;by_cases z:a=c
    .subst z;exact⟨(p,n,m),by grind,Rl (Sb (fg k e) hv)⟩
    .exact⟨v,by grind,hv⟩
  .rcases h with h|h
   .rcases (fl _).mp h with h|h
    .cases h;exact hs
    .exact b.ns q c (.inl h)
   .exact b.ns q c (.inr h)
  .rw[tg]at e;by_cases z:a=c
   .rw[OK z]at e;cases e;subst z;rcases hm hc with⟨v,e,hv⟩|h
    .have:=fg k e;lia
    .exact h
   .rw[OL z]at e;exact b.m0 c v e hc
 .rw[OL k];exact b
end Pz
namespace Pz
section
variable (RL:List Rule)(M U:List Arr)(pile:Int->Int->Int)
structure BG (S:PS) (rest:List (Int×Arr)):Prop where
 b:B RL M pile U S rest
 gt:∀ x∈S.aN.flat,S.last<x.1
 eq:∀ x∈rest,x.1=S.last
 mh:∀ a∈M,fR S a 0
structure Ext (S T:PS) (rest:List (Int×Arr)) (k:Nat):Prop where
 bg:BG RL M U pile T rest
 mono:∀ a p,fR S a p->fR T a p
 se:T.settled=S.settled
 la:T.last=S.last
 len:T.aN.flat.length<=S.aN.flat.length+k
end
theorem oW (h:T.settled=S.settled):Sd T=Sd S:=by unfold Sd;rw[h]
theorem Ext.trans (x:Ext RL M U pile S T rest k)(y:Ext RL M U pile T V rest l):Ext RL M U pile S V rest (k+l):=⟨y.bg,fun a p h=>y.mono a p (x.mono a p h),y.se.trans x.se,y.la.trans x.la,by have:=x.len;have:=y.len;lia⟩
theorem BG.bn (g:BG RL M U pile S rest)(hj:Just RL M (Sd S) a (p,n,m))(hu:a∈U)(hp:S.last<p):Ext RL M U pile S (bn pile S a p n m) rest 1:=by
 obtain⟨e1,e2,e3⟩:=gE (pile:=pile) (S:=S) a p n m;have hb:=g.b.bn hj hu (Rl hp) (fun h=>by have:=g.eq _ h;dsimp only at this;lia) (fun h=>by have:=(g.b.sd _ _ h).1;lia) fun h=>.inl (g.mh a h);refine⟨⟨hb,fun x hx=>?_,fun x hx=>by rw[e3];exact g.eq x hx,fun b hb=>gD (g.mh b hb)⟩,fun b q h=>gD h,e1,e3,oV g.b.q.ok _ _ _ _⟩;rw[e3];rcases t9 g.b.q.ok _ _ _ _ hx with h|rfl
 .exact g.gt x h
 .exact hp
theorem je {β:Type}(fa:β->Arr)(fp:β->Int)(fn fm:β->Option Int):∀(l:List β){S:PS},BG RL M U pile S rest->
 (∀ x∈l,Just RL M (Sd S) (fa x) (fp x,fn x,fm x)/\fa x∈U/\S.last<fp x)->
 Ext RL M U pile S (l.foldl (fun S x=>bn pile S (fa x) (fp x) (fn x) (fm x)) S) rest l.length/\(l.foldl (fun S x=>bn pile S (fa x) (fp x) (fn x) (fm x)) S).aR=S.aR/\
 ∀ x∈l,fR (l.foldl (fun S x=>bn pile S (fa x) (fp x) (fn x) (fm x)) S) (fa x) (fp x)
 | [],S,g,_=>⟨⟨g,fun _ _ h=>h,rfl,rfl,Oq _⟩,rfl,fun _ h=>nomatch h⟩
 |x::l,S,g,h=>by
  obtain⟨j,u,lt⟩:=h x Ox;have e:=g.bn j u lt;obtain⟨r,r1,r2⟩:=je fa fp fn fm l (S:=bn pile S (fa x) (fp x) (fn x) (fm x)) e.bg fun y hy=>by rw[oW e.se,e.la];exact h y (Ow _ hy)
  rw[QI,OJ,Se];refine⟨e.trans r,r1.trans (gE _ _ _ _).2.1,fun y hy=>?_⟩;rcases OC.mp hy with rfl|hy
  .exact r.mono _ _ (iG _ _ _ _)
  .exact r2 y hy
structure sF (RL:List Rule) (M U:List Arr) (rs:RS):Prop where
 kN:∀ r∈RL,r.2.2.2.length<=2
 to:∀{n r c x},(n,r)∈rs.get (c,x)->∃(j:Nat)(l:List Int),n=j/\RL[j]?=some r/\r.2.2.1=c/\r.2.2.2=x::l
 of:∀{j:Nat}{r:Rule}{x l},RL[j]?=some r->r.2.2.2=x::l->((j:Int),r)∈rs.get (r.2.2.1,x)
 u1:∀ a∈M,a∈U
 u2:∀ r∈RL,(r.1,r.2.1,r.2.2.1)∈U
 u3:∀ r∈RL,∀ s x t,(s,x,t)∈U->(r.1,r.2.1,t)∈U
def Mg (RL:List Rule)(S:PS):Prop:=∀(j:Nat)(r:Rule),RL[j]?=some r->match r.2.2.2 with
 | []=>fR S (r.1,r.2.1,r.2.2.1) 1
 | [x]=>∀ t q,Sd S (r.2.2.1,x,t) q->fR S (r.1,r.2.1,t) (q+1)
 | [x,y]=>∀ d t q1 q2,Sd S (r.2.2.1,x,d) q1->Sd S (d,y,t) q2->fR S (r.1,r.2.1,t) (q1+q2+1)
 |_=>True
structure Lk (RL:List Rule) (S:PS):Prop where
 ok:S.aR.Ok
 to:∀{n r q d y},(n,r,q)∈S.aR.get (d,y)->∃(j:Nat)(x:Int),n=j/\RL[j]?=some r/\r.2.2.2=[x,y]/\Sd S (r.2.2.1,x,d) q
 of:∀{j:Nat}{r:Rule}{x y d q},RL[j]?=some r->r.2.2.2=[x,y]->Sd S (r.2.2.1,x,d) q->((j:Int),r,q)∈S.aR.get (d,y)
theorem DV (Hs:sF RL M U rs)(hau:a∈U)(p0:0<=p):∀(l:List (Int×Rule)){S:PS},BG RL M U pile S rest->S.aR.Ok->S.settled.Ok->S.last=p->Sd S a p->(∀ x∈l,x∈rs.get (a.1,a.2.1))->
 Ext RL M U pile S (l.foldl (cu pile a p) S) rest (l.length*S.settled.flat.length)/\(l.foldl (cu pile a p) S).aR.Ok/\(l.foldl (cu pile a p) S).aR.flat.length<=S.aR.flat.length+l.length/\
 (∀ k z,z∈(l.foldl (cu pile a p) S).aR.get k↔z∈S.aR.get k\/∃ x∈l,x.2.2.2.2.length=2/\k=(a.2.2,nth1 x.2.2.2.2)/\z=(x.1,x.2,p))/\
 (∀ x∈l,x.2.2.2.2.length=1->fR (l.foldl (cu pile a p) S) (x.2.1,x.2.2.1,a.2.2) (p+1))/\
 ∀ x∈l,x.2.2.2.2.length=2->∀ t q,Sd S (a.2.2,nth1 x.2.2.2.2,t) q->fR (l.foldl (cu pile a p) S) (x.2.1,x.2.2.1,t) (p+q+1)
 | [],S,g,ok,so,hl,ha,_=>⟨⟨g,fun _ _ h=>h,rfl,rfl,Nat.le_add_right _ _⟩,ok,by simp,(fun k z=>⟨.inl,fun h=>h.elim id fun⟨x,h,_⟩=>(OH h).elim⟩),(fun _ h=>(OH h).elim),fun _ h=>(OH h).elim⟩
 |x::l,S,g,ok,so,hl,ha,hin=>by
  obtain⟨n,r⟩:=x;obtain⟨j,ys,rfl,hj,hc,hp⟩:=Hs.to (hin _ Ox);have hr:r∈RL:=OU hj;have bW:=Hs.kN r hr;have n1:1<=S.settled.flat.length:=List.length_pos_of_mem (jD _ ha);have one:Ext RL M U pile S (cu pile a p S ((j:Int),r)) rest S.settled.flat.length/\(cu pile a p S ((j:Int),r)).aR.Ok/\(cu pile a p S ((j:Int),r)).aR.flat.length<=S.aR.flat.length+1/\
   (∀ k z,z∈(cu pile a p S ((j:Int),r)).aR.get k↔z∈S.aR.get k\/(r.2.2.2.length=2/\k=(a.2.2,nth1 r.2.2.2)/\z=((j:Int),r,p)))/\
   (r.2.2.2.length=1->fR (cu pile a p S ((j:Int),r)) (r.1,r.2.1,a.2.2) (p+1))/\
   (r.2.2.2.length=2->∀ t q,Sd S (a.2.2,nth1 r.2.2.2,t) q->fR (cu pile a p S ((j:Int),r)) (r.1,r.2.1,t) (p+q+1)):=by
   unfold cu;by_cases h1:r.2.2.2.length=1
   .rw[OK (show((j:Int),r).2.2.2.2.length=1 from h1)];have hys:r.2.2.2=[a.2.1]:=by
     rw[hp]at h1 ⊢;cases ys with
     |nil=>rfl
     |cons _ _=>simp at h1
    have e:=g.bn (a:=(r.1,r.2.1,a.2.2)) (p:=p+1) (n:=some (j:Int)) (m:=none) ⟨j,r,rfl,hj,rfl,rfl,by rw[hys];exact⟨rfl,p,by rw[hc];exact ha,rfl⟩⟩ (Hs.u3 r hr _ _ _ hau) (by lia);obtain⟨_,e2,_⟩:=gE (pile:=pile) (S:=S) (r.1,r.2.1,a.2.2) (p+1) (some (j:Int)) none;refine⟨⟨e.bg,e.mono,e.se,e.la,OR e.len (R0 n1 _)⟩,by rw[e2];exact ok,by rw[e2];lia,fun k z=>?_,fun _=>iG _ _ _ _,fun h=>by lia⟩;rw[e2];exact⟨.inl,fun h=>h.elim id fun h=>by lia⟩
   .rw[OL (show ¬ ((j:Int),r).2.2.2.2.length=1 from h1)];have h2:r.2.2.2.length=2:=by rw[hp]at h1 bW ⊢;simp only[OJ]at h1 bW ⊢;lia
    obtain⟨y,hys⟩ : ∃ y,r.2.2.2=[a.2.1,y]:=by
     rw[hp]at h2 ⊢
     match ys,h2 with
     | [y],_=>exact⟨y,rfl⟩
    have hn:nth1 r.2.2.2=y:=by rw[hys];rfl
    have g1:BG RL M U pile (pT S (j:Int) r a.2.2 p) rest:=⟨⟨g.b.q,g.b.nd,g.b.nr,g.b.tk,g.b.tu,g.b.ju,g.b.ps,g.b.sd,g.b.sp,g.b.it,g.b.ns,g.b.m0⟩,g.gt,g.eq,g.mh⟩;obtain⟨e,e2,e3⟩:=je (fun x:Int×Int=>(r.1,r.2.1,x.1)) (fun x=>p+x.2+1) (fun _=>some (j:Int)) (fun _=>some a.2.2) (S.settled.get (a.2.2,nth1 r.2.2.2)) g1 fun x hx=>by
     have sx:Sd S (a.2.2,y,x.1) x.2:=by rw[hn]at hx;exact hx
     obtain⟨_,v,tv,hv⟩:=g.b.sd _ _ sx;have:=g.b.ps _ _ tv;refine⟨⟨j,r,rfl,hj,rfl,rfl,?_⟩,Hs.u3 r hr _ _ _ (g.b.tu _ _ tv),by show S.last<_;lia⟩;rw[hys];exact⟨a.2.2,p,x.2,rfl,by rw[hc];exact ha,sx,rfl⟩
    have lm:∀ k z,z∈(first pile S (j:Int) r a.2.2 p).aR.get k↔z∈S.aR.get k\/(r.2.2.2.length=2/\k=(a.2.2,nth1 r.2.2.2)/\z=((j:Int),r,p)):=fun k z=>by
     show z∈(List.foldl _ _ _:PS).aR.get k↔_;rw[e2];show z∈(S.aR.app _ _).get k↔_;rw[pS];by_cases hk:(a.2.2,nth1 r.2.2.2)=k
     .subst hk;rw[OK rfl,OX,OI];exact⟨fun h=>h.elim .inl fun h=>.inr ⟨h2,rfl,h⟩,fun h=>h.elim .inl fun h=>.inr h.2.2⟩
     .rw[OL hk];exact⟨.inl,fun h=>h.elim id fun h=>(hk h.2.1.symm).elim⟩
    have lk:(first pile S (j:Int) r a.2.2 p).aR=S.aR.app (a.2.2,nth1 r.2.2.2) ((j:Int),r,p):=e2;refine⟨⟨e.bg,fun b q h=>e.mono b q h,e.se,e.la,OR e.len (R0 (lq _ _) _)⟩,by rw[lk];exact mF ok _ _,by rw[lk,(fc ok.nk _ _).length_eq];exact Oq _,lm,fun h=>by lia,fun _ t q h=>e3 (t,q) h⟩
  obtain⟨e,ok1,le1,lm1,hA,hB⟩:=one;obtain⟨r0,r1,r2,r3,r4,r5⟩:=DV Hs hau p0 l e.bg ok1 (by rw[e.se];exact so) (by rw[e.la];exact hl) (by rw[oW e.se];exact ha) fun y hy=>hin y (Ow _ hy);rw[QI,OJ];rw[e.se]at r0;refine⟨by rw[Nat.add_mul,Nat.one_mul,Se];exact e.trans r0,r1,by lia,fun k z=>?_,fun x hx h=>?_,fun x hx h t q hq=>?_⟩
  .rw[r3,lm1];constructor
   .rintro ((h|h)|⟨x,hx,h⟩)
    .exact .inl h
    .exact .inr ⟨_,Ox,h⟩
    .exact .inr ⟨x,Ow _ hx,h⟩
   .rintro (h|⟨x,hx,h⟩)
    .exact .inl (.inl h)
    .rcases OC.mp hx with rfl|hx
     .exact .inl (.inr h)
     .exact .inr ⟨x,hx,h⟩
  .rcases OC.mp hx with rfl|hx
   .exact r0.mono _ _ (hA h)
   .exact r4 x hx h
  .rcases OC.mp hx with rfl|hx
   .exact r0.mono _ _ (hB h t q hq)
   .exact r5 x hx h t q (by rw[oW e.se];exact hq)
end Pz
namespace Pz
section
variable (RL:List Rule)(M U:List Arr)(pile:Int->Int->Int)(C:Nat)
structure MV (S:PS) (k:Nat):Prop where
 so:S.settled.Ok
 G:∃ G:List Arr,G.Nodup/\G.length=S.settled.flat.length/\∀ a∈G,∃ q,Sd S a q
 ln:S.aR.flat.length<=RL.length*S.settled.flat.length
 pn:S.aN.flat.length+k<=C+RL.length*(S.settled.flat.length*S.settled.flat.length)
structure I (S:PS) (rest:List (Int×Arr)):Prop where
 bg:BG RL M U pile S rest
 sH:Mg RL S
 lk:Lk RL S
 cnt:MV RL C S rest.length
end
theorem sd_note:Sd (note S a p) c q↔Sd S c q\/(a=c/\p=q):=by
 grind [Sd,note,pS]
theorem I.settle (Hs:sF RL M U rs)(hrl:∀ k,(rs.get k).length<=RL.length)(i:I RL M U pile C S ((p,a)::rest))(hv:bM S.told a=some v)(hp:v.1=p) :
 I RL M U pile C (settle pile rs S a p) rest/\(settle pile rs S a p).settled.flat.length=S.settled.flat.length+1:=by
 have b:=i.bg.b;have pl:p=S.last:=i.bg.eq _ Ox;have p0:0<=p:=by rw[pl];exact b.q.l0
 have hau:a∈U:=b.tu a v hv;have nS:∀ q,¬ Sd S a q:=fun q h=>by obtain⟨_,w,e,ew⟩:=b.sd a q h;rw[hv]at e;cases e;rw[<- ew,hp]at h;exact b.ns p a (.inr Ox) h
 have nr:=Pk.mp b.nr;have smono:∀ c q,Sd S c q->Sd (note S a p) c q:=fun c q h=>sd_note.mpr (.inl h);have hS1:Sd (note S a p) a p:=sd_note.mpr (.inr ⟨rfl,rfl⟩);have g1:BG RL M U pile (note S a p) rest:=by
  refine⟨⟨b.q,b.nd,nr.2,b.tk,b.tu,fun c w e=>(b.ju c w e).mono RL M smono,b.ps,fun c q h=>?_,fun c w e=>?_,fun q c h=>?_,fun q c h k=>?_,b.m0⟩,i.bg.gt,fun x hx=>i.bg.eq x (Ow _ hx),i.bg.mh⟩
  .rcases sd_note.mp h with h|⟨rfl,rfl⟩
   .exact b.sd c q h
   .exact⟨Int.le_of_eq pl,v,hv,hp⟩
  .rcases b.sp c w e with h|h|h
   .exact .inl (smono _ _ h)
   .exact .inr (.inl h)
   .rcases OC.mp h with h|h
    .cases h;exact .inl hS1
    .exact .inr (.inr h)
  .exact b.it q c (h.elim .inl fun h=>.inr (Ow _ h))
  .rcases sd_note.mp k with k|⟨rfl,rfl⟩
   .exact b.ns q c (h.elim .inl fun h=>.inr (Ow _ h)) k
   .rcases h with h|h
    .have:=i.bg.gt _ h;dsimp only at this;lia
    .exact nr.1 h
 have so1:(note S a p).settled.Ok:=mF i.cnt.so _ _;have n1:(note S a p).settled.flat.length=S.settled.flat.length+1:=(fc i.cnt.so.nk _ _).length_eq;obtain⟨e1,l1,h1⟩:=je (fun x:Int×Rule×Int=>(x.2.1.1,x.2.1.2.1,a.2.2)) (fun x=>x.2.2+p+1) (fun x=>some x.1) (fun _=>some a.1) (S.aR.get (a.1,a.2.1)) g1 fun x hx=>by obtain⟨n,r,q⟩:=x;obtain⟨j,y,rfl,hj,hy,hq⟩:=i.lk.to hx;obtain⟨_,w,tw,hw⟩:=b.sd _ _ hq;have:=b.ps _ _ tw;refine⟨⟨j,r,rfl,hj,rfl,rfl,?_⟩,Hs.u3 r (OU hj) _ _ _ hau,by show S.last<q+p+1;lia⟩;show JustP _ r.2.2.1 r.2.2.2 _ _ _;rw[hy];exact⟨a.1,q,p,rfl,smono _ _ hq,hS1,rfl⟩
 generalize hS2:(S.aR.get (a.1,a.2.1)).foldl (fun S x=>bn pile S (x.2.1.1,x.2.1.2.1,a.2.2) (x.2.2+p+1) (some x.1) (some a.1)) (note S a p)=S2 at e1 l1 h1;have s2:S2.settled=(note S a p).settled:=e1.se;have hs2:Sd S2=Sd (note S a p):=oW s2;have l2:S2.aR=S.aR:=l1;obtain⟨e2,k1,k2,k3,k4,k5⟩:=DV (rs:=rs) Hs hau p0 (rs.get (a.1,a.2.1)) e1.bg (by rw[l2];exact i.lk.ok) (by grind) (by rw[e1.la,pl];rfl) (by rw[hs2];exact hS1) fun x hx=>hx;have eT:(rs.get (a.1,a.2.1)).foldl (cu pile a p) S2=Pz.settle pile rs S a p:=by rw[<- hS2];rfl
 rw[eT]at e2 k1 k2 k3 k4 k5;generalize Pz.settle pile rs S a p=T at e2 k1 k2 k3 k4 k5;have sT:T.settled=(note S a p).settled:=e2.se.trans s2;have hsT:∀ c q,Sd T c q↔Sd S c q\/(a=c/\p=q):=fun c q=>by rw[oW sT];exact sd_note
 have hm:∀{j:Nat}{r:Rule}{x d l},RL[j]?=some r->r.2.2.2=x::l->a=(r.2.2.1,x,d)->((j:Int),r)∈rs.get (a.1,a.2.1):=fun hj hp h=>by rw[h];exact Hs.of hj hp
 have mono:∀ c q,fR S c q->fR T c q:=fun c q h=>e2.mono _ _ (e1.mono _ _ h);refine⟨⟨e2.bg,?_,⟨k1,?_,?_⟩,⟨by grind,?_,?_,?_⟩⟩,by grind⟩
 .intro j r hj;have hc:=i.sH j r hj;cases hput:r.2.2.2 with
  |nil=>rw[hput]at hc;exact mono _ _ hc
  |cons x ys=>
   cases ys with
   |nil=>
    rw[hput]at hc;intro t q hq;rcases (hsT _ _).mp hq with h|⟨h,rfl⟩
    .exact mono _ _ (hc t q h)
    .obtain rfl:a.2.2=t:=by rw[h]
     exact k4 ((j:Int),r) (hm hj hput h) (by rw[hput];rfl)
   |cons y zs=>
    cases zs with
    |cons _ _=>trivial
    |nil=>
     rw[hput]at hc;intro d t q1 q2 hq1 hq2;have ny:nth1 r.2.2.2=y:=by rw[hput];rfl
     rcases (hsT _ _).mp hq1 with z1|⟨z1,rfl⟩
     .rcases (hsT _ _).mp hq2 with z2|⟨z2,rfl⟩
      .exact mono _ _ (hc d t q1 q2 z1 z2)
      .obtain rfl:a.2.2=t:=by rw[z2]
       exact e2.mono _ _ (h1 ((j:Int),r,q1) (by rw[z2];exact i.lk.of hj hput z1))
     .obtain rfl:a.2.2=d:=by rw[z1]
      refine k5 ((j:Int),r) (hm hj hput z1) (by rw[hput];rfl) t q2 ?_;rw[ny,hs2,<- oW sT];exact hq2
 .intro n r q d y h;rcases (k3 _ _).mp h with h|⟨x,hx,hl,hk,hz⟩
  .rw[l2]at h;obtain⟨j,x,e1,e2,e3,e4⟩:=i.lk.to h;exact⟨j,x,e1,e2,e3,(hsT _ _).mpr (.inl e4)⟩
  .obtain⟨n',r'⟩:=x;obtain⟨rfl,hz⟩:=Prod.mk.inj hz;obtain⟨rfl,hq⟩:=Prod.mk.inj hz;obtain⟨j,l,rfl,hj,hc,hput⟩:=Hs.to hx;obtain⟨rfl,hy⟩:=Prod.mk.inj hk;have hl:r.2.2.2.length=2:=hl;have hy:y=nth1 r.2.2.2:=hy;rw[hput]at hl hy;refine⟨j,a.2.1,rfl,hj,?_,(hsT _ _).mpr (.inr ⟨by rw[hc],hq.symm⟩)⟩;rcases l with _|⟨z,_|_⟩
   .cases hl
   .rw[hput,hy];rfl
   .cases hl
 .intro j r x y d q hj hput hq;rw[k3];rcases (hsT _ _).mp hq with h|⟨h,rfl⟩
  .rw[l2];exact .inl (i.lk.of hj hput h)
  .exact .inr ⟨((j:Int),r),hm hj hput h,by rw[hput];rfl,by rw[hput,h];rfl,rfl⟩
 .obtain⟨G,g1,g2,g3⟩:=i.cnt.G;refine⟨a::G,Pk.mpr ⟨fun h=>?_,g1⟩,by grind,fun c hc=>?_⟩
  .obtain⟨q,hq⟩:=g3 a h;exact nS q hq
  .rcases OC.mp hc with rfl|hc
   .exact⟨p,(hsT _ _).mpr (.inr ⟨rfl,rfl⟩)⟩
   .obtain⟨q,hq⟩:=g3 c hc;exact⟨q,(hsT _ _).mpr (.inl hq)⟩
 .have:=i.cnt.ln;have:=hrl (a.1,a.2.1);rw[sT,n1,Sy,Nat.mul_one];rw[l2]at k2;lia
 .have c1:=i.cnt.pn;have c2:=e1.len;have c3:=e2.len;have c4:=i.cnt.ln;have c5:=lq S.aR (a.1,a.2.1);have c6:(rs.get (a.1,a.2.1)).length*S2.settled.flat.length<=RL.length*(S.settled.flat.length+1):=by rw[s2,n1];exact Nat.mul_le_mul_right _ (hrl _)
  rw[OJ]at c1;have c7:(note S a p).aN.flat.length=S.aN.flat.length:=rfl;rw[sT,n1];have c8:RL.length*((S.settled.flat.length+1)*(S.settled.flat.length+1))=RL.length*(S.settled.flat.length*S.settled.flat.length)+RL.length*S.settled.flat.length+RL.length*(S.settled.flat.length+1):=by rw[Nat.add_mul,Nat.one_mul,Sy RL.length,Sy S.settled.flat.length,Nat.mul_one,Sy RL.length (S.settled.flat.length*S.settled.flat.length)]
  rw[c8];lia
theorem I.skip (i:I RL M U pile C S (x::rest))(h:¬ qD S x=true):I RL M U pile C S rest:=by
 have b:=i.bg.b;refine⟨⟨⟨b.q,b.nd,(Pk.mp b.nr).2,b.tk,b.tu,b.ju,b.ps,b.sd,fun c w e=>?_,fun q c h=>b.it q c (h.elim .inl fun h=>.inr (Ow _ h)),fun q c h=>b.ns q c (h.elim .inl fun h=>.inr (Ow _ h)),b.m0⟩,i.bg.gt,fun y hy=>i.bg.eq y (Ow _ hy),i.bg.mh⟩,i.sH,i.lk,i.cnt.so,i.cnt.G,i.cnt.ln,by have:=i.cnt.pn;rw[OJ]at this;lia⟩;rcases b.sp c w e with k|k|k
 .exact .inl k
 .exact .inr (.inl k)
 .grind [qD]
theorem I.batch (Hs:sF RL M U rs)(hrl:∀ k,(rs.get k).length<=RL.length):∀(l:List (Int×Arr)){S:PS},I RL M U pile C S l->
 I RL M U pile C (batch pile rs S l) []/\S.settled.flat.length<=(batch pile rs S l).settled.flat.length/\((batch pile rs S l).settled.flat.length=S.settled.flat.length->batch pile rs S l=S)
 | [],S,i=>⟨i,Oq _,fun _=>rfl⟩
 |x::l,S,i=>by
  show I RL M U pile C (Pz.batch pile rs (turn pile rs S x) l) []/\_<=(Pz.batch pile rs (turn pile rs S x) l).settled.flat.length/\((Pz.batch pile rs (turn pile rs S x) l).settled.flat.length=_->Pz.batch pile rs (turn pile rs S x) l=S);unfold turn;by_cases h:qD S x=true
  .rw[OK h];obtain⟨p,a⟩:=x;unfold qD at h;cases e:bM S.told a with
   |none=>rw[show((p,a):Int×Arr).2=a from rfl,e]at h;cases h
   |some v=>rw[show((p,a):Int×Arr).2=a from rfl,e]at h;obtain⟨j,n⟩:=i.settle Hs hrl e (O2 h);obtain⟨r1,r2,r3⟩:=I.batch Hs hrl l j;exact⟨r1,by grind,fun q=>by grind⟩
  .rw[OL h];exact I.batch Hs hrl l (i.skip h)
structure Top (RL:List Rule) (M U:List Arr) (pile:Int->Int->Int) (C:Nat) (S:PS):Prop where
 b:B RL M pile U S []
 mh:∀ a∈M,fR S a 0
 sH:Mg RL S
 lk:Lk RL S
 cnt:MV RL C S 0
theorem I.top (i:I RL M U pile C S []):Top RL M U pile C S:=⟨i.bg.b,i.bg.mh,i.sH,i.lk,i.cnt⟩
theorem Top.take (P:qv pile)(t:Top RL M U pile C S)(hne:S.aN≠[]):I RL M U pile C (take pile S) (c9 pile S.aN):=by
 have b:=t.b;have k:=wL P b.q hne;have mem:∀ x,x∈S.aN.flat↔x∈(left pile S.aN).flat\/x∈c9 pile S.aN:=fun x=>by rw[k.pm.mem_iff,OX];exact Or.comm
 obtain⟨n1,n2,_⟩:=Qs.mp (k.pm.nodup_iff.mp b.nd);have no:∀{q c},(q,c)∉([]:List (Int×Arr)):=fun h=>nomatch h;refine⟨⟨⟨k.ok,n2,n1,b.tk,b.tu,b.ju,b.ps,fun a p h=>⟨Qr (b.sd a p h).1 k.ge,(b.sd a p h).2⟩,fun a v e=>?_,fun p a h=>b.it p a (.inl ((mem _).mpr h)),fun p a h=>b.ns p a (.inl ((mem _).mpr h)),b.m0⟩,k.lt,k.eq,t.mh⟩,t.sH,⟨t.lk.ok,t.lk.to,t.lk.of⟩,t.cnt.so,t.cnt.G,t.cnt.ln,?_⟩
 .rcases b.sp a v e with h|h|h
  .exact .inl h
  .exact .inr ((mem _).mp h)
  .exact(no h).elim
 .have h1:=k.pm.length_eq;rw[OF]at h1;have h2:=t.cnt.pn;show(left pile S.aN).flat.length+(c9 pile S.aN).length<=_;show _<=C+RL.length*(S.settled.flat.length*S.settled.flat.length);lia
theorem lu {α:Type}[DecidableEq α]:∀(l m:List α),l.Nodup->(∀ x∈l,x∈m)->l.length<=m.length
 | [],m,_,_=>OP _
 |x::l,m,nd,h=>by
  have hx:=h x Ox;have nd':=Pk.mp nd;have:=lu l (m.erase x) nd'.2 fun y hy=>(List.mem_erase_of_ne (fun(e:y=x)=>nd'.1 (by grind))).mpr (h y (Ow _ hy))
  grind
theorem Top.kN (t:Top RL M U pile C S):S.settled.flat.length<=U.length/\S.told.length<=U.length:=by
 obtain⟨G,g1,g2,g3⟩:=t.cnt.G;constructor
 .rw[<- g2];exact lu G U g1 fun a ha=>by obtain⟨q,hq⟩:=g3 a ha;obtain⟨_,v,e,_⟩:=t.b.sd a q hq;exact t.b.tu a v e
 .have:=lu (S.told.map (·.1)) U t.b.tk fun a ha=>by obtain⟨x,hx,rfl⟩:=OB.mp ha;exact t.b.tu x.1 x.2 (jE t.b.tk hx)
  rwa [Ot]at this
theorem Top.fit (t:Top RL M U pile C S)(hC:C+RL.length*(U.length*U.length)<L)(hR:RL.length*U.length<L)(hU:U.length<L):ja S:=by obtain⟨f1,f2⟩:=t.kN;have a1:=gC t.b.q.ok;have a2:=gC t.cnt.so;have a3:=gC t.lk.ok;have b1:=t.cnt.pn;have b2:RL.length*(S.settled.flat.length*S.settled.flat.length)<=RL.length*(U.length*U.length):=R8 _ (Nat.mul_le_mul f1 f1);have b3:=t.cnt.ln;have b4:RL.length*S.settled.flat.length<=RL.length*U.length:=R8 _ f1;constructor<;>lia
theorem Top.loop (P:qv pile)(Hs:sF RL M U rs)(hrl:∀ k,(rs.get k).length<=RL.length)(hC:C+RL.length*(U.length*U.length)<L)(hR:RL.length*U.length<L)(hU:U.length<L) :
 ∀(a b:Nat)(S:PS),Top RL M U pile C S->U.length-S.settled.flat.length<=a->S.aN.flat.length<=b->∃ n T,Loop pile rs n S T/\Top RL M U pile C T/\T.aN=[]:=by
 have step:∀ S,Top RL M U pile C S->S.aN≠[]->let S2:=batch pile rs (Pz.take pile S) (c9 pile S.aN);Top RL M U pile C S2/\(∀ n T,Loop pile rs n S2 T->Loop pile rs (n+1) S T)/\
  (S.settled.flat.length<S2.settled.flat.length\/S2.settled.flat.length=S.settled.flat.length/\S2.aN.flat.length<S.aN.flat.length):=by
  intro S t hne;obtain⟨i,h1,h2⟩:=I.batch Hs hrl _ (t.take P hne);have t2:=i.top;refine⟨t2,fun n T l=>.step hne t.b.q (fun x hx=>?_) (t.fit hC hR hU) (t2.fit hC hR hU) l,?_⟩
  .obtain⟨v,e,_⟩:=t.b.it x.1 x.2 (.inl ((wL P t.b.q hne).pm.mem_iff.mpr (OX.mpr (.inl hx))));rw[e];simp
  have k:=wL P t.b.q hne;by_cases e:(batch pile rs (Pz.take pile S) (c9 pile S.aN)).settled.flat.length=S.settled.flat.length
  .refine .inr ⟨e,?_⟩;rw[h2 e];show(left pile S.aN).flat.length<_;rw[k.pm.length_eq,OF];have:=R7.mpr k.ne;lia
  .have h1:S.settled.flat.length<=(batch pile rs (Pz.take pile S) (c9 pile S.aN)).settled.flat.length:=h1;exact .inl (by lia)
 intro a;induction a with
 |zero=>
  intro b;induction b with
  |zero=>intro S t _ hb;have:S.aN=[]:=Pn.mp (by have:=gC t.b.q.ok;lia);exact⟨0,S,.done this,t,this⟩
  |succ b ih=>
   intro S t ha hb;by_cases hne:S.aN=[]
   .exact⟨0,S,.done hne,t,hne⟩
   obtain⟨t2,hl,hd⟩:=step S t hne;have:=t2.kN.1;obtain⟨n,T,l,r⟩:=ih _ t2 (by rcases hd with h|h<;>lia) (by rcases hd with h|h<;>lia);exact⟨_,T,hl _ _ l,r⟩
 |succ a iha=>
  intro b;induction b with
  |zero=>intro S t _ hb;have:S.aN=[]:=Pn.mp (by have:=gC t.b.q.ok;lia);exact⟨0,S,.done this,t,this⟩
  |succ b ih=>
   intro S t ha hb;by_cases hne:S.aN=[]
   .exact⟨0,S,.done hne,t,hne⟩
   obtain⟨t2,hl,hd⟩:=step S t hne;have:=t2.kN.1;rcases hd with h|h
   .obtain⟨n,T,l,r⟩:=iha _ _ t2 (by lia) (Oq _);exact⟨_,T,hl _ _ l,r⟩
   .obtain⟨n,T,l,r⟩:=ih _ t2 (by lia) (by lia);exact⟨_,T,hl _ _ l,r⟩
end Pz
namespace Pz
noncomputable def en:List Rule->Nat->List (Int×Rule)
 | [],_=>[]
 |r::l,k=>((k:Int),r)::en l (k+1)
theorem en_mem:∀{l:List Rule}{k:Nat}{n:Int}{r:Rule},(n,r)∈en l k↔∃ j:Nat,n=((k+j:Nat):Int)/\l[j]?=some r
 | [],k,n,r=>⟨fun h=>(OH h).elim,fun⟨j,_,h⟩=>by simp at h⟩
 |x::l,k,n,r=>by
  unfold en;rw[OC,en_mem];constructor
  .rintro (h|⟨j,rfl,h⟩)
   .obtain⟨rfl,rfl⟩:=Prod.mk.inj h;exact⟨0,rfl,rfl⟩
   .exact⟨j+1,by lia,by simpa using h⟩
  .rintro⟨j,rfl,h⟩;cases j with
   |zero=>left;simp at h;subst h;rfl
   |succ j=>exact .inr ⟨j,by lia,by simpa using h⟩
theorem mI:∀(l:List Rule)(k:Nat),(en l k).length=l.length:=by intro l;induction l<;>grind [en]
def fG (d:RS)(x:Int×Rule):RS:=if x.2.2.2.2.length>0 then d.app (x.2.2.2.1,x.2.2.2.2[0]?.getD 0) x else d
def bV (RL:List Rule):RS:=(en RL 0).foldl fG []
theorem wO (d:RS)(x:Int×Rule)(k:Int×Int)(z:Int×Rule):z∈(fG d x).get k↔z∈d.get k\/(z=x/\∃ y l,x.2.2.2.2=y::l/\k=(x.2.2.2.1,y)):=by
 unfold fG;cases h:x.2.2.2.2 with
 |nil=>grind
 |cons y l=>
  rw[OK (by simp),pS]
  grind
theorem pU:∀(l:List (Int×Rule))(d:RS)(k:Int×Int)(z:Int×Rule),z∈(l.foldl fG d).get k↔z∈d.get k\/(z∈l/\∃ y l',z.2.2.2.2=y::l'/\k=(z.2.2.2.1,y))
 | [],d,k,z=>⟨.inl,fun q=>q.elim id fun q=>(OH q.1).elim⟩
 |x::l,d,k,z=>by
  rw[QI,pU l,wO,OC];constructor
  .rintro ((h|⟨rfl,h⟩)|⟨h1,h2⟩)
   .exact .inl h
   .exact .inr ⟨.inl rfl,h⟩
   .exact .inr ⟨.inr h1,h2⟩
  .rintro (h|⟨rfl|h1,h2⟩)
   .exact .inl (.inl h)
   .exact .inl (.inr ⟨rfl,h2⟩)
   .exact .inr ⟨h1,h2⟩
theorem t_:∀(l:List (Int×Rule))(d:RS),d.Ok->(l.foldl fG d).Ok/\(l.foldl fG d).flat.length<=d.flat.length+l.length
 | [],d,h=>⟨h,Oq _⟩
 |x::l,d,h=>by
  rw[QI,OJ];have:(fG d x).Ok/\(fG d x).flat.length<=d.flat.length+1:=by
   unfold fG;split
   .exact⟨mF h _ _,Sa (fc h.nk _ _).length_eq⟩
   .exact⟨h,by lia⟩
  obtain⟨a,b⟩:=t_ l _ this.1;exact⟨a,by lia⟩
theorem rP {κ α:Type}:MD.Ok (κ:=κ) (α:=α) []:=⟨O_,fun _ h=>(OH h).elim⟩
theorem Fa (RL:List Rule):(bV RL).Ok/\(bV RL).flat.length<=RL.length:=by
 grind [bV,en,MD.flat,t_,rP,mI]
noncomputable def S0:PS:=⟨[],0,[],[],[]⟩
variable (pile:Int->Int->Int)
def gT (S:PS)(a:Arr):PS:=bn pile S a 0 none none
def d4 (S:PS)(x:Int×Rule):PS:=if x.2.2.2.2.length=0 then bn pile S (x.2.1,x.2.2.1,x.2.2.2.1) 1 (some x.1) none else S
def ie (RL:List Rule)(M:List Arr):PS:=(en RL 0).foldl (d4 pile) (M.foldl (gT pile) S0)
variable {pile}
structure xV (RL:List Rule) (M U:List Arr) (pile:Int->Int->Int) (S:PS) (k:Nat):Prop where
 b:B RL M pile U S []
 l0:S.last=0
 s0:S.settled=[]
 k0:S.aR=[]
 len:S.aN.flat.length<=k
theorem xV.no (h:xV RL M U pile S k)(a:Arr)(q:Int):¬ Sd S a q:=by unfold Sd;rw[h.s0];exact fun h=>(OH h).elim
theorem xV.bn (h:xV RL M U pile S k)(hj:Just RL M (Sd S) a (p,n,m))(hu:a∈U)(hp:0<=p)(hm:a∈M->fR S a 0\/(p,n,m)=(0,none,none)):xV RL M U pile (bn pile S a p n m) (k+1):=by obtain⟨e1,e2,e3⟩:=gE (pile:=pile) (S:=S) a p n m;exact⟨h.b.bn hj hu (by rw[h.l0];exact hp) (fun h=>(OH h).elim) (h.no _ _) hm,by rw[e3];exact h.l0,by rw[e1];exact h.s0,by rw[e2];exact h.k0,OR (oV h.b.q.ok _ _ _ _) (Nat.add_le_add_right h.len 1)⟩
theorem KG:xV RL M U pile S0 0:=by have no:∀{α:Type}{x:α},x∉([]:List α):=fun h=>(OH h).elim;exact⟨⟨⟨rP,QX _,fun _ h=>(no h).elim⟩,O_,O_,O_,(fun _ _ h=>nomatch h),(fun _ _ h=>nomatch h),(fun _ _ h=>nomatch h),(fun _ _ h=>(no h).elim),(fun _ _ h=>nomatch h),(fun _ _ h=>h.elim (fun h=>(no h).elim) fun h=>(no h).elim),(fun _ _ h=>h.elim (fun h=>(no h).elim) fun h=>(no h).elim),(fun _ _ h=>nomatch h)⟩,rfl,rfl,rfl,Oq _⟩
theorem HL:∀(l:List Arr){S:PS}{k:Nat},xV RL M U pile S k->(∀ a∈l,a∈M/\a∈U)->xV RL M U pile (l.foldl (gT pile) S) (k+l.length)/\(∀ a p,fR S a p->fR (l.foldl (gT pile) S) a p)/\∀ a∈l,fR (l.foldl (gT pile) S) a 0
 | [],S,k,h,_=>⟨h,fun _ _ h=>h,fun _ h=>(OH h).elim⟩
 |a::l,S,k,h,hl=>by
  obtain⟨h1,h2⟩:=hl a Ox;have e:=h.bn (a:=a) (p:=0) (n:=none) (m:=none) ⟨rfl,rfl,h1⟩ h2 (QX _) fun _=>.inr rfl;obtain⟨r1,r2,r3⟩:=HL l e fun b hb=>hl b (Ow _ hb);rw[QI,OJ,Se l.length,<- Nat.add_assoc];refine⟨r1,fun b p h=>r2 b p (gD h),fun b hb=>?_⟩;rcases OC.mp hb with rfl|hb
  .exact r2 _ _ (iG _ _ _ _)
  .exact r3 b hb
theorem HN (u2:∀ r∈RL,(r.1,r.2.1,r.2.2.1)∈U):∀(l:List (Int×Rule)){S:PS}{k:Nat},xV RL M U pile S k->(∀ a∈M,fR S a 0)->(∀ x∈l,∃ j:Nat,x.1=j/\RL[j]?=some x.2)->
 xV RL M U pile (l.foldl (d4 pile) S) (k+l.length)/\(∀ a p,fR S a p->fR (l.foldl (d4 pile) S) a p)/\∀ x∈l,x.2.2.2.2=[]->fR (l.foldl (d4 pile) S) (x.2.1,x.2.2.1,x.2.2.2.1) 1
 | [],S,k,h,_,_=>⟨h,fun _ _ h=>h,fun _ h=>(OH h).elim⟩
 |x::l,S,k,h,hm,hl=>by
  obtain⟨j,e1,e2⟩:=hl x Ox;have one:xV RL M U pile (d4 pile S x) (k+1)/\(∀ a p,fR S a p->fR (d4 pile S x) a p)/\(x.2.2.2.2=[]->fR (d4 pile S x) (x.2.1,x.2.2.1,x.2.2.2.1) 1):=by
   unfold d4;by_cases h0:x.2.2.2.2.length=0
   .rw[OK h0];have e:=h.bn (a:=(x.2.1,x.2.2.1,x.2.2.2.1)) (p:=1) (n:=some x.1) (m:=none) ⟨j,x.2,e1,e2,rfl,rfl,by rw[Pn.mp h0];exact⟨rfl,rfl,rfl⟩⟩ (u2 _ (OU e2)) (by decide) fun h=>.inl (hm _ h);exact⟨e,fun b p h=>gD h,fun _=>iG _ _ _ _⟩
   .rw[OL h0];exact⟨⟨h.b,h.l0,h.s0,h.k0,Nat.le_succ_of_le h.len⟩,fun _ _ h=>h,fun e=>(h0 (by rw[e];rfl)).elim⟩
  obtain⟨o1,o2,o3⟩:=one;obtain⟨r1,r2,r3⟩:=HN u2 l o1 (fun a ha=>o2 a 0 (hm a ha)) fun b hb=>hl b (Ow _ hb);rw[QI,OJ,Se l.length,<- Nat.add_assoc];refine⟨r1,fun b p h=>r2 b p (o2 b p h),fun b hb e=>?_⟩;rcases OC.mp hb with rfl|hb
  .exact r2 _ _ (o3 e)
  .exact r3 b hb e
structure Set (RL:List Rule) (M U:List Arr):Prop where
 kN:∀ r∈RL,r.2.2.2.length<=2
 u1:∀ a∈M,a∈U
 u2:∀ r∈RL,(r.1,r.2.1,r.2.2.1)∈U
 u3:∀ r∈RL,∀ s x t,(s,x,t)∈U->(r.1,r.2.1,t)∈U
 big:M.length+RL.length+RL.length*(U.length*U.length)<L
 JA:RL.length*U.length<L
 JL:U.length<L
theorem Set.JE (h:Set RL M U):sF RL M U (bV RL):=by
 refine⟨h.kN,fun{n r c x} q=>?_,fun{j r x l} e1 e2=>?_,h.u1,h.u2,h.u3⟩
 .rcases (pU _ _ _ _).mp q with q|⟨q,y,l,e,k⟩
  .exact(OH q).elim
  .obtain⟨j,e1,e2⟩:=en_mem.mp q
   grind
 .exact(pU _ _ _ _).mpr (.inr ⟨en_mem.mpr ⟨j,by grind,e1⟩,x,l,e2,rfl⟩)
theorem wQ (h:Set RL M U):Top RL M U pile (M.length+RL.length) (ie pile RL M):=by
 obtain⟨a1,a2,a3⟩:=HL (RL:=RL) (M:=M) (U:=U) (pile:=pile) M KG fun a ha=>⟨ha,h.u1 a ha⟩;obtain⟨b1,b2,b3⟩:=HN h.u2 (en RL 0) a1 a3 fun x hx=>by obtain⟨j,e1,e2⟩:=en_mem.mp hx;exact⟨j,by grind,e2⟩
 have b1:xV RL M U pile (ie pile RL M) _:=b1;refine⟨b1.b,fun a ha=>b2 a 0 (a3 a ha),fun j r hj=>?_,⟨by rw[b1.k0];exact rP,fun{n r q d y} h=>by rw[b1.k0]at h;exact(OH h).elim,fun _ _ h=>(b1.no _ _ h).elim⟩,⟨by rw[b1.s0];exact rP,⟨[],O_,by rw[b1.s0];rfl,fun _ h=>(OH h).elim⟩,by rw[b1.k0];exact OP _,?_⟩⟩
 .cases hp:r.2.2.2 with
  |nil=>exact b3 ((j:Int),r) (en_mem.mpr ⟨j,by grind,hj⟩) hp
  |cons x l=>
   match l with
   | []=>exact fun t q h=>(b1.no _ _ h).elim
   | [y]=>exact fun d t q1 q2 h=>(b1.no _ _ h).elim
   |_::_::_=>trivial
 .have:=b1.len;rw[mI]at this;lia
def At (t:TD)(a:Arr)(q:Int):Prop:=∃ w,bM t a=some w/\w.1=q
def J1 (t:TD)(a:Arr)(q:Int):Prop:=∃ w,bM t a=some w/\w.1<=q
structure Good (RL:List Rule) (M U:List Arr) (t:TD):Prop where
 nd:(t.map (·.1)).Nodup
 u:∀ a v,bM t a=some v->a∈U
 ju:∀ a v,bM t a=some v->Just RL M (At t) a v
 ps:∀ a v,bM t a=some v->0<=v.1
 m0:∀ a∈M,bM t a=some (0,none,none)
 sH:∀(j:Nat)(r:Rule),RL[j]?=some r->match r.2.2.2 with
  | []=>J1 t (r.1,r.2.1,r.2.2.1) 1
  | [x]=>∀ d q,At t (r.2.2.1,x,d) q->J1 t (r.1,r.2.1,d) (q+1)
  | [x,y]=>∀ d e q1 q2,At t (r.2.2.1,x,d) q1->At t (d,y,e) q2->J1 t (r.1,r.2.1,e) (q1+q2+1)
  |_=>True
theorem Top.good (h:Top RL M U pile C S)(e:S.aN=[]):Good RL M U S.told:=by
 have hs:∀ a q,Sd S a q↔At S.told a q:=fun a q=>by
  constructor
  .intro k;exact(h.b.sd a q k).2
  .rintro⟨w,k,rfl⟩;rcases h.b.sp a w k with k|k|k
   .exact k
   .rw[e]at k;exact(OH k).elim
   .exact(OH k).elim
 refine⟨h.b.tk,h.b.tu,fun a v k=>(h.b.ju a v k).mono RL M fun a q=>(hs a q).mp,h.b.ps,fun a ha=>?_,fun j r hj=>?_⟩
 .obtain⟨v,k,_⟩:=h.mh a ha;rw[k,h.b.m0 a v k ha]
 .have hc:=h.sH j r hj;cases hp:r.2.2.2 with
  |nil=>rw[hp]at hc;exact hc
  |cons x l=>
   rw[hp]at hc
   match l with
   | []=>exact fun t q k=>hc t q ((hs _ _).mpr k)
   | [y]=>exact fun d t q1 q2 k1 k2=>hc d t q1 q2 ((hs _ _).mpr k1) ((hs _ _).mpr k2)
   |_::_::_=>trivial
theorem Set.run (P:qv pile)(h:Set RL M U):ja (ie pile RL M)/\∃ n T,Loop pile (bV RL) n (ie pile RL M) T/\Good RL M U T.told:=by have t:=wQ (pile:=pile) h;obtain⟨n,T,l,t2,e⟩:=t.loop P h.JE (fun k=>OR (lq _ k) (Fa RL).2) h.big h.JA h.JL _ _ _ (Oq _) (Oq _);exact⟨t.fit h.big h.JA h.JL,n,T,l,t2.good e⟩
end Pz
namespace Pz
theorem Cw (x y k:Nat):(x ||| y)-(x &&& y)<2 ^ k↔x / 2 ^ k=y / 2 ^ k:=by
 have hO:(x ||| y) / 2 ^ k=x / 2 ^ k ||| y / 2 ^ k:=by rw[<- PR,<- PR,<- PR,Nat.shiftRight_or_distrib]
 have hA:(x &&& y) / 2 ^ k=x / 2 ^ k &&& y / 2 ^ k:=by rw[<- PR,<- PR,<- PR,Nat.shiftRight_and_distrib]
 have mO:(x ||| y) % 2 ^ k=x % 2 ^ k ||| y % 2 ^ k:=Nat.or_mod_two_pow;have mA:(x &&& y) % 2 ^ k=x % 2 ^ k &&& y % 2 ^ k:=Nat.and_mod_two_pow;have pos:0<2 ^ k:=Nat.two_pow_pos k;have dO:=Nat.div_add_mod (x ||| y) (2 ^ k);have dA:=Nat.div_add_mod (x &&& y) (2 ^ k);have lO:=SD (x ||| y) pos;have a1:x / 2 ^ k &&& y / 2 ^ k<=x / 2 ^ k:=Nat.and_le_left;have a2:x / 2 ^ k &&& y / 2 ^ k<=y / 2 ^ k:=Nat.and_le_right;have a3:x / 2 ^ k<=x / 2 ^ k ||| y / 2 ^ k:=Nat.left_le_or;have a4:y / 2 ^ k<=x / 2 ^ k ||| y / 2 ^ k:=Nat.right_le_or;have a5:x % 2 ^ k &&& y % 2 ^ k<=x % 2 ^ k:=Nat.and_le_left;have a6:x % 2 ^ k<=x % 2 ^ k ||| y % 2 ^ k:=Nat.left_le_or;constructor
 .intro h;refine Nat.le_antisymm ?_ ?_
  all_goals
   refine Nat.not_lt.mp fun hc=>?_;have hlt:(x &&& y) / 2 ^ k+1<=(x ||| y) / 2 ^ k:=by lia
   have hm:=R8 (2 ^ k) hlt;rw[Sy,Nat.mul_one]at hm;lia
 .grind
theorem Cy (z k:Nat):(if ((z:Int)==0)=true then 0 else (z:Int).natAbs.log2+1)<=k↔z<2 ^ k:=by
 rw[Int.natAbs_natCast];by_cases h:z=0
 .subst h;rw[OK (by decide)];exact⟨fun _=>Nat.two_pow_pos k,fun _=>OP _⟩
 .have:¬ ((z:Int)==0)=true:=by simpa using h
  rw[OL this];exact Nat.log2_lt h
end Pz
namespace L4
open PySem PySem.Spec PyProof.Rows L2 L3
section
variable {κ:Type}[DecidableEq κ]
noncomputable abbrev DX (κ:Type):=List (κ×Addr×List V)
noncomputable abbrev DX.kv (xs:DX κ):List (κ×V):=xs.map fun x=>(x.1,V.ref x.2.1)
structure DL (mk:List (κ×V)->HO) (H:Hp) (a:Addr) (xs:DX κ):Prop where
 root:H a=some (mk xs.kv)
 qt:∀ x∈xs,H x.2.1=some (.lst x.2.2)
 nk:(xs.map (·.1)).Nodup
 na:(xs.map (·.2.1)).Nodup
def cE (a:Addr)(xs:DX κ)(b:Addr):Prop:=b=a\/∃ x∈xs,b=x.2.1
noncomputable def fH (xs:DX κ)(k:κ):Option (Addr×List V):=(xs.find? fun x=>decide (x.1=k)).map (·.2)
noncomputable def ke (xs:DX κ)(k:κ)(v:V):DX κ:=xs.map fun x=>if x.1=k then (x.1,x.2.1,x.2.2++[v]) else x
theorem jf (xs:DX κ)(k:κ):cz xs.kv k=(fH xs k).map fun p=>.ref p.1:=by
 induction xs with
 |nil=>rfl
 |cons x r ih=>
  unfold fH at ih ⊢;show cz ((x.1,V.ref x.2.1)::DX.kv r) k=_;rw[Qu];by_cases h:x.1=k
  .rw[dL h,OO h];rfl
  .rw[dM h,OZ h,ih]
theorem wR (xs:DX κ)(k:κ)(v:V):(ke xs k v).kv=xs.kv:=by unfold ke DX.kv;rw[PN];apply Pt;intro x _;show((if x.1=k then (x.1,x.2.1,x.2.2++[v]) else x).1,V.ref (if x.1=k then (x.1,x.2.1,x.2.2++[v]) else x).2.1)=_;split<;>rfl
theorem mJ {β:Type}(f:κ×Addr×List V->β)(hf:∀ a b c d,f (a,b,c)=f (a,b,d))(xs:DX κ)(k:κ)(v:V):(ke xs k v).map f=xs.map f:=by
 unfold ke;rw[PN];apply Pt;intro x _;show f (if x.1=k then (x.1,x.2.1,x.2.2++[v]) else x)=_;split
 .exact hf _ _ _ _
 .rfl
theorem c_ {xs:DX κ}(h:fH xs k=some p):(k,p)∈xs:=by unfold fH at h;obtain⟨x,hx,rfl⟩:=Pd.mp h;have h1:=List.find?_some hx;have h2:=List.mem_of_find?_eq_some hx;have e:x.1=k:=O2 h1;obtain⟨a,b⟩:=x;dsimp only at e;subst e;exact h2
theorem wU {xs:DX κ}(h:fH xs k=none):k∉xs.map (·.1):=fun hk=>by obtain⟨x,hx,rfl⟩:=OB.mp hk;unfold fH at h;have:=List.find?_eq_none.mp (Option.map_eq_none_iff.mp h) x hx;simp at this
variable {mk:List (κ×V)->HO}
theorem DL.old (hmk:∀ q ws,mk q≠.lst ws)(G:DL mk H a xs)(hk:fH xs k=some p)(hm:H' p.1=some (.lst (p.2++[v])))(kp:∀ c u,H c=some u->c≠p.1->H' c=some u):DL mk H' a (ke xs k v):=by
 have hp:=c_ hk;have nap:a≠p.1:=fun e=>by have:=G.qt _ hp;dsimp only at this;rw[<- e,G.root]at this;exact hmk _ _ (OW this)
 refine⟨by rw[wR];exact kp _ _ G.root nap,fun x hx=>?_,by rw[mJ _ (fun _ _ _ _=>rfl)];exact G.nk,by rw[mJ _ (fun _ _ _ _=>rfl)];exact G.na⟩;obtain⟨y,hy,rfl⟩:=OB.mp hx;by_cases e:y.1=k
 .rw[OK e];have:y=(k,p):=by
   have h1:(xs.map (·.1)).Nodup:=G.nk;obtain⟨i,hi⟩:=OS.mp hy;obtain⟨j,hj⟩:=OS.mp hp;have e1:(xs.map (·.1))[i]?=some k:=by rw[OD,hi];exact PJ some e
   have e2:(xs.map (·.1))[j]?=some k:=by rw[OD,hj];rfl
   have:i=j:=(Sr (Ov.mp e1).1 h1).mp (e1.trans e2.symm);subst this;rw[hi]at hj;exact OW hj
  subst this;exact hm
 .rw[OL e];refine kp _ _ (G.qt y hy) fun q=>e ?_;obtain⟨i,hi⟩:=OS.mp hy;obtain⟨j,hj⟩:=OS.mp hp;have e1:(xs.map (·.2.1))[i]?=some p.1:=by rw[OD,hi];exact PJ some q
  have e2:(xs.map (·.2.1))[j]?=some p.1:=by rw[OD,hj];rfl
  have:i=j:=(Sr (Ov.mp e1).1 G.na).mp (e1.trans e2.symm);subst this;rw[hi]at hj;rw[OW hj]
theorem DL.new (hmk:∀ q ws,mk q≠.lst ws)(G:DL mk H a xs)(hk:fH xs k=none)(hl:H l=none)(hm:H' l=some (.lst [v]))(ha:H' a=some (mk (xs.kv++[(k,.ref l)])))(kp:∀ c u,H c=some u->c≠a->H' c=some u):DL mk H' a (xs++[(k,l,[v])]):=by
 have nl:∀ x∈xs,x.2.1≠l:=fun x hx e=>by have:=G.qt x hx;rw[e,hl]at this;cases this
 refine⟨by grind,fun x hx=>?_,?_,?_⟩
 .rcases OX.mp hx with h|h
  .refine kp _ _ (G.qt x h) fun e=>?_;have:=G.qt x h;rw[e,G.root]at this;exact hmk _ _ (OW this)
  .rw[OI]at h;subst h;exact hm
 .rw[O3,Qs];exact⟨G.nk,by simp,fun b hb c hc e=>by rw[OE,QJ,OI]at hc;subst hc;subst e;exact wU hk hb⟩
 .rw[O3,Qs];exact⟨G.na,by simp,fun b hb c hc e=>by rw[OE,QJ,OI]at hc;subst hc;subst e;obtain⟨x,hx,q⟩:=OB.mp hb;exact nl x hx q⟩
end
def Reads (t:TE)(σ:L2.St)(H:Hp)(v:V):Prop:=∀ Q:VK,Q v H->t σ H Q
def Makes (t:TE)(σ:L2.St)(H:Hp)(ws:List V):Prop:=∀ Q:VK,(∀ p,H p=none->Q (.ref p) (upd H p (.tup ws)))->t σ H Q
section
variable {K:SG}
theorem Reads.va (h:σ[i]?=some (some v)):Reads (au i) σ H v:=fun _ q=>⟨_,h,q⟩
theorem Reads.k:Reads (tC v) σ H v:=fun _ q=>q
theorem Reads.op (ha:Reads ta σ H x)(hb:Reads tb σ H y)(h:∀ Q:VK,Q z H->r x y H Q):Reads (aZ r ta tb) σ H z:=fun Q q=>ha _ (hb _ (h Q q))
theorem Reads.ix (h:Reads ta σ H (.ref b))(hs:H b=some (.tup ws))(e:uL ws n=some v):Reads (aZ (jq K) ta (tC (.int n))) σ H v:=h.op .k fun _ q=>⟨b,ws,n,v,rfl,rfl,SqT.of hs,e,q⟩
theorem Reads.fld (h:Reads ta σ H (.ref o))(hi:∃ dx,H o=some (.ins C dx fs))(cl:qz K C)(n:NoAttr K C f)(hl:fs.lookup f=some v):Reads (dR K ta f) σ H v:=fun Q q=>by obtain⟨dx,hi⟩:=hi;exact h _ ⟨o,C,dx,_,_,rfl,hi,cl,n,hl,q⟩
theorem Fd (h:Reads ta σ H (.ref o))(hi:∃ dx,H o=some (.ins C dx fs))(cl:qz K C)(n:NoAttr K C f)(hl:fs.lookup f=some v)(q:Q v H):dR K ta f σ H Q:=Reads.fld h hi cl n hl _ q
def ReadsA (t:TA)(σ:L2.St)(H:Hp)(vs:List V):Prop:=∀ Q:List V->Hp->Prop,Q vs H->t σ H Q
theorem ReadsA.ni:ReadsA aG σ H []:=fun _ q=>q
theorem ReadsA.c (h:Reads ta σ H v)(k:ReadsA tr σ H vs):ReadsA (aj ta tr) σ H (v::vs):=fun _ q=>h _ (k _ q)
theorem Makes.t (h:ReadsA tr σ H ws)(l:Nat.ble ws.length 9=true):Makes (cf tr) σ H ws:=fun _ q=>h _ ⟨OR (Nat.le_of_ble_eq_true l) (by decide),q⟩
theorem jg (h:ReadsA tr σ H ws)(l:Nat.ble ws.length 9=true)(k:∀ p,H p=none->Q (.ref p) (upd H p (.tup ws))):cf tr σ H Q:=Makes.t h l _ k
theorem rQ (h:Reads ta σ H (.ref b))(hi:∃ dx,H b=some (.ins C dx fs))(hl:fs.lookup m=none)(ha:ReadsA tr σ H vs)(k:sp (.ref b::(vs++dvs)) H Q E):dZ C m sp dvs E ta tr σ H Q:=by obtain⟨dx,hi⟩:=hi;exact h _ ⟨b,dx,fs,rfl,hi,hl,ha _ k⟩
theorem ua {Q:L2.St->Hp->Prop}(ht:H b=some (.tup [v,w]))(k:Q ((σ.set i (some v)).set j (some w)) H):dQ K 2 (be (aE i) (be (aE j) dP)) (.ref b) σ H Q:=⟨b,_,rfl,SqT.of ht,rfl,_,_,rfl,_,_,rfl,rfl,k⟩
theorem fI {t u:TS}{D:Ends}(h:Reads te σ H (.bl c))(k1:c=true->t D σ H)(k2:¬ c=true->u D σ H):cI (br te) t u D σ H:=h _ ⟨_,rfl,EN k1 k2⟩
end
def kf {κ:Type}[DecidableEq κ](xs:DX κ)(k:κ)(l:Addr)(v:V):DX κ:=if (fH xs k).isSome then ke xs k v else xs++[(k,l,[v])]
def mK (K:SG) (to tk te:TE):TE:=xS K "list" dD (xS K "dict" tU to (aj tk (aj (cJ aG) aG))) (aj te aG)
theorem vm {κ:Type}[DecidableEq κ]{mk:List (κ×V)->HO}(hmk:∀ q ws,mk q≠.lst ws){K:SG}{te:TE}{σ:L2.St}{H:Hp}{a l:Addr}{xs:DX κ}{k:κ}{ws:List V}{C:Hp->Prop}(G:DL mk H a xs)(hl:H l=none)
 (hte:∀ H',(∀ c u,H c=some u->c≠a->H' c=some u)->Makes te σ H' ws) (hw:∀ x∈xs,x.2.2.length<16000000)
 (kk:∀(l p:Addr)(H':Hp),H l=none->H p=none->H' p=some (.tup ws)->DL mk H' a (kf xs k l (.ref p))->(∀ c u,H c=some u->¬ cE a xs c->H' c=some u)->C H') :
 (∃ v,cz xs.kv k=some v/\Ho K "list" v (upd H l (.lst []))/\aj te aG σ (upd H l (.lst [])) fun xs H2=>dD v xs H2 fun _ H'=>C H')\/(cz xs.kv k=none/\Ho K "list" (.ref l) (upd (upd H l (.lst [])) a (mk (ci xs.kv k (.ref l))))/\aj te aG σ (upd (upd H l (.lst [])) a (mk (ci xs.kv k (.ref l)))) fun xs H2=>dD (.ref l) xs H2 fun _ H'=>C H'):=by
 have sz:∀ n,n<16000000->n<sizeLine:=fun n h=>by rw[OG];lia
 have han:H a≠none:=by rw[G.root];simp
 have nal:a≠l:=fun e=>han (by rw[e];exact hl);have kl:∀ c u,H c=some u->upd H l (.lst []) c=some u:=fun c u e=>by rw[aA (aB e hl)];exact e
 cases hf:fH xs k with
 |some q=>
  left;have hq:=G.qt _ (c_ hf);refine⟨.ref q.1,by rw[jf,hf];rfl,.inl ⟨rfl,_,SqL.of (kl _ _ hq)⟩,hte _ (fun c u e _=>kl c u e) _ fun p hp=>?_⟩;have hpH:H p=none:=(az hl).free hp;have nqp:q.1≠p:=fun e=>by grind
  refine⟨q.1,q.2,.ref p,rfl,rfl,by rw[aA nqp];exact kl _ _ hq,sz _ (hw _ (c_ hf)),?_⟩;have kp:∀ c u,H c=some u->c≠q.1->upd (upd (upd H l (.lst [])) p (.tup ws)) q.1 (.lst (q.2++[.ref p])) c=some u:=fun c u e hn=>by rw[aA hn,aA (aB e hpH)];exact kl c u e
  refine kk l p _ hl hpH (by rw[aA (Pw nqp),ao]) ?_ fun c u e hn=>kp c u e fun z=>hn (.inr ⟨_,c_ hf,z⟩);unfold kf;rw[hf,OK (by simp)];exact G.old hmk hf ao kp
 |none=>
  right;refine⟨by rw[jf,hf];rfl,.inl ⟨rfl,[],SqL.of (by rw[aA (Pw nal),ao])⟩,hte _ (fun c u e hn=>by rw[aA hn];exact kl c u e) _ fun p hp=>?_⟩;have hvn:cz xs.kv k=none:=by rw[jf,hf];rfl
  have hpa:p≠a:=fun e=>by rw[e,ao]at hp;cases hp
  have hpl:p≠l:=fun e=>by rw[e,aA (Pw nal),ao]at hp;cases hp
  have hpH:H p=none:=by rw[aA hpa,aA hpl]at hp;exact hp
  refine⟨l,[],.ref p,rfl,rfl,by rw[aA (Pw hpl),aA (Pw nal),ao],by decide,?_⟩;refine kk l p _ hl hpH (by rw[aA hpl,ao]) ?_ fun c u e hn=>?_
  .unfold kf;rw[hf,OL (by simp)];refine G.new hmk hf hl ao (by rw[aA nal,aA (Pw hpa),ao,jr _ hvn]) fun c u e hn=>?_;rw[aA (aB e hl),aA (aB e hpH),aA hn];exact kl c u e
  .rw[aA (aB e hl),aA (aB e hpH),aA (fun z=>hn (.inl z))];exact kl c u e
theorem pV {K:SG}{to tk te:TE}{σ:L2.St}{H:Hp}{C:Hp->Prop}(G:DL .dT H a xs)(hto:Reads to σ H (.ref a))(htk:Reads tk σ H (.ref b))(hb:H b=some (.tup (k.map kV)))
 (hte:∀ H',(∀ c u,H c=some u->c≠a->H' c=some u)->Makes te σ H' ws) (hz:xs.length<16000000) (hw:∀ x∈xs,x.2.2.length<16000000)
 (kk:∀(l p:Addr)(H':Hp),H l=none->H p=none->H' p=some (.tup ws)->DL .dT H' a (kf xs k l (.ref p))->(∀ c u,H c=some u->¬ cE a xs c->H' c=some u)->C H') :
 mK K to tk te σ H fun _ H'=>C H':=by
 have kl:∀ l,H l=none->∀ c u,H c=some u->upd H l (.lst []) c=some u:=fun l hl c u e=>by rw[aA (aB e hl)];exact e
 exact hto _ ⟨.inr (.inr (.inl ⟨rfl,.inr ⟨_,G.root⟩⟩)),htk _ ⟨OP _,fun l hl=>⟨a,b,k,.ref l,xs.kv,rfl,rfl,kl l hl _ _ hb,.inl (kl l hl _ _ G.root),by unfold DX.kv;rw[Ot,OG];lia,vm (mk:=.dT) (fun _ _ z=>HO.noConfusion z) G hl hte hw kk⟩⟩⟩
def DW (K:SG) (to tk te:TE):TE:=xS K "list" dD (xS K "dict" DP to (aj tk (aj (cJ aG) aG))) (aj te aG)
theorem Cz {K:SG}{to tk te:TE}{σ:L2.St}{H:Hp}{C:Hp->Prop}(G:DL .dK H a xs)(hto:Reads to σ H (.ref a))(htk:Reads tk σ H (.int i))
 (hte:∀ H',(∀ c u,H c=some u->c≠a->H' c=some u)->Makes te σ H' ws) (hz:xs.length<16000000) (hw:∀ x∈xs,x.2.2.length<16000000)
 (kk:∀(l p:Addr)(H':Hp),H l=none->H p=none->H' p=some (.tup ws)->DL .dK H' a (kf xs (.inl i) l (.ref p))->(∀ c u,H c=some u->¬ cE a xs c->H' c=some u)->C H') :
 DW K to tk te σ H fun _ H'=>C H':=by
 have kl:∀ l,H l=none->upd H l (.lst []) a=some (.dK xs.kv):=fun l hl=>by rw[aA (aB G.root hl)];exact G.root
 exact hto _ ⟨.inr (.inr (.inl ⟨rfl,.inl ⟨_,G.root⟩⟩)),htk _ ⟨OP _,fun l hl=>⟨a,.inl i,.ref l,xs.kv,rfl,rfl,.inl (kl l hl),by unfold DX.kv;rw[Ot,OG];lia,vm (mk:=.dK) (fun _ _ z=>HO.noConfusion z) G hl hte hw kk⟩⟩⟩
section
def DY:V->List V->Hp->VK->Prop:=fun x xs H Q=>∃ i,x=.int i/\xs=[]/\Q (.int (Builtin.Int.intBits i)) H
theorem CA:EH X "int.bit_length" DY:=by intro af s σ H x xs v us Q I rx rs q;obtain⟨i,rfl,rfl,q⟩:=q;obtain⟨t,rfl⟩:=rx;cases rs;exact call_int_bit_length ⟨.int _,H,I.tok _,⟨_,rfl⟩,q⟩
end
structure GA (C:Addr) (H:Hp) (q ap:Addr) (last:Int) (xs:DX bG):Prop where
 ins:∃ dx,H q=some (.ins C dx [("last",.int last),("piles",.ref ap)])
 aN:DL .dK H ap xs
 kN:xs.length<16000000
 low:∀ x∈xs,x.2.2.length<16000000
structure qx (K:SG) (C:Addr):Prop where
 cl:qz K C
 nl:NoAttr K C "last"
 np:NoAttr K C "piles"
noncomputable def aF (price last:Int):Int:=Builtin.Int.intBits (Builtin.bitXor price last)
def HP (K:SG):TE:=DW K (dR K (au 0) "piles") (B0 K "int" DY (aZ (qC fun i j=>.int (Builtin.bitXor i j)) (au 1) (dR K (au 0) "last"))) (cf (aj (au 1) (aj (au 2) aG)))
theorem Fe {K:SG}{C q ap b:Addr}{H:Hp}{Cn:Hp->Prop}(T:qx K C)(G:GA C H q ap last xs)(h0:σ[0]?=some (some (.ref q)))(h1:σ[1]?=some (some (.int price)))(h2:σ[2]?=some (some (.ref b)))
 (kk:∀(l p:Addr)(H':Hp),H l=none->H p=none->H' p=some (.tup [.int price,.ref b])->(∃ dx,H' q=some (.ins C dx [("last",.int last),("piles",.ref ap)]))->DL .dK H' ap (kf xs (.inl (aF price last)) l (.ref p))->(∀ c u,H c=some u->¬ cE ap xs c->H' c=some u)->Cn H') :
 HP K σ H fun _ H'=>Cn H':=by
 obtain⟨dx,hq⟩:=G.ins;have nq:¬ cE ap xs q:=fun z=>by
  rcases z with z|⟨x,hx,z⟩
  .have:=G.aN.root;rw[<- z,hq]at this;cases this
  .have:=G.aN.qt x hx;rw[<- z,hq]at this;cases this
 refine Cz (ws:=[.int price,.ref b]) (i:=aF price last) G.aN (fun Q h=>⟨_,h0,q,C,dx,_,_,rfl,hq,T.cl,T.np,rfl,h⟩) (fun Q h=>?_) (fun H' _ Q h=>⟨_,h1,_,h2,(by show 2<=sizeLine;decide),h⟩) G.kN G.low fun l p H' hl hp hm hd kp=>kk l p H' hl hp hm ⟨dx,kp _ _ hq nq⟩ hd kp;exact⟨_,h1,_,h0,q,C,dx,_,_,rfl,hq,T.cl,T.nl,rfl,_,_,rfl,rfl,rfl,_,rfl,rfl,h⟩
inductive o_ (C:Addr):Sp
 |mk {q ap b:Addr} {last price:Int} {xs:DX bG} {H:Hp} {Q:VK} {E:XK} (G:GA C H q ap last xs) (k:∀(l p:Addr)(H':Hp),H l=none->H p=none->H' p=some (.tup [.int price,.ref b])->(∃ dx,H' q=some (.ins C dx [("last",.int last),("piles",.ref ap)]))->DL .dK H' ap (kf xs (.inl (aF price last)) l (.ref p))->(∀ c u,H c=some u->¬ cE ap xs c->H' c=some u)->Q .bC H'):o_ C [.ref q,.int price,.ref b] H Q E
theorem wV (h:o_ C vs H Q E):vs.length=3:=by cases h;rfl
theorem zq {K:SG}{C:Addr}{vs:List V}(T:qx K C)(h:o_ C vs H Q E)(hN:N.length=3):cw (HP K) (eQ Q) (bj N vs) H:=by obtain⟨G,k⟩:=h;exact Fe T G rfl rfl rfl k
section
variable {κ:Type}[DecidableEq κ]{mk:List (κ×V)->HO}{H H':Hp}{a:Addr}{xs:DX κ}{k:κ}{p:Addr×List V}
noncomputable def jF (xs:DX κ)(k:κ):DX κ:=xs.filter fun x=>decide (x.1≠k)
theorem zr (xs:DX κ)(k:κ):(jF xs k).kv=iZ xs.kv k:=by unfold jF iZ DX.kv;rw[List.filter_map];rfl
theorem DL.drop (hmk:∀ q ws,mk q≠.lst ws)(G:DL mk H a xs)(hk:fH xs k=some p)(ha:H' a=some (mk (iZ xs.kv k)))(kp:∀ c u,H c=some u->c≠a->H' c=some u) :
 DL mk H' a (jF xs k)/\H' p.1=some (.lst p.2)/\¬ cE a (jF xs k) p.1:=by
 have hp:=c_ hk;have nap:∀ x∈xs,x.2.1≠a:=fun x hx e=>by have:=G.qt x hx;rw[e,G.root]at this;exact hmk _ _ (OW this)
 have sub:(jF xs k).Sublist xs:=List.filter_sublist;refine⟨⟨by rw[zr];exact ha,fun x hx=>?_,(sub.map _).nodup G.nk,(sub.map _).nodup G.na⟩,kp _ _ (G.qt _ hp) (nap _ hp),fun z=>?_⟩
 .have hx':=(Pa.mp hx).1;exact kp _ _ (G.qt x hx') (nap x hx')
 .rcases z with z|⟨x,hx,z⟩
  .exact nap _ hp z
  .obtain⟨h1,h2⟩:=Pa.mp hx;have hne:x.1≠k:=O2 h2;obtain⟨i,hi⟩:=OS.mp h1;obtain⟨j,hj⟩:=OS.mp hp;have e1:(xs.map (·.2.1))[i]?=some p.1:=by grind
   have e2:(xs.map (·.2.1))[j]?=some p.1:=by grind
   have:i=j:=(Sr (Ov.mp e1).1 G.na).mp (e1.trans e2.symm);subst this;rw[hi]at hj;exact hne (by grind)
end
end L4
namespace L4
open PySem PySem.Spec PySem.Calls PyProof.Rows L2 L3
section
abbrev rR (v d:Addr):HO:=.ext fun h=>PySem.W.KdlKeysView h v d
def DZ:V->List V->Hp->VK->Prop:=fun x xs H Q=>∃ a kvs,x=.ref a/\xs=[]/\H a=some (.dK kvs)/\∀ v,H v=none->Q (.ref v) (upd H v (rR v a))
theorem CB:EH X "dict.keys" DZ:=by intro af s σ H x xs v us Q I rx rs q;obtain⟨a,kvs,rfl,rfl,ha,q⟩:=q;obtain rfl:v=Value.ref a:=rx;cases rs;obtain⟨z,hd,vs,rel,dd⟩:=qR I.aX ha;refine Rk PySem.F.slot_dict_keys dd.typeIs PySem.F.entry_dict_keys (PySem.F.args_dict_keys_1 _) (PySem.W.kdl_meets_keys (aS X.prog X.w) a hd) ?_;have hv:PySem.W.KdlKeysView (s.heap.push { cls:=.type "dict_keys",data:=.fields #[.ref a] }) s.heap.objs.size a:=⟨_,Oz _ rfl,rfl,rfl⟩;exact⟨⟨vs,dd⟩,.ref s.heap.objs.size,_,I.laid (a:=s.heap.objs.size) (o:=rR s.heap.objs.size a) (t':=s.toks) (fun _ _ e=>Oo _ e) (Oq _) ⟨hv,⟨_,Oz _ rfl⟩,fun h1 h2 ⟨o,ho,r⟩ k=>⟨o,k _ ho,r⟩⟩,rfl,q _ (I.aX.fresh (Oq _))⟩
def D0:List V->Hp->VK->Prop:=fun xs H Q=>∃(v a:Addr)(kvs:List (bG×V))(ns:List Int),xs=[.ref v]/\H v=some (rR v a)/\H a=some (.dK kvs)/\kvs.map (·.1)=ns.map Sum.inl/\ns≠[]/\Q (.int (pM ns)) H
theorem wW (hc:X.calm=true):bQ X (.builtin "min") D0:=by
 intro af s σ H xs us Q I r q;obtain⟨v,a,kvs,ns,rfl,hv,ha,hk,hne,q⟩:=q;obtain⟨u,rfl,ru⟩:=dm r;obtain rfl:u=Value.ref v:=ru;obtain⟨z,hd,vs,rel,dd⟩:=qR I.aX ha;obtain⟨hv',_,_⟩:=(show ObjOk X.prog X.w H s.heap v (rR v a) from I.aX v _ hv);obtain⟨ep,da⟩:=dd.dictAt;have hl:=rel.length;have hkn:kvs.length=ns.length:=by have:=PJ List.length hk;simpa using this
 have hvk:∀(i:Nat)(k:bG)(x:SI),vs[i]?=some (k,x)->∃ n,ns[i]?=some n/\k=.inl n:=fun i k x e=>by
  have hi:i<kvs.length:=by rw[hl];exact(Ov.mp e).1
  obtain⟨e1,_⟩:=rel.at i _ _ (Ou hi) e;have e2:(kvs.map (·.1))[i]?=some k:=by rw[OD,Ou hi];exact PJ some e1
  rw[hk,OD]at e2;obtain⟨n,h1,h2⟩:=Pd.mp e2;exact⟨n,h1,h2.symm⟩
 generalize hps:(ns.map fun n=>(n,(0:Tok))).toArray=ps;have hsz:ps.size=ns.length:=by rw[<- hps];simp
 have hna:∀(i:Nat)(n:Int),ns[i]?=some n->numAt ps i=n:=fun i n e=>by unfold numAt;rw[<- hps];simp[e]
 have hpn:ps.toList.map (·.1)=ns:=by rw[<- hps];simp[Function.comp_def]
 have hpos:0<ns.length:=R7.mpr hne;have hne2:a≠s.heap.objs.size:=by obtain⟨o,_,_,ho,_⟩:=dd;exact OQ (Oy ho)
 refine call_min_walk (PySem.W.kdl_pyIter_keys (knd:=aS X.prog X.w) (s:=s) hv' da ?_);refine⟨_,_,_,_,_,_,_,rfl,Walks.dictKeys (knd:=aS X.prog X.w) (A:=X.A.in1) (I.ok.hd hc) s.heap.objs.size a hne2 vs ep,⟨⟨_,Oz _ rfl,rfl,rfl⟩,da.at' fun o e=>Oo _ e⟩,fun b hb=>?_,by lia,CmpOf.ints_lt (numAt ps) (fun i v hv=>?_),fun v h' tk hP kp=>?_⟩
 .simp only[OC,OH,Sv]at hb;rw[QC];rcases hb with rfl|rfl
  .exact P_ _
  .obtain⟨o,_,_,ho,_⟩:=dd;exact QG (Oy ho)
 .obtain⟨k,x,e1,e2⟩:=hv;obtain⟨n,e3,rfl⟩:=hvk i k x e1;obtain⟨j,t,e4,rfl⟩|⟨j,t,e4,_⟩:=bB (show iX (.inl n) v=true from e2)
  .cases e4;exact⟨t,by rw[hna i n e3]⟩
  .cases e4
 .obtain⟨k,x,e1,e2⟩:=hP;obtain⟨n,e3,rfl⟩:=hvk _ k x e1;obtain⟨j,t,e4,rfl⟩|⟨j,t,e4,_⟩:=bB (show iX (.inl n) v=true from e2)
  .cases e4;have hb:=ml ps (vs.length-1) (by lia);rw[hna _ n e3,hpn,Pe (by lia)]at hb;exact⟨.int n,H,I.kept (t':=tk) fun b o e=>kp b o (fun hm=>by rw[OI]at hm;subst hm;exact Qe _ (Oy e)) (Oo _ e),⟨t,rfl⟩,by rw[hb];exact q⟩
  .cases e4
end
end L4
namespace L4
open PySem PySem.Spec PyProof.Rows L2 L3
inductive bc {α β:Type} (R:α->β->Prop):List α->List β->Prop where
 |nil:bc R [] []
 |cons {x y xs ys}:R x y->bc R xs ys->bc R (x::xs) (y::ys)
section
variable {α β:Type}{R R':α->β->Prop}
theorem bc.len (h:bc R xs ys):xs.length=ys.length:=by
 induction h with
 |nil=>rfl
 |cons _ _ ih=>rw[OJ,OJ,ih]
theorem bc.mono (f:∀ x y,R x y->R' x y)(h:bc R xs ys):bc R' xs ys:=by
 induction h with
 |nil=>exact .nil
 |cons a _ ih=>exact .cons (f _ _ a) ih
theorem bc.snoc (h:bc R xs ys)(r:R x y):bc R (xs++[x]) (ys++[y]):=by
 induction h with
 |nil=>exact .cons r .nil
 |cons a _ ih=>exact .cons a ih
theorem bc.get (h:bc R xs ys){i:Nat}(e:ys[i]?=some y):∃ x,xs[i]?=some x/\R x y:=by
 induction h generalizing i with
 |nil=>simp at e
 |cons a _ ih=>
  cases i with
  |zero=>simp at e;subst e;exact⟨_,rfl,a⟩
  |succ i=>simp at e;obtain⟨x,e1,e2⟩:=ih e;exact⟨x,by simpa using e1,e2⟩
theorem bc.JD {γ δ:Type}{T:γ->δ->Prop}(f:α->γ)(g:β->δ)(k:∀ x y,R x y->T (f x) (g y))(h:bc R xs ys):bc T (xs.map f) (ys.map g):=by
 induction h with
 |nil=>exact .nil
 |cons a _ ih=>exact .cons (k _ _ a) ih
end
def KT (H H':Hp):Prop:=∀ a ws,H a=some (.tup ws)->H' a=some (.tup ws)
section
variable {κ κ' α:Type}[DecidableEq κ][DecidableEq κ'](key:κ->κ')(it:Hp->α->V->Prop)
abbrev RepM (H:Hp)(d:Pz.MD κ α)(xs:DX κ'):Prop:=bc (fun x y=>y.1=key x.1/\bc (it H) x.2 y.2.2) d xs
variable {key it}
theorem RepM.keep (hm:∀ a v,it H a v->it H' a v)(h:RepM key it H d xs):RepM key it H' d xs:=h.mono fun _ _ ⟨e,a⟩=>⟨e,a.mono hm⟩
theorem RepM.find (inj:∀ a b,key a=key b->a=b)(h:RepM key it H d xs)(k:κ) :
 (fH xs (key k)=none/\d.has k=false/\d.get k=[])\/∃ p,fH xs (key k)=some p/\d.has k=true/\bc (it H) (d.get k) p.2:=by
 induction h with
 |nil=>exact .inl ⟨rfl,rfl,rfl⟩
 | @cons x y d xs r _ ih=>
  unfold fH at ih ⊢;unfold Pz.MD.has at ih ⊢;rw[Qu,Pz.cZ,Q0];by_cases e:x.1=k
  .right;have:y.1=key k:=by rw[r.1,e]
   rw[OO this,OO e,OK e];exact⟨y.2,rfl,rfl,r.2⟩
  .have:¬ y.1=key k:=fun z=>e (inj _ _ (r.1.symm.trans z));rw[OZ this,OZ e,OL e,Bool.false_or];exact ih
theorem RepM.add (inj:∀ a b,key a=key b->a=b)(hm:∀ a v,it H a v->it H' a v)(h:RepM key it H d xs)(hv:it H' v (.ref p)):RepM key it H' (d.app k v) (kf xs (key k) l (.ref p)):=by
 have h':=h.keep hm;unfold Pz.MD.app kf;rcases h.find inj k with⟨e1,e2,_⟩|⟨q,e1,e2,_⟩
 .rw[e1,e2];exact h'.snoc ⟨rfl,.cons hv .nil⟩
 .rw[e1,e2];refine h'.JD _ _ fun x y ⟨r1,r2⟩=>?_;by_cases e:x.1=k
  .have:y.1=key k:=by rw[r1,e]
   rw[OK e,OK this];exact⟨r1,r2.snoc hv⟩
  .grind
theorem RepM.drop (inj:∀ a b,key a=key b->a=b)(h:RepM key it H d xs)(k:κ):RepM key it H (d.drop k) (jF xs (key k)):=by
 induction h with
 |nil=>exact .nil
 | @cons x y d xs r _ ih=>
  unfold Pz.MD.drop jF at ih ⊢;by_cases e:x.1=k
  .have:y.1=key k:=by rw[r.1,e]
   rw[QN (by simpa using e),QN (by simpa using this)];exact ih
  .have:¬ y.1=key k:=fun z=>e (inj _ _ (r.1.symm.trans z));rw[QO (by simpa using e),QO (by simpa using this)];exact .cons r ih
theorem RepM.keys (h:RepM key it H d xs):xs.map (·.1)=d.keys.map key:=by
 induction h with
 |nil=>rfl
 |cons r _ ih=>grind
theorem RepM.low (h:RepM key it H d xs)(hn:d.flat.length<n):∀ x∈xs,x.2.2.length<n:=by
 induction h with
 |nil=>exact fun _ h=>(OH h).elim
 | @cons x y d xs r _ ih=>
  unfold Pz.MD.flat at hn ih;rw[Q2,OF]at hn;intro z hz;rcases OC.mp hz with rfl|hz
  .have:=r.2.len;lia
  .exact ih (by lia) z hz
end
noncomputable def vO:Option Int->V
 |none=>.bC
 |some i=>.int i
noncomputable def gk (a:Pz.Arr):List V:=[.int a.1,.int a.2.1,.int a.2.2]
def IsArr (H:Hp)(a:Pz.Arr)(v:V):Prop:=∃ p,v=.ref p/\H p=some (.tup (gk a))
def IsRule (H:Hp)(r:Pz.Rule)(v:V):Prop:=∃ p q,v=.ref p/\H p=some (.tup [.int r.1,.int r.2.1,.int r.2.2.1,.ref q])/\H q=some (.tup (r.2.2.2.map .int))
def IsVal (H:Hp)(x:Pz.mG)(v:V):Prop:=∃ p,v=.ref p/\H p=some (.tup [.int x.1,vO x.2.1,vO x.2.2])
def IsItem (H:Hp)(x:Int×Pz.Arr)(v:V):Prop:=∃ p w,v=.ref p/\H p=some (.tup [.int x.1,w])/\IsArr H x.2 w
def IsSet (H:Hp)(x:Int×Int)(v:V):Prop:=∃ p,v=.ref p/\H p=some (.tup [.int x.1,.int x.2])
def IsLack (H:Hp)(x:Int×Pz.Rule×Int)(v:V):Prop:=∃ p w,v=.ref p/\H p=some (.tup [.int x.1,w,.int x.2.2])/\IsRule H x.2.1 w
def IsNum (H:Hp)(x:Int×Pz.Rule)(v:V):Prop:=∃ p w,v=.ref p/\H p=some (.tup [.int x.1,w])/\IsRule H x.2 w
section
variable (k:KT H H')
include k
theorem IsArr.keep (a:Pz.Arr)(v:V):IsArr H a v->IsArr H' a v:=fun⟨p,e,h⟩=>⟨p,e,k _ _ h⟩
theorem IsRule.keep (a:Pz.Rule)(v:V):IsRule H a v->IsRule H' a v:=fun⟨p,q,e,h,g⟩=>⟨p,q,e,k _ _ h,k _ _ g⟩
theorem IsVal.keep (a:Pz.mG)(v:V):IsVal H a v->IsVal H' a v:=fun⟨p,e,h⟩=>⟨p,e,k _ _ h⟩
theorem IsItem.keep (a:Int×Pz.Arr)(v:V):IsItem H a v->IsItem H' a v:=fun⟨p,w,e,h,g⟩=>⟨p,w,e,k _ _ h,IsArr.keep k _ _ g⟩
theorem IsSet.keep (a:Int×Int)(v:V):IsSet H a v->IsSet H' a v:=fun⟨p,e,h⟩=>⟨p,e,k _ _ h⟩
theorem IsLack.keep (a:Int×Pz.Rule×Int)(v:V):IsLack H a v->IsLack H' a v:=fun⟨p,w,e,h,g⟩=>⟨p,w,e,k _ _ h,IsRule.keep k _ _ g⟩
theorem IsNum.keep (a:Int×Pz.Rule)(v:V):IsNum H a v->IsNum H' a v:=fun⟨p,w,e,h,g⟩=>⟨p,w,e,k _ _ h,IsRule.keep k _ _ g⟩
end
noncomputable def ak (a:Pz.Arr):List bG:=[.inl a.1,.inl a.2.1,.inl a.2.2]
theorem ub (a b:Pz.Arr)(h:ak a=ak b):a=b:=by grind [ak]
noncomputable def k2 (k:Int×Int):List bG:=[.inl k.1,.inl k.2]
theorem mL (a b:Int×Int)(h:k2 a=k2 b):a=b:=by grind [k2]
noncomputable def k1 (i:Int):bG:=.inl i
theorem kg (a b:Int)(h:k1 a=k1 b):a=b:=Sum.inl.inj h
abbrev RepT (H:Hp)(t:Pz.TD)(kt:List (List bG×V)):Prop:=bc (fun x y=>y.1=ak x.1/\IsVal H x.2 y.2) t kt
theorem RepT.keep (k:KT H H')(h:RepT H t kt):RepT H' t kt:=h.mono fun _ _ ⟨e,a⟩=>⟨e,IsVal.keep k _ _ a⟩
theorem RepT.find (h:RepT H t kt)(a:Pz.Arr) :
 (cz kt (ak a)=none/\Pz.bM t a=none)\/∃ v x,cz kt (ak a)=some v/\Pz.bM t a=some x/\IsVal H x v:=by
 induction h with
 |nil=>exact .inl ⟨rfl,rfl⟩
 | @cons x y t kt r _ ih=>
  rw[Pz.cV];by_cases e:x.1=a
  .have:y.1=ak a:=by rw[r.1,e]
   rw[OK e,dL this];exact .inr ⟨_,_,rfl,rfl,r.2⟩
  .have:¬ y.1=ak a:=fun z=>e (ub _ _ (r.1.symm.trans z));rw[OL e,dM this];exact ih
theorem RepT.put (h:RepT H t kt)(hv:IsVal H x v):RepT H (Pz.tput t a x) (ci kt (ak a) v):=by
 unfold Pz.tput ci;rw[gb];rcases h.find a with⟨e1,e2⟩|⟨w,y,e1,e2,_⟩
 .rw[e1,e2];exact h.snoc ⟨rfl,hv⟩
 .rw[e1,e2];refine h.JD _ _ fun z y ⟨r1,r2⟩=>?_;by_cases e:z.1=a
  .have:y.1=ak a:=by rw[r1,e]
   rw[OK e,OK this];exact⟨r1,hv⟩
  .have:¬ y.1=ak a:=fun q=>e (ub _ _ (r1.symm.trans q));rw[OL e,OL this];exact⟨r1,r2⟩
theorem iH {κ:Type}[DecidableEq κ]{xs:DX κ}{k:κ}{l a c:Addr}{v:V}(h:cE a (kf xs k l v) c):cE a xs c\/c=l:=by
 rcases h with h|⟨x,hx,h⟩
 .exact .inl (.inl h)
 .unfold kf at hx;split at hx
  .obtain⟨y,hy,rfl⟩:=OB.mp hx;refine .inl (.inr ⟨y,hy,?_⟩);rw[h];split<;>rfl
  .rcases OX.mp hx with hx|hx
   .exact .inl (.inr ⟨x,hx,h⟩)
   .rw[OI]at hx;subst hx;exact .inr h
section
variable {κ κ' α:Type}[DecidableEq κ][DecidableEq κ'](mk:List (κ'×V)->HO)(key:κ->κ')(it:Hp->α->V->Prop)
structure PM (col:Addr->Nat) (j:Nat) (B H:Hp) (a:Addr) (dd:Pz.MD κ α) (xs:DX κ'):Prop where
 d:DL mk H a xs
 r:RepM key it H dd xs
 c:∀ c,cE a xs c->col c=j/\B c=none
variable {mk key it}{d:Pz.MD κ α}
theorem DL.obj (h:DL mk H a xs)(hc:cE a xs c):H c≠none:=by
 grind [DL,cE]
theorem DL.keep (h:DL mk H a xs)(kp:∀ c u,H c=some u->cE a xs c->H' c=some u):DL mk H' a xs:=⟨kp _ _ h.root (.inl rfl),fun x hx=>kp _ _ (h.qt x hx) (.inr ⟨x,hx,rfl⟩),h.nk,h.na⟩
theorem PM.keep (h:PM mk key it col j B H a d xs)(hit:∀ x v,it H x v->it H' x v)(kp:∀ c u,H c=some u->col c=j->H' c=some u)(hc:∀ c,H c≠none->col' c=col c):PM mk key it col' j B H' a d xs:=⟨h.d.keep fun c u e i=>kp c u e (h.c c i).1,h.r.keep hit,fun c i=>⟨by rw[hc c (h.d.obj i)];exact(h.c c i).1,(h.c c i).2⟩⟩
theorem DL.kt (hmk:∀ q ws,mk q≠.tup ws)(h:DL mk H a xs)(kp:∀ c u,H c=some u->¬ cE a xs c->H' c=some u):KT H H':=by
 grind [DL,cE,KT]
noncomputable def pW (col:Addr->Nat)(j:Nat)(H:Hp):Addr->Nat:=fun c=>open Classical in if H c=none then j else col c
theorem bE (hc:H a≠none):pW col j H a=col a:=by unfold pW;rw[OL hc]
theorem zt (hc:H a=none):pW col j H a=j:=by unfold pW;rw[OK hc]
theorem PM.new (h:PM mk key it col j B H a d xs)(sm:Same B H)(h1:DL mk H' a xs')(h2:RepM key it H' d' xs')(hn:∀ c,cE a xs' c->cE a xs c\/H c=none):PM mk key it (pW col j H) j B H' a d' xs':=
 ⟨h1,h2,fun c i=>by
   rcases hn c i with i|e
   .rw[bE (h.d.obj i)];exact h.c c i
   .exact⟨zt e,sm.free e⟩⟩
theorem PM.base (h:PM mk key it col j B H a d xs)(hb:∀ c,cE a xs c->B' c=none):PM mk key it col j B' H a d xs:=⟨h.d,h.r,fun c i=>⟨(h.c c i).1,hb c i⟩⟩
end
structure PA where
 o:Addr
 ta:Addr
 aq:Addr
 ap:Addr
 sa:Addr
 la:Addr
 ar:Addr
noncomputable def pf (A:PA):List (Str×V):=[("rules",.ref A.ar),("told",.ref A.ta),("offers",.ref A.aq),("settled",.ref A.sa),("lacking",.ref A.la)]
noncomputable abbrev qf (A:PA) (last:Int):List (Str×V):=[("last",.int last),("piles",.ref A.ap)]
structure PO (CP CQ:Addr) (col:Addr->Nat) (B H:Hp) (A:PA) (last:Int) (t:Pz.TD) (kt:List (List bG×V)):Prop where
 ins:∃ dx,H A.o=some (.ins CP dx (pf A))
 BE:∃ dx,H A.aq=some (.ins CQ dx (qf A last))
 td:H A.ta=some (.dT kt)
 tr:RepT H t kt
 c5:col A.ta=5/\B A.ta=none
 c6:col A.o=6/\B A.o=none
 c7:col A.aq=7/\B A.aq=none
structure bD (CP CQ:Addr) (B H:Hp) (A:PA) (rs:Pz.RS) (S:Pz.PS) (xs xl xr:DX (List bG)) (xp:DX bG) (kt:List (List bG×V)) (col:Addr->Nat):Prop where
 same:Same B H
 p1:PM .dK k1 IsItem col 1 B H A.ap S.aN xp
 p2:PM .dT k2 IsSet col 2 B H A.sa S.settled xs
 p3:PM .dT k2 IsLack col 3 B H A.la S.aR xl
 p4:PM .dT k2 IsNum col 4 B H A.ar rs xr
 po:PO CP CQ col B H A S.last S.told kt
def PAt (CP CQ:Addr)(B H:Hp)(A:PA)(rs:Pz.RS)(S:Pz.PS)(xs xl xr:DX (List bG)):Prop:=∃ xp kt col,bD CP CQ B H A rs S xs xl xr xp kt col
section
theorem PO.keep (h:PO CP CQ col B H A last t kt)(k:KT H H')(kp:∀ c u,H c=some u->5<=col c->col c<=7->H' c=some u)(hc:∀ c,H c≠none->col' c=col c):PO CP CQ col' B H' A last t kt:=by
 obtain⟨⟨dx,h1⟩,⟨dy,h2⟩,h3,h4,c5,c6,c7⟩:=h;refine⟨⟨dx,kp _ _ h1 (by lia) (by lia)⟩,⟨dy,kp _ _ h2 (by lia) (by lia)⟩,kp _ _ h3 (by lia) (by lia),h4.keep k,?_,?_,?_⟩
 .rw[hc _ (by grind)];exact c5
 .rw[hc _ (by grind)];exact c6
 .rw[hc _ (by grind)];exact c7
theorem bD.pile (h:bD CP CQ B H A rs S xs xl xr xp kt col)(h1:DL .dK H' A.ap xp')(h2:RepM k1 IsItem H' d' xp')(hn:∀ c,cE A.ap xp' c->cE A.ap xp c\/H c=none)
 (kp:∀ c u,H c=some u->¬ cE A.ap xp c->H' c=some u):bD CP CQ B H' A rs { S with aN:=d' } xs xl xr xp' kt (pW col 1 H):=by
 have k:KT H H':=h.p1.d.kt (fun _ _ z=>HO.noConfusion z) kp;have kj:∀ c u,H c=some u->col c≠1->H' c=some u:=fun c u e n=>kp c u e fun i=>n (h.p1.c c i).1;exact⟨(fun c u e=>kp c u (h.same c u e) fun i=>by rw[(h.p1.c c i).2]at e;cases e),h.p1.new h.same h1 h2 hn,h.p2.keep (IsSet.keep k) (fun c u e z=>kj c u e (by lia)) fun c=>bE,h.p3.keep (IsLack.keep k) (fun c u e z=>kj c u e (by lia)) fun c=>bE,h.p4.keep (IsNum.keep k) (fun c u e z=>kj c u e (by lia)) fun c=>bE,h.po.keep k (fun c u e z _=>kj c u e (by lia)) fun c=>bE⟩
theorem bD.LY (h:bD CP CQ B H A rs S xs xl xr xp kt col)(h1:DL .dT H' A.sa xs')(h2:RepM k2 IsSet H' d' xs')(hn:∀ c,cE A.sa xs' c->cE A.sa xs c\/H c=none)
 (kp:∀ c u,H c=some u->¬ cE A.sa xs c->H' c=some u):bD CP CQ B H' A rs { S with settled:=d' } xs' xl xr xp kt (pW col 2 H):=by
 have k:KT H H':=h.p2.d.kt (fun _ _ z=>HO.noConfusion z) kp;have kj:∀ c u,H c=some u->col c≠2->H' c=some u:=fun c u e n=>kp c u e fun i=>n (h.p2.c c i).1;exact⟨(fun c u e=>kp c u (h.same c u e) fun i=>by rw[(h.p2.c c i).2]at e;cases e),h.p1.keep (IsItem.keep k) (fun c u e z=>kj c u e (by lia)) fun c=>bE,h.p2.new h.same h1 h2 hn,h.p3.keep (IsLack.keep k) (fun c u e z=>kj c u e (by lia)) fun c=>bE,h.p4.keep (IsNum.keep k) (fun c u e z=>kj c u e (by lia)) fun c=>bE,h.po.keep k (fun c u e z _=>kj c u e (by lia)) fun c=>bE⟩
theorem bD.pT (h:bD CP CQ B H A rs S xs xl xr xp kt col)(h1:DL .dT H' A.la xl')(h2:RepM k2 IsLack H' d' xl')(hn:∀ c,cE A.la xl' c->cE A.la xl c\/H c=none)
 (kp:∀ c u,H c=some u->¬ cE A.la xl c->H' c=some u):bD CP CQ B H' A rs { S with aR:=d' } xs xl' xr xp kt (pW col 3 H):=by
 have k:KT H H':=h.p3.d.kt (fun _ _ z=>HO.noConfusion z) kp;have kj:∀ c u,H c=some u->col c≠3->H' c=some u:=fun c u e n=>kp c u e fun i=>n (h.p3.c c i).1;exact⟨(fun c u e=>kp c u (h.same c u e) fun i=>by rw[(h.p3.c c i).2]at e;cases e),h.p1.keep (IsItem.keep k) (fun c u e z=>kj c u e (by lia)) fun c=>bE,h.p2.keep (IsSet.keep k) (fun c u e z=>kj c u e (by lia)) fun c=>bE,h.p3.new h.same h1 h2 hn,h.p4.keep (IsNum.keep k) (fun c u e z=>kj c u e (by lia)) fun c=>bE,h.po.keep k (fun c u e z _=>kj c u e (by lia)) fun c=>bE⟩
theorem bD.more (h:bD CP CQ B H A rs S xs xl xr xp kt col)(s:Same H H'):bD CP CQ B H' A rs S xs xl xr xp kt col:=by have k:KT H H':=fun a ws e=>s a _ e;exact⟨h.same.trans s,h.p1.keep (IsItem.keep k) (fun c u e _=>s c u e) fun _ _=>rfl,h.p2.keep (IsSet.keep k) (fun c u e _=>s c u e) fun _ _=>rfl,h.p3.keep (IsLack.keep k) (fun c u e _=>s c u e) fun _ _=>rfl,h.p4.keep (IsNum.keep k) (fun c u e _=>s c u e) fun _ _=>rfl,h.po.keep k (fun c u e _ _=>s c u e) fun _ _=>rfl⟩
theorem PAt.more (h:PAt CP CQ B H A rs S xs xl xr)(s:Same H H'):PAt CP CQ B H' A rs S xs xl xr:=let ⟨xp,kt,col,h⟩:=h;⟨xp,kt,col,h.more s⟩
theorem bD.tell (h:bD CP CQ B H A rs S xs xl xr xp kt col)(hp:H p=some (.tup [.int x.1,vO x.2.1,vO x.2.2])) :
 bD CP CQ B (upd H A.ta (.dT (ci kt (ak a) (.ref p)))) A rs { S with told:=Pz.tput S.told a x } xs xl xr xp (ci kt (ak a) (.ref p)) col:=by
 have kp:∀ c u,H c=some u->col c≠5->upd H A.ta (.dT (ci kt (ak a) (.ref p))) c=some u:=fun c u e n=>by rw[aA (fun z=>n (by rw[z];exact h.po.c5.1))];exact e
 have k:KT H (upd H A.ta (.dT (ci kt (ak a) (.ref p)))):=fun c ws e=>by rw[aA (fun z=>by rw[z,h.po.td]at e;cases e)];exact e
 obtain⟨⟨dx,h1⟩,⟨dy,h2⟩,h3,h4,c5,c6,c7⟩:=h.po;refine⟨fun c u e=>?_,h.p1.keep (IsItem.keep k) (fun c u e z=>kp c u e (by lia)) fun _ _=>rfl,h.p2.keep (IsSet.keep k) (fun c u e z=>kp c u e (by lia)) fun _ _=>rfl,h.p3.keep (IsLack.keep k) (fun c u e z=>kp c u e (by lia)) fun _ _=>rfl,h.p4.keep (IsNum.keep k) (fun c u e z=>kp c u e (by lia)) fun _ _=>rfl,⟨dx,kp _ _ h1 (by lia)⟩,⟨dy,kp _ _ h2 (by lia)⟩,ao,(h4.keep k).put ⟨p,rfl,k _ _ hp⟩,c5,c6,c7⟩;rw[aA (fun z=>by grind)];exact h.same c u e
theorem bD.wide (h:bD CP CQ B H A rs S xs xl xr xp kt col)(Z:Addr->Prop)(hz:∀ c,Z c->¬ cE A.ap xp c/\¬ cE A.sa xs c/\¬ cE A.la xl c/\¬ cE A.ar xr c/\c≠A.ta/\c≠A.o/\c≠A.aq) :
 ∃ B',Same B B'/\KT H B'/\(∀ c u,Z c->H c=some u->B' c=some u)/\bD CP CQ B' H A rs S xs xl xr xp kt col:=by
 classical
 refine⟨fun c=>if B c≠none\/Z c\/∃ ws,H c=some (.tup ws) then H c else none,fun c u e=>?_,fun c ws e=>?_,fun c u z e=>?_,fun c u e=>?_,h.p1.base fun c i=>?_,h.p2.base fun c i=>?_,h.p3.base fun c i=>?_,h.p4.base fun c i=>?_,h.po.ins,h.po.BE,h.po.td,h.po.tr,⟨h.po.c5.1,?_⟩,⟨h.po.c6.1,?_⟩,⟨h.po.c7.1,?_⟩⟩
 .dsimp only;rw[OK (.inl (by grind))];exact h.same c u e
 .dsimp only;rw[OK (.inr (.inr ⟨ws,e⟩))];exact e
 .dsimp only;rw[OK (.inr (.inl z))];exact e
 .split at e
  .exact e
  .cases e
 all_goals
  refine OL fun q=>?_
 .rcases q with q|q|⟨ws,q⟩
  .exact q (h.p1.c c i).2
  .exact(hz c q).1 i
  .rcases i with rfl|⟨x,hx,rfl⟩
   .rw[h.p1.d.root]at q;cases q
   .rw[h.p1.d.qt x hx]at q;cases q
 .rcases q with q|q|⟨ws,q⟩
  .exact q (h.p2.c c i).2
  .exact(hz c q).2.1 i
  .rcases i with rfl|⟨x,hx,rfl⟩
   .rw[h.p2.d.root]at q;cases q
   .rw[h.p2.d.qt x hx]at q;cases q
 .rcases q with q|q|⟨ws,q⟩
  .exact q (h.p3.c c i).2
  .exact(hz c q).2.2.1 i
  .rcases i with rfl|⟨x,hx,rfl⟩
   .rw[h.p3.d.root]at q;cases q
   .rw[h.p3.d.qt x hx]at q;cases q
 .rcases q with q|q|⟨ws,q⟩
  .exact q (h.p4.c c i).2
  .exact(hz c q).2.2.2.1 i
  .rcases i with rfl|⟨x,hx,rfl⟩
   .rw[h.p4.d.root]at q;cases q
   .rw[h.p4.d.qt x hx]at q;cases q
 .rcases q with q|q|⟨ws,q⟩
  .exact q h.po.c5.2
  .exact(hz _ q).2.2.2.2.1 rfl
  .rw[h.po.td]at q;cases q
 .rcases q with q|q|⟨ws,q⟩
  .exact q h.po.c6.2
  .exact(hz _ q).2.2.2.2.2.1 rfl
  .obtain⟨dx,e⟩:=h.po.ins;rw[e]at q;cases q
 .rcases q with q|q|⟨ws,q⟩
  .exact q h.po.c7.2
  .exact(hz _ q).2.2.2.2.2.2 rfl
  .obtain⟨dx,e⟩:=h.po.BE;rw[e]at q;cases q
theorem PAt.less (h:PAt CP CQ B' H A rs S xs xl xr)(s:Same B B'):PAt CP CQ B H A rs S xs xl xr:=by obtain⟨xp,kt,col,h⟩:=h;refine⟨xp,kt,col,s.trans h.same,h.p1.base fun c i=>s.free (h.p1.c c i).2,h.p2.base fun c i=>s.free (h.p2.c c i).2,h.p3.base fun c i=>s.free (h.p3.c c i).2,h.p4.base fun c i=>s.free (h.p4.c c i).2,h.po.ins,h.po.BE,h.po.td,h.po.tr,⟨h.po.c5.1,s.free h.po.c5.2⟩,⟨h.po.c6.1,s.free h.po.c6.2⟩,⟨h.po.c7.1,s.free h.po.c7.2⟩⟩
theorem PAt.same (h:PAt CP CQ B H A rs S xs xl xr):Same B H:=let ⟨_,_,_,h⟩:=h;h.same
end
theorem CC (x y:Nat):Builtin.bitXor (x:Int) (y:Int)=(((x ||| y)-(x &&& y):Nat):Int):=by
 have n1:∀ z:Nat,decide (0<=Builtin.bitNot (z:Int))=false:=fun z=>OZ (by unfold Builtin.bitNot;lia);have n2:∀ z:Nat,(Builtin.bitNot (Builtin.bitNot (z:Int))).toNat=z:=fun z=>by unfold Builtin.bitNot;lia
 have p1:∀ z:Nat,decide (0<=(z:Int))=true:=fun z=>OO (by lia);have eA:Builtin.bitAnd (x:Int) (y:Int)=((x &&& y:Nat):Int):=by unfold Builtin.bitAnd;rw[p1,p1];rfl
 have eO:Builtin.bitOr (x:Int) (y:Int)=((x ||| y:Nat):Int):=by unfold Builtin.bitOr Builtin.bitAnd;rw[n1,n1];show Builtin.bitNot (Builtin.bitNot (((Builtin.bitNot (Builtin.bitNot (x:Int))).toNat ||| (Builtin.bitNot (Builtin.bitNot (y:Int))).toNat:Nat):Int))=_;rw[n2,n2];unfold Builtin.bitNot;lia
 unfold Builtin.bitXor;rw[eA,eO];have:x &&& y<=x ||| y:=OR Nat.and_le_left Nat.left_le_or;lia
theorem vn:Pz.qv aF:=by
 have key:∀{p l:Int},0<=p->0<=l->∃ z:Nat,aF p l=(z:Int)/\∀ k:Nat,z<=k↔p / 2 ^ k=l / 2 ^ k:=by
  intro p l hp hl;obtain⟨x,rfl⟩:=Pu hp;obtain⟨y,rfl⟩:=Pu hl;refine⟨_,rfl,fun k=>?_⟩;rw[CC];unfold Builtin.Int.intBits;rw[Pz.Cy,Pz.Cw];have e:∀ z:Nat,(z:Int) / 2 ^ k=((z / 2 ^ k:Nat):Int):=fun z=>by rw[Int.natCast_ediv];norm_cast
  rw[e,e];lia
 constructor
 .intro p l hp hl;obtain⟨z,e,_⟩:=key hp hl;rw[e];lia
 .intro p l hp hl k;obtain⟨z,e,h⟩:=key hp hl;rw[e,<- h k];lia
section
variable {K:SG}{C q ap:Addr}{H:Hp}{last:Int}
inductive jU (C:Addr):Sp
 |mk {q dx:Addr} {H:Hp} {Q:VK} {E:XK} (hq:H q=some (.ins C dx [])) (k:∀(d:Addr)(H':Hp),H d=none->H' q=some (.ins C dx [("last",.int 0),("piles",.ref d)])->H' d=some (.dK [])->(∀ b o,H b=some o->b≠q->H' b=some o)->Q .bC H'):jU C [.ref q] H Q E
def Ff (K:SG):TS:=aP (pk K (au 0) (tC (.int 0)) "last") (pk K (au 0) ti "piles")
theorem rS (h:jU C vs H Q E):vs.length=1:=by cases h;rfl
theorem uc (T:qx K C)(h:jU C vs H Q E):Ff K (eQ Q) (bj N vs) H:=by
 obtain @⟨q,dx,_,_,_,hq,k⟩:=h;refine⟨_,rfl,q,C,dx,[],rfl,hq,T.cl,T.nl,(by show 0<1000;decide),?_⟩;intro d hd;have hdq:d≠q:=fun e=>by rw[e,ao]at hd;cases hd
 have hd0:H d=none:=by rw[aA hdq]at hd;exact hd
 refine⟨_,rfl,q,C,dx,_,rfl,(by rw[aA (Pw hdq),ao]),T.cl,T.np,(by show 1<1000;decide),?_⟩;refine k d _ hd0 (by rw[ao];rfl) (by rw[aA hdq,ao]) fun b o e hb=>?_;rw[aA hb,aA (aB e hd0),aA hb];exact e
inductive jS (C:Addr):Sp
 |mk {q ap dx:Addr} {last:Int} {kvs:List (bG×V)} {H:Hp} {Q:VK} {E:XK} (hq:H q=some (.ins C dx [("last",.int last),("piles",.ref ap)])) (ha:H ap=some (.dK kvs)) (hl:kvs.length<=sizeLine) (k:Q (.bl (decide (kvs.length=0))) H):jS C [.ref q] H Q E
def D3:List V->Hp->VK->Prop:=fun xs H Q=>∃(d:Addr)(kvs:List (bG×V))(u:HO),xs=[.ref d]/\(u=.dK kvs\/(u=.dT []/\kvs=[]))/\Rd H d u/\kvs.length<=sizeLine/\Q (.int kvs.length) H
theorem wY:bQ X (.builtin "len") D3:=wI
def Fg (K:SG):TS:=bU (aZ ou (gS D3 (aj (dR K (au 0) "piles") aG)) (tC (.int 0)))
theorem rT (h:jS C vs H Q E):vs.length=1:=by cases h;rfl
theorem ud (T:qx K C)(h:jS C vs H Q E):Fg K (eQ Q) (bj N vs) H:=by
 obtain @⟨q,ap,dx,last,kvs,_,_,_,hq,ha,hl,k⟩:=h;refine⟨_,rfl,q,C,dx,_,_,rfl,hq,T.cl,T.np,rfl,ap,kvs,_,rfl,.inl rfl,.inl ha,hl,rfl,?_⟩;have:decide (V.int (kvs.length:Int)=V.int 0)=decide (kvs.length=0):=by apply decide_eq_decide.mpr;exact⟨fun e=>by injection e with e;lia,fun e=>by rw[e];rfl⟩
 rw[this];exact k
def KH (C q ap:Addr)(d:Pz.Q Pz.Arr)(xp:DX bG)(H:Hp)(Q:VK):Prop:=∀(l:Addr)(vs':List V)(xp':DX bG)(H':Hp),GA C H' q ap (Pz.lowP d) xp'->RepM k1 IsItem H' (Pz.left aF d) xp'->H' l=some (.lst vs')->bc (IsItem H') (Pz.c9 aF d) vs'->¬ cE ap xp' l->(cE ap xp l\/H l=none)->(∀ c,cE ap xp' c->cE ap xp c\/H c=none)->
 (∀ c u,H c=some u->¬ cE ap xp c->c≠q->H' c=some u)->Q (.ref l) H'
inductive nG (C:Addr):Sp
 |mk {q ap:Addr} {last:Int} {xp:DX bG} {d:Pz.Q Pz.Arr} {H:Hp} {Q:VK} {E:XK} (G:GA C H q ap last xp) (R:RepM k1 IsItem H d xp) (ok:Pz.sL aF last d) (hne:d≠[]) (hfew:d.flat.length<16000000)
  (k:KH C q ap d xp H Q):nG C [.ref q] H Q E
theorem uf (h:nG C vs H Q E):vs.length=1:=by cases h;rfl
def Fi (K:SG):TS:=bU (lR (dR K (au 0) "piles") (tC (.int 0)))
def HQ (C:Addr):TS:=cw (dZ C "add" (o_ C) [] E0 (au 0) (aj (au 2) (aj (au 3) aG)))
def KI (K:SG)(C:Addr):TS:=aP (f6 (cU K (au 1)) (dQ K 2 (be (aE 2) (be (aE 3) dP))) (HQ C)) (Fi K)
def HR (K:SG) (C:Addr) (tm:TE):TS:=aP (pk K (au 0) tm "last") (KI K C)
def D4 (K:SG) (C:Addr) (tm:TE):TS:=aP (bh (lR (dR K (au 0) "piles") (gS D0 (aj (B0 K "dict" DZ (dR K (au 0) "piles")) aG))) (aE 1)) (HR K C tm)
def Fj (tm:TE):Prop:=∀(σ:L2.St)(H:Hp)(a:Addr)(vs:List V)(its:List (Int×Pz.Arr))(Q:VK),σ[1]?=some (some (.ref a))->H a=some (.lst vs)->bc (IsItem H) its vs->its≠[]->its.length<16000000->(∀ H',Same H H'->Q (.int (Pz.lo (its.map (·.1)))) H')->tm σ H Q
theorem vq (l:List Int):pM l=Pz.lo l:=by cases l<;>rfl
theorem CD {κ:Type}(xs:DX κ):xs.kv.map (·.1)=xs.map (·.1):=by unfold DX.kv;rw[PN];rfl
theorem GA.ne (G:GA C H q ap last xp)(i:cE ap xp c):c≠q:=fun e=>by
 obtain⟨dx,hq⟩:=G.ins;rcases i with z|⟨x,hx,z⟩
 .have:=G.aN.root;rw[<- z,e,hq]at this;cases this
 .have:=G.aN.qt x hx;rw[<- z,e,hq]at this;cases this
end
section
variable {K:SG}{C q ap:Addr}{H:Hp}{last:Int}{xp:DX bG}
theorem kH (m:Int)(d:Pz.Q Pz.Arr)(l:List (Int×Pz.Arr))(x:Int×Pz.Arr):Pz.cG aF m d (l++[x])=(Pz.cG aF m d l).app (aF x.1 m) x:=by unfold Pz.cG;rw[QH];rfl
theorem pX (s:Same H H'):KT H H':=fun a ws e=>s a _ e
variable {D:Ends}{σ:L2.St}{d:Pz.Q Pz.Arr}{H0:Hp}{p:Addr×List V}{i:Nat}{xi:DX bG}
structure Ka (C q ap:Addr) (d:Pz.Q Pz.Arr) (H0:Hp) (xp:DX bG) (p:Addr×List V) (i:Nat) (H:Hp) (xi:DX bG):Prop where
 G:GA C H q ap (Pz.lowP d) xi
 R:RepM k1 IsItem H (Pz.cG aF (Pz.lowP d) (d.drop (Pz.ce d)) ((d.get (Pz.ce d)).take i)) xi
 l:H p.1=some (.lst p.2)
 n:¬ cE ap xi p.1
 a:bc (IsItem H) (d.get (Pz.ce d)) p.2
 sub:∀ c,cE ap xi c->cE ap xp c\/H0 c=none
 kp:∀ c u,H0 c=some u->¬ cE ap xp c->c≠q->H c=some u
def J2 (q:Addr)(l:Addr)(σ:L2.St):Prop:=∃ u v,σ=[some (.ref q),some (.ref l),u,v]
theorem M7 (I:Ka C q ap d H0 xp p i H xi)(hx:(d.get (Pz.ce d))[i]?=some x)(h:IsItem H x v)(hs:J2 q p.1 σ)(ok:(Pz.cG aF (Pz.lowP d) (d.drop (Pz.ce d)) ((d.get (Pz.ce d)).take (i+1))).Ok)(kN:(Pz.cG aF (Pz.lowP d) (d.drop (Pz.ce d)) ((d.get (Pz.ce d)).take (i+1))).flat.length<16000000)
 (k:∀ σ' H' xi',J2 q p.1 σ'->Ka C q ap d H0 xp p (i+1) H' xi'->D.nx σ' H'):dQ K 2 (be (aE 2) (be (aE 3) dP)) v σ H fun σ2 H2=>HQ C D σ2 H2:=by
 obtain⟨t,_,rfl,ht,b,rfl,hb⟩:=h;obtain⟨u,w,rfl⟩:=hs;refine ua ht (rQ (.va rfl) I.G.ins rfl (.c (.va rfl) (.c (.va rfl) .ni)) (.mk I.G fun l p' H6 hl hp' hm hq6 hD6 kp6=>?_));have kt6:KT H H6:=I.G.aN.kt (fun _ _ z=>HO.noConfusion z) kp6;rw[Pi,hx,show(some x).toList=[x] from rfl,kH]at ok kN;have R6:RepM k1 IsItem H6 _ (kf xi (.inl (aF x.1 (Pz.lowP d))) l (.ref p')):=I.R.add (k:=aF x.1 (Pz.lowP d)) kg (IsItem.keep kt6) ⟨p',_,rfl,hm,b,rfl,kt6 _ _ hb⟩;refine k _ H6 _ ⟨_,_,rfl⟩ ⟨⟨hq6,hD6,?_,R6.low kN⟩,?_,kp6 _ _ I.l I.n,fun z=>?_,I.a.mono (IsItem.keep kt6),fun c z=>?_,fun c u e n m=>?_⟩
 .have:=R6.len;have:=Pz.gC ok;exact Pp (by lia) kN
 .rw[Pi,hx,show(some x).toList=[x] from rfl,kH];exact R6
 .rcases iH z with z|z
  .exact I.n z
  .rw[<- z,I.l]at hl;cases hl
 .rcases iH z with z|rfl
  .exact I.sub c z
  .by_cases i':cE ap xp c
   .exact .inl i'
   .refine .inr ?_;cases e:H0 c with
    |none=>rfl
    |some u=>
     by_cases z:c=q
     .obtain⟨_,hq⟩:=I.G.ins;rw[z,hq]at hl;cases hl
     .rw[I.kp c u e i' z]at hl;cases hl
 .exact kp6 _ _ (I.kp c u e n m) fun z=>(I.sub c z).elim n fun z=>by rw[z]at e;cases e
theorem vt {κ:Type}[DecidableEq κ]{xs:DX κ}{k:κ}{a c:Addr}(i:cE a (jF xs k) c):cE a xs c:=i.imp id fun⟨x,hx,e⟩=>⟨x,(Pa.mp hx).1,e⟩
theorem M8 (T:qx K C)(TK:Pz.GJ aF last d)(hfew:d.flat.length<16000000)(I:Ka C q ap d H0 xp p p.2.length H xi)(hs:J2 q p.1 σ)
 (k:KH C q ap d xp H0 D.rt):Fi K D σ H:=by
 obtain⟨u,w,rfl⟩:=hs;have Ri:=I.R;rw[Pe (by rw[I.a.len];exact Oq _)]at Ri;have Ri:RepM k1 IsItem H (Pz.mid aF d) xi:=Ri;have ha:=I.G.aN.root;obtain⟨dy,hq⟩:=I.G.ins;rcases Ri.find kg 0 with⟨_,hh,_⟩|⟨p1,f1,_,a1⟩
 .have:=Pz.has_iff.mpr TK.k3;rw[hh]at this;cases this
 delta Fi bU lR
 refine Fd (.va rfl) I.G.ins T.cl T.np rfl ⟨ap,rfl,.inl ⟨_,.inl ha⟩,xi.kv,k1 0,.ref p1.1,ha,rfl,(by rw[jf,f1];rfl),?_⟩;generalize hH6:upd H ap (.dK (iZ xi.kv (k1 0)))=H6;have kp6:∀ c u,H c=some u->c≠ap->H6 c=some u:=fun c u e n=>by rw[<- hH6,aA n];exact e
 obtain⟨D6,l6,n6⟩:=I.G.aN.drop (fun _ _ z=>HO.noConfusion z) f1 (by rw[<- hH6,ao]) kp6;have kt6:KT H H6:=fun c ws e=>kp6 c _ e fun z=>by rw[z,ha]at e;cases e
 have R6:RepM k1 IsItem H6 (Pz.left aF d) (jF xi (k1 0)):=(Ri.drop kg 0).keep (IsItem.keep kt6);have fl6:(Pz.left aF d).flat.length<16000000:=by have:=TK.pm.length_eq;rw[OF]at this;lia
 have:=R6.len;have:=Pz.gC TK.ok.ok;exact k p1.1 p1.2 _ H6 ⟨⟨dy,kp6 _ _ hq fun e=>by rw[e,ha]at hq;cases hq⟩,D6,by lia,R6.low fl6⟩ R6 l6 (a1.mono (IsItem.keep kt6)) n6 (I.sub _ (.inr ⟨_,c_ f1,rfl⟩)) (fun c z=>I.sub c (vt z)) fun c u e n m=>kp6 _ _ (I.kp c u e n m) fun z=>n (.inl z)
theorem tk1 (T:qx K C) (HM:Fj tm) (TK:Pz.GJ aF last d) (ok:d.Ok) (hfew:d.flat.length<16000000) (hq:∃ dx,H q=some (.ins C dx [("last",.int last),("piles",.ref ap)])) (D2:DL .dK H ap xi) (R2:RepM k1 IsItem H (d.drop (Pz.ce d)) xi) (nq:∀ c,cE ap xp c->c≠q) (l2:H p.1=some (.lst p.2)) (hp:p.1≠q) (n2:¬ cE ap xi p.1) (i0:bc (IsItem H) (d.get (Pz.ce d)) p.2) (sub:∀ c,cE ap xi c->cE ap xp c) (kp:∀ c u,H0 c=some u->¬ cE ap xp c->H c=some u)
 (hs:σ=[some (.ref q),some (.ref p.1),none,none]) (k:KH C q ap d xp H0 D.rt):HR K C tm D σ H:=by
 subst hs;obtain⟨dx,hq⟩:=hq;refine HM _ H p.1 p.2 (d.get (Pz.ce d)) _ rfl l2 i0 TK.k2 (Pp (Pz.lq d _) hfew) fun H3 s3=>?_;refine⟨_,rfl,q,C,dx,_,rfl,s3 _ _ hq,T.cl,T.nl,(by show 2<1000;decide),?_⟩;generalize hH4:upd H3 q (.ins C dx (f9 "last" (.int (Pz.lo ((d.get (Pz.ce d)).map (·.1)))) [("last",.int last),("piles",.ref ap)]))=H4;have kp4:∀ c u,H c=some u->c≠q->H4 c=some u:=fun c u e n=>by rw[<- hH4,aA n];exact s3 c u e
 have q4:H4 q=some (.ins C dx [("last",.int (Pz.lowP d)),("piles",.ref ap)]):=by rw[<- hH4,ao];rfl
 have kt4:KT H H4:=fun c ws e=>kp4 c _ e fun z=>by rw[z,hq]at e;cases e
 have ge:∀ y∈d.get (Pz.ce d),Pz.lowP d<=y.1:=fun y hy=>Pz.zo (OB.mpr ⟨y,hy,rfl⟩);have fl:∀ i,((Pz.cG aF (Pz.lowP d) (d.drop (Pz.ce d)) ((d.get (Pz.ce d)).take i))).flat.length<16000000:=fun i=>by rw[(Pz.h8 TK.o1.ok).length_eq,OF];have:=RY i (d.get (Pz.ce d));have:=(Pz.kc ok.nk (Pz.ce d)).length_eq;rw[OF]at this;lia
 have okI:∀ i,(Pz.cG aF (Pz.lowP d) (d.drop (Pz.ce d)) ((d.get (Pz.ce d)).take i)).Ok:=fun i=>(TK.o1.cG fun x hx=>ge x (P9 hx)).ok;have h3:=fl 0;have h2:=Pz.gC (okI 0);have h5:=R2.len;rw[List.take_zero]at h3 h2;have h4:(Pz.cG aF (Pz.lowP d) (d.drop (Pz.ce d)) [])=d.drop (Pz.ce d):=rfl;rw[h4]at h3 h2;refine⟨_,rfl,p.1,rfl,⟨_,SqL.of (kp4 _ _ l2 hp)⟩,f7 (K:=K) (a:=p.1) (xs:=p.2) (fun i σ H5=>J2 q p.1 σ/\∃ xi,Ka C q ap d H0 xp p i H5 xi)
  ⟨⟨none,none,rfl⟩,xi,⟨⟨dx,q4⟩,D2.keep fun c u e i=>kp4 c u e (nq c (sub c i)),by lia,R2.low h3⟩,?_,kp4 _ _ l2 hp,n2,i0.mono (IsItem.keep kt4),fun c i=>.inl (sub c i),fun c u e n m=>kp4 c u (kp c u e n) m⟩
  (fun i σ H5 _ ⟨_,xi,I⟩=>SqL.of I.l) (fun i y σ H5 hi ⟨hs,xi,I⟩=>?_) fun σ H5 ⟨hs,xi,I⟩=>M8 T TK hfew I hs k⟩
 .rw[List.take_zero];exact R2.keep (IsItem.keep kt4)
 .obtain⟨x,hx,hy⟩:=I.a.get hi;exact M7 I hx hy hs (okI _) (fl _) fun σ' H' xi' h1 h2=>⟨h1,xi',h2⟩
theorem wZ (T:qx K C) (hna:∀(last:Int)(ap:Addr),List.lookup ("add" : Str) ([("last",V.int last),("piles",V.ref ap)]:List (Str×V))=none) (HM:Fj tm) (h:nG C vs H Q E) :
 D4 K C tm (eQ Q) (bj (nS 4) vs) H:=by
 obtain @⟨q,ap,last,xp,d,H,Q,_,G,R,ok,hne,hfew,k⟩:=h;have TK:=Pz.wL vn ok hne;have hap:=G.aN.root
 delta D4 aP bh lR
 refine Fd (.va rfl) G.ins T.cl T.np rfl ⟨ap,rfl,.inl ⟨_,.inl hap⟩,Fd (.va rfl) G.ins T.cl T.np rfl ⟨.inr (.inr (.inl ⟨rfl,.inl ⟨_,hap⟩⟩)),ap,_,rfl,rfl,hap,fun v hv=>?_⟩⟩;have hva:ap≠v:=aB hap hv;refine⟨v,ap,xp.kv,d.keys,rfl,ao,(by rw[aA hva];exact hap),(by rw[CD,R.keys];rfl),(by intro e;exact hne (Re.mp e)),?_⟩;rcases R.find kg (Pz.ce d) with⟨_,_,e⟩|⟨p0,f0,_,a0⟩
 .exact(TK.k2 e).elim
 refine⟨xp.kv,k1 (Pz.ce d),.ref p0.1,(by rw[aA hva];exact hap),(by rw[vq];rfl),(by rw[jf,f0];rfl),?_⟩;generalize hH2:upd (upd H v (rR v ap)) ap (.dK (iZ xp.kv (k1 (Pz.ce d))))=H2;have kp2:∀ c u,H c=some u->c≠ap->H2 c=some u:=fun c u e n=>by rw[<- hH2,aA n,aA (aB e hv)];exact e
 obtain⟨D2,l2,n2⟩:=G.aN.drop (fun _ _ z=>HO.noConfusion z) f0 (by rw[<- hH2,ao]) kp2;have kt2:KT H H2:=fun c ws e=>kp2 c _ e fun z=>by rw[z,hap]at e;cases e
 obtain⟨dx,hq⟩:=G.ins;exact tk1 T HM TK ok.ok hfew ⟨dx,kp2 _ _ hq fun e=>by rw[e,hap]at hq;cases hq⟩ D2 ((R.drop kg _).keep (IsItem.keep kt2)) (fun c=>G.ne) l2 (G.ne (.inr ⟨_,c_ f0,rfl⟩)) n2 (a0.mono (IsItem.keep kt2)) (fun c=>vt) (fun c u e n=>kp2 c u e fun z=>n (.inl z)) rfl k
end
structure iU (K:SG) (C:Addr):Prop where
 cl:qz K C
 nr:NoAttr K C "rules"
 nt:NoAttr K C "told"
 no:NoAttr K C "offers"
 ns:NoAttr K C "settled"
 nl:NoAttr K C "lacking"
theorem KJ (A:PA):(pf A).lookup ("rules" : Str)=some (V.ref A.ar):=rfl
theorem CF (A:PA):(pf A).lookup ("told" : Str)=some (V.ref A.ta):=rfl
theorem Fk (A:PA):(pf A).lookup ("offers" : Str)=some (V.ref A.aq):=rfl
theorem HS (A:PA):(pf A).lookup ("settled" : Str)=some (V.ref A.sa):=rfl
theorem HU (A:PA):(pf A).lookup ("lacking" : Str)=some (V.ref A.la):=rfl
theorem Fo (A:PA) (last:Int):(qf A last).lookup ("add" : Str)=none:=rfl
section
variable {K:SG}
inductive dJ (CP CQ:Addr):Sp
 |mk {B H:Hp} {A:PA} {rs:Pz.RS} {S:Pz.PS} {xs xl xr:DX (List bG)} {b:Addr} {a:Pz.Arr} {p:Int} {n m:Option Int} {Q:VK} {E:XK} (P:PAt CP CQ B H A rs S xs xl xr) (hb:H b=some (.tup (gk a))) (f:Pz.ja (Pz.bn aF S a p n m)) (k:∀ H',PAt CP CQ B H' A rs (Pz.bn aF S a p n m) xs xl xr->Q .bC H'):dJ CP CQ [.ref A.o,.ref b,.int p,vO n,vO m] H Q E
def nX:R2:=fun x y H Q=>y=.bC/\Q (.bl (decide (x=.bC))) H
theorem gF:iN X (compareOp .Is) nX:=EC
def J3:R2:=qC fun i j=>.bl (decide (i<j))
def Fq (K:SG) (CQ:Addr):TS:=aP (qU (dR K (au 0) "told") (au 1) (cf (aj (au 2) (aj (au 3) (aj (au 4) aG)))))
 (cw (dZ CQ "add" (o_ CQ) [] E0 (dR K (au 0) "offers") (aj (au 2) (aj (au 1) aG))))
def HV (K:SG)(CQ:Addr):TS:=cI (Be (br (aZ nX (au 5) (tC .bC))) (br (aZ J3 (au 2) (aZ (jq K) (au 5) (tC (.int 0)))))) (Fq K CQ) bY
def zv (K:SG) (CQ:Addr):TS:=aP (bh (pD (dR K (au 0) "told") (au 1)) (aE 5)) (HV K CQ)
theorem rV (h:dJ CP CQ vs H Q E):vs.length=5:=by cases h;rfl
variable {D:Ends}
theorem bD.fld (P:bD CP CQ B H A rs S xs xl xr xp kt col)(cl:qz K CP)(n:NoAttr K CP f)(hl:(pf A).lookup f=some v)(h:σ[i]?=some (some (.ref A.o))):Reads (dR K (au i) f) σ H v:=.fld (.va h) P.po.ins cl n hl
theorem bD.rd (P:bD CP CQ B H A rs S xs xl xr xp kt col)(cl:qz K CP)(n:NoAttr K CP f)(hl:(pf A).lookup f=some v)(h:σ[i]?=some (some (.ref A.o)))(q:Q v H):dR K (au i) f σ H Q:=P.fld cl n hl h _ q
theorem rW (TP:iU K CP)(P:bD CP CQ B H A rs S xs xl xr xp kt col)(hb:H b=some (.tup (gk a)))(fit:Pz.ja (Pz.h_ aF S a p n m))
 (k:∀ σ H',PAt CP CQ B H' A rs (Pz.h_ aF S a p n m) xs xl xr->D.nx σ H'):Fq K CQ D [some (.ref A.o),some (.ref b),some (.int p),some (vO n),some (vO m),some w] H:=by
 delta Fq aP qU
 refine jg (.c (.va rfl) (.c (.va rfl) (.c (.va rfl) .ni))) rfl fun t ht'=>?_;have s1:Same H (upd H t (.tup [.int p,vO n,vO m])):=az ht';have P1:=P.more s1;have ht:=P1.po.td;have hb1:=s1 _ _ hb;have hl:kt.length<sizeLine:=by have e1:S.told.length=kt.length:=P.po.tr.len;have e2:=fit.t;have e3:=(Pz.rM S.told a (p,n,m)).1;have e4:(Pz.h_ aF S a p n m).told=Pz.tput S.told a (p,n,m):=rfl;rw[e4]at e2;rw[OG];unfold Pz.L at e2;lia
 refine P1.rd TP.cl TP.nt (CF A) rfl ⟨_,rfl,A.ta,_,rfl,DPut.t (k:=ak a) ht hb1 hl,?_⟩;have P2:=P1.tell (a:=a) (x:=(p,n,m)) (p:=t) ao;have hb2:upd (upd H t (.tup [.int p,vO n,vO m])) A.ta (.dT (ci kt (ak a) (.ref t))) b=some (.tup (gk a)):=by rw[aA (fun z=>by rw[z,ht]at hb1;cases hb1)];exact hb1
 generalize upd (upd H t (.tup [.int p,vO n,vO m])) A.ta (.dT (ci kt (ak a) (.ref t)))=H2 at P2 hb2;clear P1 ht hb1 s1 hl ht';have fitp:=fit.p;have fitf:=fit.pf;have al:=Pz.d9 S.aN (aF p S.last) (p,a);have e5:(Pz.h_ aF S a p n m).aN=S.aN.app (aF p S.last) (p,a):=rfl;rw[e5]at fitp fitf;unfold Pz.L at fitp fitf;have pr2:RepM k1 IsItem H2 S.aN xp:=P2.p1.r;refine rQ (P2.fld TP.cl TP.no (Fk A) rfl) P2.po.BE (Fo A _) (.c (.va rfl) (.c (.va rfl) .ni)) (.mk ⟨P2.po.BE,P2.p1.d,by rw[<- pr2.len];lia,pr2.low (by lia)⟩ ?_);intro l p' H3 hl3 hp3 hm3 hq3 hd3 kp3;have kk:=P2.p1.d.kt (fun _ _ z=>HO.noConfusion z) kp3;exact k _ H3 ⟨_,_,_,P2.pile hd3 (pr2.add kg (IsItem.keep kk) ⟨p',_,rfl,hm3,b,rfl,kk _ _ hb2⟩) (fun c z=>(iH z).imp id fun z=>by rw[z];exact hl3) kp3⟩
theorem zx (TP:iU K CP)(P:bD CP CQ B H A rs S xs xl xr xp kt col)(hb:H b=some (.tup (gk a)))(fit:Pz.ja (Pz.bn aF S a p n m))
 (k:∀ σ H',PAt CP CQ B H' A rs (Pz.bn aF S a p n m) xs xl xr->D.nx σ H'):HV K CQ D [some (.ref A.o),some (.ref b),some (.int p),some (vO n),some (vO m),some ((cz kt (ak a)).getD .bC)] H:=by
 unfold Pz.bn at fit k;rcases P.po.tr.find a with⟨e1,e2⟩|⟨v,x,e1,e2,q,rfl,hq⟩
 .rw[OK (show Pz.gg S a p=true by unfold Pz.gg;rw[e2])]at fit k;rw[e1];exact⟨_,rfl,rfl,_,rfl,rW TP P hb fit k⟩
 .rw[e1];refine⟨_,rfl,rfl,_,rfl,?_⟩;refine fI (c:=decide (p<x.1)) (.op (.va rfl) (.ix (.va rfl) hq rfl) (fun _ q=>⟨p,x.1,rfl,rfl,q⟩)) (fun h=>?_) (fun h=>?_)
  .rw[OK (show Pz.gg S a p=true by unfold Pz.gg;rw[e2];exact h)]at fit k;exact rW TP P hb fit k
  .rw[OL fun z=>by unfold Pz.gg at z;rw[e2]at z;exact h z]at k;exact k _ H ⟨xp,kt,col,P⟩
theorem ug (TP:iU K CP)(TQ:qx K CQ)(h:dJ CP CQ vs H Q E):zv K CQ (eQ Q) (bj (nS 6) vs) H:=by
 obtain⟨⟨xp,kt,col,P⟩,hb,fit,k⟩:=h
 delta zv aP bh pD
 exact P.rd TP.cl TP.nt (CF _) rfl ⟨_,rfl,.inr ⟨_,.inl P.po.td⟩,_,rfl,_,DGet.t (k:=ak _) P.po.td hb,zx TP P hb fit fun _=>k⟩
theorem pY (P:PAt CP CQ B H A rs S xs xl xr)(f:Pz.ja (Pz.bn aF S a p n m))(h:Reads ta σ H (.ref A.o))(ht:Makes te σ H (gk a))(hr:∀ H',Same H H'->ReadsA tr σ H' [.int p,vO n,vO m])(k:∀ H',PAt CP CQ B H' A rs (Pz.bn aF S a p n m) xs xl xr->D.nx σ H') :
 cw (dZ CP "offer" (dJ CP CQ) [] E0 ta (aj te tr)) D σ H:=by
 have P':=P;obtain⟨_,_,_,Q4⟩:=P';obtain⟨dx,hi⟩:=Q4.po.ins;exact h _ ⟨A.o,dx,_,rfl,hi,rfl,ht _ fun q hq=>hr _ (az hq) _ (.mk (P.more (az hq)) ao f k)⟩
end
section
variable {K:SG}{CP CQ:Addr}{B H:Hp}{A:PA}{rs:Pz.RS}{S:Pz.PS}{xs xl xr:DX (List bG)}{xp:DX bG}{kt:List (List bG×V)}{col:Addr->Nat}
theorem bD.obj (P:bD CP CQ B H A rs S xs xl xr xp kt col)(hz:H z=none):¬ cE A.ap xp z/\¬ cE A.sa xs z/\¬ cE A.la xl z/\¬ cE A.ar xr z/\z≠A.ta/\z≠A.o/\z≠A.aq:=by
 refine⟨fun i=>P.p1.d.obj i hz,fun i=>P.p2.d.obj i hz,fun i=>P.p3.d.obj i hz,fun i=>P.p4.d.obj i hz,fun e=>?_,fun e=>?_,fun e=>?_⟩
 .rw[e,P.po.td]at hz;cases hz
 .obtain⟨_,h⟩:=P.po.ins;rw[e,h]at hz;cases hz
 .obtain⟨_,h⟩:=P.po.BE;rw[e,h]at hz;cases hz
theorem CG {α:Type}{it:Hp->α->V->Prop}(hk:∀ H H',KT H H'->∀ x v,it H x v->it H' x v){a:Addr}{f:Str}{ys:DX (List bG)}{d:Pz.MD (Int×Int) α}(P:bD CP CQ B H A rs S xs xl xr xp kt col)(hD:DL .dT H a ys)(hR:RepM k2 it H d ys)
 (cl:qz K CP) (nf:NoAttr K CP f) (hf:(pf A).lookup f=some (V.ref a)) {σ:L2.St} {j:Nat} {b:Addr} {k:Int×Int} (h0:σ[0]?=some (some (.ref A.o))) (hj:σ[j]?=some (some (.ref b))) (hb:H b=some (.tup [.int k.1,.int k.2])) {Q:VK}
 (kk:∀(l:Addr)(vs:List V)(B1 H1:Hp),Same H H1->Same B B1->KT H1 B1->bD CP CQ B1 H1 A rs S xs xl xr xp kt col->H1 l=some (.lst vs)->(∀ H2,Same B1 H2->DL .dT H2 a ys->H2 l=some (.lst vs)/\bc (it H2) (d.get k) vs)->Q (.ref l) H1) :
 gz (dR K (au 0) f) (au j) (cJ aG) σ H Q:=by
 delta gz
 refine P.rd cl nf hf h0 ⟨a,rfl,.inr ⟨_,.inl hD.root⟩,_,hj,OP _,fun z hz=>?_⟩;have s1:Same H (upd H z (.lst [])):=az hz;have hb1:upd H z (.lst []) b=some (.tup ((k2 k).map kV)):=s1 _ _ hb;refine⟨_,DGet.t (s1 _ _ hD.root) hb1,?_⟩;have P1:=P.more s1;rcases hR.find mL k with⟨f1,f2,f3⟩|⟨p,f1,f2,f3⟩
 .rw[jf,f1];obtain⟨B1,w1,w2,w3,w4⟩:=P1.wide (fun c=>c=z) fun c e=>by subst e;exact P.obj hz
  refine kk z [] B1 _ s1 w1 w2 w4 ao fun H2 s2 _=>⟨s2 _ _ (w3 z _ rfl ao),?_⟩;rw[f3];exact .nil
 .rw[jf,f1];obtain⟨B1,w1,w2,w3,w4⟩:=P1.wide (fun _=>False) fun _ e=>e.elim;refine kk p.1 p.2 B1 _ s1 w1 w2 w4 (s1 _ _ (hD.qt _ (c_ f1))) fun H2 s2 D2=>⟨D2.qt _ (c_ f1),f3.mono (hk _ _ fun c ws e=>s2 _ _ (w2 _ _ (s1 _ _ e)))⟩
def Wk (J:L2.It)(g:TG)(tb:TS)(D:Ends)(σ:L2.St)(H:Hp):Prop:=∃ W:Nat->Nat->L2.St->Hp->Prop,(∃ m,W 0 m σ H)/\∀ i m σ H,W i m σ H->
 (J.stop i H/\D.nx σ H)\/(J.go i H/\∃ N:L2.St->Hp->Prop,(∀ σ' H',N σ' H'->∃ m',m'<m/\W (i+1) m' σ' H')/\∀ x H',J.vM i H x H'->g x σ H' fun σ2 H2=>tb { D with nx:=N,ct:=N,bk:=D.nx } σ2 H2)
theorem eU {tb:TS}{D:Ends}{σ:L2.St}(h:tl σ H fun x H1=>∃ a,x=.ref a/\(∃ xs,SqL K H1 a xs)/\Wk (Ex K a) g tb D σ H1):f6 (cU K tl) g tb D σ H:=h
theorem pZ {α:Type}{it:Hp->α->V->Prop}{l:Addr}{vs:List V}{its:List α}{g:TG}{tb:TS}{D:Ends}{σ:L2.St}{H1:Hp}(Sh:L2.St->Prop)(step:Pz.PS->α->Pz.PS)(S0:Pz.PS)(W:Pz.PS->Hp->Prop)(h0:Sh σ)(h1:W S0 H1)
 (hW:∀ S H,W S H->Rd H l (.lst vs)/\bc (it H) its vs)
 (hb:∀(i:Nat)(x:α)(v:V)(σ:L2.St)(H:Hp)(D':Ends),its[i]?=some x->it H x v->Sh σ->W ((its.take i).foldl step S0) H->(∀ σ' H',Sh σ'->W (step ((its.take i).foldl step S0) x) H'->D'.nx σ' H')->g v σ H fun σ2 H2=>tb D' σ2 H2)
 (hd:∀ σ H,Sh σ->W (its.foldl step S0) H->D.nx σ H):Wk (Ex K l) g tb D σ H1:=by
 have bW:its.length=vs.length:=(hW _ _ h1).2.len;refine f7 (K:=K) (a:=l) (xs:=vs) (fun i σ H=>Sh σ/\W ((its.take i).foldl step S0) H) ⟨h0,h1⟩ (fun i σ H _ ⟨_,w⟩=>Or.inl (hW _ _ w).1) (fun i v σ H hi ⟨s,w⟩=>?_) fun σ H ⟨s,w⟩=>?_
 .obtain⟨x,hx,ix⟩:=(hW _ _ w).2.get hi;have e:(its.take (i+1)).foldl step S0=step ((its.take i).foldl step S0) x:=by rw[Pi,hx,QH];rfl
  rw[e];exact hb i x v σ H _ hx ix s w fun _ _=>And.intro
 .rw[Pe (by lia)]at w;exact hd σ H s w
theorem p8 {α:Type}{it:Hp->α->V->Prop}(hk:∀ H H',KT H H'->∀ x v,it H x v->it H' x v){a:Addr}{f:Str}{ys:DX (List bG)}{d:Pz.MD (Int×Int) α}(P:bD CP CQ B H A rs S xs xl xr xp kt col)(hD:DL .dT H a ys)(hR:RepM k2 it H d ys)
 (cl:qz K CP) (nf:NoAttr K CP f) (hf:(pf A).lookup f=some (V.ref a)) {σ:L2.St} {j:Nat} {b:Addr} {k:Int×Int} (h0:σ[0]?=some (some (.ref A.o))) (hj:σ[j]?=some (some (.ref b))) (hb:H b=some (.tup [.int k.1,.int k.2])) {g:TG} {tb:TS} {D:Ends} (Sh:L2.St->Prop) (step:Pz.PS->α->Pz.PS) (W:Hp->Pz.PS->Hp->Prop) (hs:Sh σ)
 (w0:∀ B1 H1,bD CP CQ B1 H1 A rs S xs xl xr xp kt col->W B1 S H1) (w1:∀ B1 T H1,W B1 T H1->Same B1 H1/\DL .dT H1 a ys)
 (hy:∀ B1 (i:Nat) x v σ H2 (D':Ends),KT H H2->(d.get k)[i]?=some x->it H2 x v->Sh σ->W B1 (((d.get k).take i).foldl step S) H2->(∀ σ' H',Sh σ'->W B1 (step (((d.get k).take i).foldl step S) x) H'->D'.nx σ' H')->g v σ H2 fun σ2 H3=>tb D' σ2 H3)
 (hd:∀ B1 σ H2,Same B B1->KT H H2->Sh σ->W B1 ((d.get k).foldl step S) H2->D.nx σ H2):f6 (cU K (gz (dR K (au 0) f) (au j) (cJ aG))) g tb D σ H:=by
 refine eU (CG hk P hD hR cl nf hf h0 hj hb fun l vs B1 H1 s1 b1 w3 P1 hl1 hkk=>?_);have kt1:∀ T H2,W B1 T H2->KT H H2:=fun T H2 w a ws e=>(w1 B1 T H2 w).1 _ _ (w3 _ _ (s1 _ _ e));exact⟨l,rfl,⟨_,SqL.of hl1⟩,pZ (it:=it) Sh step S (W B1) hs (w0 B1 H1 P1) (fun T H2 w=>⟨.inl (hkk H2 (w1 B1 T H2 w).1 (w1 B1 T H2 w).2).1,(hkk H2 (w1 B1 T H2 w).1 (w1 B1 T H2 w).2).2⟩)
  (fun i x v σ H2 D' e1 e2 e3 e4=>hy B1 i x v σ H2 D' (kt1 _ _ e4) e1 e2 e3 e4) fun σ H2 s w=>hd B1 σ H2 b1 (kt1 _ _ w) s w⟩
theorem M9 (ht:H b=some (.tup [x,y,z]))(k:Q (((σ.set i (some x)).set j (some y)).set l (some z)) H):dQ K 3 (be (aE i) (be (aE j) (be (aE l) dP))) (.ref b) σ H Q:=⟨b,_,rfl,SqT.of ht,rfl,_,_,rfl,_,_,rfl,_,_,rfl,rfl,k⟩
theorem gm {α:Type}{step:Pz.PS->α->Pz.PS}(hg:∀ S x,Pz.eM S (step S x)){its:List α}{S0:Pz.PS}(h:Pz.ja (its.foldl step S0)){i:Nat}{x:α}(hx:its[i]?=some x):Pz.ja (step ((its.take i).foldl step S0) x):=by
 have e:(its.take (i+1)).foldl step S0=step ((its.take i).foldl step S0) x:=by rw[Pi,hx,QH];rfl
 rw[<- e];refine Pz.eM.fit (Pz.cj step hg (its.drop (i+1)) _) ?_;rw[<- QH,Qk];exact h
def cA:R2:=qC fun i j=>.int (i+j)
theorem Reads.add (h:Reads ta σ H (.int i))(h':Reads tb σ H (.int j)):Reads (aZ cA ta tb) σ H (.int (i+j)):=h.op h' fun _ q=>⟨i,j,rfl,rfl,q⟩
inductive jV (CP CQ:Addr):Sp
 |mk {B H:Hp} {A:PA} {rs:Pz.RS} {S:Pz.PS} {xs xl xr:DX (List bG)} {c:Addr} {r:Pz.Rule} {num mid price:Int} {Q:VK} {E:XK} (P:PAt CP CQ B H A rs S xs xl xr) (hr:IsRule H r (.ref c)) (h2:2<=r.2.2.2.length) (f:Pz.ja (Pz.first aF S num r mid price))
  (k:∀ H' xl',PAt CP CQ B H' A rs (Pz.first aF S num r mid price) xs xl' xr->Q .bC H'):jV CP CQ [.ref A.o,.int num,.ref c,.int mid,.int price] H Q E
def HW (K:SG) (CP CQ:Addr):TS:=cw (dZ CP "offer" (dJ CP CQ) [] E0 (au 0) (aj (cf (aj (aZ (jq K) (au 2) (tC (.int 0))) (aj (aZ (jq K) (au 2) (tC (.int 1))) (aj (au 6) aG))))
 (aj (aZ cA (aZ cA (au 4) (au 7)) (tC (.int 1))) (aj (au 1) (aj (au 3) aG)))))
def KL (K:SG) (CP CQ:Addr):TS:=f6 (cU K (gz (dR K (au 0) "settled") (au 5) (cJ aG))) (dQ K 2 (be (aE 6) (be (aE 7) dP))) (HW K CP CQ)
def HX (K:SG) (CP CQ:Addr):TS:=aP (cw (mK K (dR K (au 0) "lacking") (au 5) (cf (aj (au 1) (aj (au 2) (aj (au 4) aG)))))) (KL K CP CQ)
def zy (K:SG)(CP CQ:Addr):TS:=aP (bh (cf (aj (au 3) (aj (aZ (jq K) (aZ (jq K) (au 2) (tC (.int 3))) (tC (.int 1))) aG))) (aE 5)) (HX K CP CQ)
theorem rX (h:jV CP CQ vs H Q E):vs.length=5:=by cases h;rfl
theorem zA (A:PA):(pf A).lookup ("offer" : Str)=none:=rfl
theorem CH {l:List Int}(h:2<=l.length):(l.map V.int)[1]?=some (.int (Pz.nth1 l)):=by rcases l with _|⟨_,_|⟨_,_⟩⟩<;>first|rfl|(simp at h)
variable {D:Ends}{σ:L2.St}{b c q:Addr}{r:Pz.Rule}{num mid price:Int}
abbrev J4 (r:Pz.Rule)(num mid price:Int)(S:Pz.PS)(x:Int×Int):Pz.PS:=Pz.bn aF S (r.1,r.2.1,x.1) (price+x.2+1) (some num) (some mid)
def KM (A:PA)(num:Int)(c:Addr)(mid price:Int)(b:Addr)(σ:L2.St):Prop:=∃ u v,σ=[some (.ref A.o),some (.int num),some (.ref c),some (.int mid),some (.int price),some (.ref b),u,v]
theorem Fs (P:PAt CP CQ B H A rs S xs xl xr)(h:IsSet H x v)(hs:KM A num c mid price b σ)(hr:H c=some (.tup [.int r.1,.int r.2.1,.int r.2.2.1,.ref q]))(f:Pz.ja (J4 r num mid price S x))
 (k:∀ σ' H',KM A num c mid price b σ'->PAt CP CQ B H' A rs (J4 r num mid price S x) xs xl xr->D.nx σ' H'):dQ K 2 (be (aE 6) (be (aE 7) dP)) v σ H fun σ2 H2=>HW K CP CQ D σ2 H2:=by
 obtain⟨t,rfl,ht⟩:=h;obtain⟨u,w,rfl⟩:=hs;exact ua ht (pY P f (.va rfl) (.t (.c (.ix (.va rfl) hr rfl) (.c (.ix (.va rfl) hr rfl) (.c (.va rfl) .ni))) rfl) (fun _ _=>.c (.add (.add (.va rfl) (.va rfl)) .k) (.c (.va rfl) (.c (.va rfl) .ni))) fun H'=>k _ H' ⟨_,_,rfl⟩)
theorem Ft (TP:iU K CP)(P:bD CP CQ B H A rs S xs xl xr xp kt col)(hb:H b=some (.tup [.int mid,.int (Pz.nth1 r.2.2.2)]))(hr:H c=some (.tup [.int r.1,.int r.2.1,.int r.2.2.1,.ref q]))(hq:H q=some (.tup (r.2.2.2.map .int)))(fit:Pz.ja (Pz.first aF S num r mid price))(hs:σ=[some (.ref A.o),some (.int num),some (.ref c),some (.int mid),some (.int price),some (.ref b),none,none])
 (k:∀ σ' H' xl',PAt CP CQ B H' A rs (Pz.first aF S num r mid price) xs xl' xr->D.nx σ' H'):HX K CP CQ D σ H:=by
 subst hs;have fitL:Pz.ja (Pz.pT S num r mid price):=Pz.eM.fit (Pz.cj _ (fun S x=>Pz.cb S _ _ _ _) _ _) fit;have f1:=fitL.l;have f2:=fitL.lf;have al:=Pz.d9 S.aR (mid,Pz.nth1 r.2.2.2) (num,r,price);have e5:(Pz.pT S num r mid price).aR=S.aR.app (mid,Pz.nth1 r.2.2.2) (num,r,price):=rfl;rw[e5]at f1 f2;unfold Pz.L at f1 f2;have lr1:RepM k2 IsLack H S.aR xl:=P.p3.r;refine pV (a:=A.la) (b:=b) (xs:=xl) (k:=k2 (mid,Pz.nth1 r.2.2.2)) (ws:=[.int num,.ref c,.int price]) P.p3.d (P.fld TP.cl TP.nl (HU A) rfl) (.va rfl) hb (fun H' _=>.t (.c (.va rfl) (.c (.va rfl) (.c (.va rfl) .ni))) rfl) (by rw[<- lr1.len];lia) (lr1.low (by lia)) ?_;intro l p H2 hl hp hm hd kp;have kt2:=P.p3.d.kt (fun _ _ z=>HO.noConfusion z) kp;have P2:bD CP CQ B H2 A rs (Pz.pT S num r mid price) xs _ xr _ _ _:=P.pT hd (lr1.add (k:=(mid,Pz.nth1 r.2.2.2)) (v:=(num,r,price)) mL (IsLack.keep kt2) ⟨p,_,rfl,hm,c,q,rfl,kt2 _ _ hr,kt2 _ _ hq⟩) (fun c z=>(iH z).imp id fun z=>by rw[z];exact hl) kp;exact p8 (fun H H' k=>IsSet.keep k) P2 P2.p2.d P2.p2.r TP.cl TP.ns (HS A) (j:=5) (k:=(mid,Pz.nth1 r.2.2.2)) rfl rfl (kt2 _ _ hb) (KM A num c mid price b) (J4 r num mid price) (fun B1 T H4=>PAt CP CQ B1 H4 A rs T xs _ xr) ⟨none,none,rfl⟩ (fun B1 H1 P=>⟨_,_,_,P⟩)
  (fun B1 T H1 ⟨_,_,_,P⟩=>⟨P.same,P.p2.d⟩) (fun B1 i x v σ H4 D' k4 e1 e2 e3 e4 k=>Fs e4 e2 e3 (k4 _ _ (kt2 _ _ hr)) (gm (step:=J4 r num mid price) (fun S x=>Pz.cb S _ _ _ _) fit e1) k) fun B1 σ H4 b1 k4 s w=>k σ H4 _ (w.less b1)
theorem uh {vs:List V}(TP:iU K CP)(h:jV CP CQ vs H Q E):zy K CP CQ (eQ Q) (bj (nS 8) vs) H:=by
 obtain⟨⟨xp,kt,col,P⟩,⟨_,q,ec,hr,hq⟩,h2,fit,k⟩:=h;cases ec
 delta zy aP bh
 exact jg (.c (.va rfl) (.c (.ix (.ix (.va rfl) hr rfl) hq (jo (j:=1) (CH h2))) .ni)) rfl fun b hb=>Ft TP (P.more (az hb)) ao (az hb _ _ hr) (az hb _ _ hq) fit rfl fun _=>k
end
section
variable {K:SG}{xp:DX bG}{kt:List (List bG×V)}{col:Addr->Nat}
def gn (K:SG):List V->Hp->VK->Prop:=fun xs H Q=>∃ p ys,xs=[.ref p]/\(SqL K H p ys\/SqT K H p ys)/\Q (.int ys.length) H
theorem cD:bQ X (.builtin "len") (gn X.K):=pz
abbrev tI (K:SG)(i:Nat)(n:Int):TE:=aZ (jq K) (au i) (tC (.int n))
def p9 (rs:Pz.RS):Prop:=∀ k x,x∈rs.get k->1<=x.2.2.2.2.length
inductive iu (CP CQ:Addr):Sp
 |mk {B H:Hp} {A:PA} {rs:Pz.RS} {S:Pz.PS} {xs xl xr:DX (List bG)} {b:Addr} {a:Pz.Arr} {price:Int} {Q:VK} {E:XK} (P:PAt CP CQ B H A rs S xs xl xr) (ha:H b=some (.tup (gk a))) (rok:p9 rs) (f:Pz.ja (Pz.settle aF rs S a price))
  (k:∀ H' xs' xl',PAt CP CQ B H' A rs (Pz.settle aF rs S a price) xs' xl' xr->Q .bC H'):iu CP CQ [.ref A.o,.ref b,.int price] H Q E
def HY (K:SG)(CP CQ:Addr):TS:=cI (br (aZ ou (gS (gn K) (aj (tI K 5 3) aG)) (tC (.int 1))))
 (cw (dZ CP "offer" (dJ CP CQ) [] E0 (au 0) (aj (cf (aj (tI K 5 0) (aj (tI K 5 1) (aj (tI K 1 2) aG)))) (aj (aZ cA (au 2) (tC (.int 1))) (aj (au 4) (aj (tC .bC) aG))))))
 (cw (dZ CP "settle_first" (jV CP CQ) [] E0 (au 0) (aj (au 4) (aj (au 5) (aj (tI K 1 2) (aj (au 2) aG))))))
def KN (K:SG) (CP CQ:Addr):TS:=f6 (cU K (gz (dR K (au 0) "rules") (au 3) (cJ aG))) (dQ K 2 (be (aE 4) (be (aE 5) dP))) (HY K CP CQ)
def HZ (K:SG) (CP CQ:Addr):TS:=cw (dZ CP "offer" (dJ CP CQ) [] E0 (au 0) (aj (cf (aj (tI K 5 0) (aj (tI K 5 1) (aj (tI K 1 2) aG)))) (aj (aZ cA (aZ cA (au 6) (au 2)) (tC (.int 1))) (aj (au 4) (aj (tI K 1 0) aG)))))
def KO (K:SG) (CP CQ:Addr):TS:=aP (f6 (cU K (gz (dR K (au 0) "lacking") (au 3) (cJ aG))) (dQ K 3 (be (aE 4) (be (aE 5) (be (aE 6) dP)))) (HZ K CP CQ)) (KN K CP CQ)
def H_ (K:SG) (CP CQ:Addr):TS:=aP (cw (mK K (dR K (au 0) "settled") (au 3) (cf (aj (tI K 1 2) (aj (au 2) aG))))) (KO K CP CQ)
def vv (K:SG)(CP CQ:Addr):TS:=aP (bh (cf (aj (tI K 1 0) (aj (tI K 1 1) aG))) (aE 3)) (H_ K CP CQ)
theorem p_ (h:iu CP CQ vs H Q E):vs.length=3:=by cases h;rfl
theorem zB (A:PA):(pf A).lookup ("settle_first" : Str)=none:=rfl
theorem Reads.len (h:Reads ta σ H (.ref q))(hq:H q=some (.tup ws)):Reads (gS (gn K) (aj ta aG)) σ H (.int ws.length):=fun _ k=>h _ ⟨q,ws,rfl,.inr (SqT.of hq),k⟩
theorem Reads.AO (h:Reads ta σ H (.int m))(h':Reads tb σ H (.int n)):Reads (aZ ou ta tb) σ H (.bl (decide (m=n))):=h.op h' fun _ q=>⟨rfl,by rw[show decide (V.int m=V.int n)=decide (m=n) from decide_eq_decide.mpr ⟨fun e=>by injection e,fun e=>by rw[e]⟩];exact q⟩
variable {D:Ends}{σ:L2.St}{b b0:Addr}{a:Pz.Arr}{price:Int}
def GX (A:PA)(b0:Addr)(price:Int)(b:Addr)(σ:L2.St):Prop:=∃ u v w,σ=[some (.ref A.o),some (.ref b0),some (.int price),some (.ref b),u,v,w]
theorem KP (P:PAt CP CQ B H A rs S xs xl xr)(h:IsLack H x v)(hs:GX A b0 price b σ)(ha:H b0=some (.tup (gk a)))(f:Pz.ja (Pz.kG aF a price S x))
 (k:∀ σ' H',GX A b0 price b σ'->PAt CP CQ B H' A rs (Pz.kG aF a price S x) xs xl xr->D.nx σ' H'):dQ K 3 (be (aE 4) (be (aE 5) (be (aE 6) dP))) v σ H fun σ2 H2=>HZ K CP CQ D σ2 H2:=by
 obtain⟨t,_,rfl,ht,c,q,rfl,hr,hq⟩:=h;obtain⟨u,w,z,rfl⟩:=hs;exact M9 ht (pY P f (.va rfl) (.t (.c (.ix (.va rfl) hr rfl) (.c (.ix (.va rfl) hr rfl) (.c (.ix (.va rfl) ha rfl) .ni))) rfl) (fun _ s=>.c (.add (.add (.va rfl) (.va rfl)) .k) (.c (.va rfl) (.c (.ix (.va rfl) (s _ _ ha) rfl) .ni))) fun H'=>k _ H' ⟨_,_,_,rfl⟩)
theorem KQ (P:PAt CP CQ B H A rs S xs xl xr)(h:IsNum H x v)(hs:GX A b0 price b σ)(ha:H b0=some (.tup (gk a)))(hl:1<=x.2.2.2.2.length)(f:Pz.ja (Pz.cu aF a price S x))
 (k:∀ σ' H',GX A b0 price b σ'->(∃ xl',PAt CP CQ B H' A rs (Pz.cu aF a price S x) xs xl' xr)->D.nx σ' H'):dQ K 2 (be (aE 4) (be (aE 5) dP)) v σ H fun σ2 H2=>HY K CP CQ D σ2 H2:=by
 obtain⟨t,_,rfl,ht,c,q,rfl,hr,hq⟩:=h;obtain⟨u,w,z,rfl⟩:=hs;unfold Pz.cu at f k;have e1:(((x.2.2.2.2.map V.int).length:Nat):Int)=1↔x.2.2.2.2.length=1:=by rw[Ot];lia
 refine ua ht (fI (.AO (.len (.ix (.va rfl) hr rfl) hq) .k) (fun h=>?_) fun h=>?_)
 .rw[OK (e1.mp (O2 h))]at f k;exact pY P f (.va rfl) (.t (.c (.ix (.va rfl) hr rfl) (.c (.ix (.va rfl) hr rfl) (.c (.ix (.va rfl) ha rfl) .ni))) rfl) (fun _ s=>.c (.add (.va rfl) .k) (.c (.va rfl) (.c .k .ni))) fun H' P'=>k _ H' ⟨_,_,_,rfl⟩ ⟨_,P'⟩
 .have h1:¬ x.2.2.2.2.length=1:=fun z=>h (OO (e1.mpr z));have h2:2<=x.2.2.2.2.length:=by lia
  rw[OL h1]at f k;have P':=P;obtain⟨_,_,_,Q⟩:=P';exact rQ (.va rfl) Q.po.ins (zB A) (.c (.va rfl) (.c (.va rfl) (.c (.ix (.va rfl) ha rfl) (.c (.va rfl) .ni)))) (.mk P ⟨c,q,rfl,hr,hq⟩ h2 f fun H' xl' P'=>k _ H' ⟨_,_,_,rfl⟩ ⟨xl',P'⟩)
theorem KR (TP:iU K CP)(P:bD CP CQ B H A rs S xs xl xr xp kt col)(ha:H b0=some (.tup (gk a)))(hb:H b=some (.tup [.int a.1,.int a.2.1]))(rok:p9 rs)(fit:Pz.ja (Pz.settle aF rs S a price))(hs:σ=[some (.ref A.o),some (.ref b0),some (.int price),some (.ref b),none,none,none])
 (k:∀ σ' H' xs' xl',PAt CP CQ B H' A rs (Pz.settle aF rs S a price) xs' xl' xr->D.nx σ' H'):H_ K CP CQ D σ H:=by
 subst hs;have g2:Pz.eM ((S.aR.get (a.1,a.2.1)).foldl (Pz.kG aF a price) (Pz.note S a price)) (Pz.settle aF rs S a price):=Pz.cj _ (Pz.jd a price) _ _;have fit1:=g2.fit fit;have fitN:Pz.ja (Pz.note S a price):=Pz.eM.fit (Pz.cj _ (fun S x=>Pz.cb S _ _ _ _) _ _) fit1;have f1:=fitN.s;have f2:=fitN.sf;have al:=Pz.d9 S.settled (a.1,a.2.1) (a.2.2,price);have e5:(Pz.note S a price).settled=S.settled.app (a.1,a.2.1) (a.2.2,price):=rfl;rw[e5]at f1 f2;unfold Pz.L at f1 f2;have sr1:RepM k2 IsSet H S.settled xs:=P.p2.r;refine pV (a:=A.sa) (b:=b) (xs:=xs) (k:=k2 (a.1,a.2.1)) (ws:=[.int a.2.2,.int price]) P.p2.d (P.fld TP.cl TP.ns (HS A) rfl) (.va rfl) hb (fun H' kp=>.t (.c (.ix (.va rfl) (kp _ _ ha (fun z=>by rw[z,P.p2.d.root]at ha;cases ha)) rfl) (.c (.va rfl) .ni)) rfl) (by rw[<- sr1.len];lia) (sr1.low (by lia)) ?_;intro l p H2 hl hp hm hd kp;have kt2:=P.p2.d.kt (fun _ _ z=>HO.noConfusion z) kp;have P2:bD CP CQ B H2 A rs (Pz.note S a price) _ xl xr _ _ _:=P.LY hd (sr1.add (k:=(a.1,a.2.1)) (v:=(a.2.2,price)) mL (IsSet.keep kt2) ⟨p,rfl,hm⟩) (fun c z=>(iH z).imp id fun z=>by rw[z];exact hl) kp;generalize kf xs (k2 (a.1,a.2.1)) l (.ref p)=xs2 at P2;refine p8 (fun H H' k=>IsLack.keep k) P2 P2.p3.d P2.p3.r TP.cl TP.nl (HU A) (j:=3) (k:=(a.1,a.2.1)) rfl rfl (kt2 _ _ hb) (GX A b0 price b) (Pz.kG aF a price) (fun B1 T H4=>PAt CP CQ B1 H4 A rs T xs2 xl xr) ⟨none,none,none,rfl⟩ (fun B1 H1 P=>⟨_,_,_,P⟩)
  (fun B1 T H1 ⟨_,_,_,P⟩=>⟨P.same,P.p3.d⟩) (fun B1 i x v σ H4 D' k4 e1 e2 e3 e4 k=>KP e4 e2 e3 (k4 _ _ (kt2 _ _ ha)) (gm (step:=Pz.kG aF a price) (fun S x=>Pz.cb S _ _ _ _) fit1 e1) k) fun B1 σ H4 b1 k4 s w=>?_
 obtain⟨u,v,z,rfl⟩:=s;obtain⟨_,_,_,Q4⟩:=w;have ha4:=k4 _ _ (kt2 _ _ ha);exact p8 (fun H H' k=>IsNum.keep k) Q4 Q4.p4.d Q4.p4.r TP.cl TP.nr (KJ A) (j:=3) (k:=(a.1,a.2.1)) rfl rfl (k4 _ _ (kt2 _ _ hb)) (GX A b0 price b) (Pz.cu aF a price) (fun B1 T H6=>∃ xl',PAt CP CQ B1 H6 A rs T xs2 xl' xr) ⟨_,_,_,rfl⟩ (fun B1 H1 P=>⟨_,_,_,_,P⟩)
  (fun B1 T H1 ⟨_,_,_,_,P⟩=>⟨P.same,P.p4.d⟩) (fun B1 i x v σ H6 D' k6 e1 e2 e3 ⟨_,e4⟩ k=>KQ e4 e2 e3 (k6 _ _ ha4) (rok _ _ (OU e1)) (gm (step:=Pz.cu aF a price) (Pz.jd a price) fit e1) k) fun B2 σ H6 b2 k6 s ⟨xl',w⟩=>k σ H6 _ xl' (w.less (b1.trans b2))
theorem rY (TP:iU K CP)(h:iu CP CQ vs H Q E):vv K CP CQ (eQ Q) (bj (nS 7) vs) H:=by
 obtain⟨⟨xp,kt,col,P⟩,ha,rok,fit,k⟩:=h
 delta vv aP bh
 exact jg (.c (.ix (.va rfl) ha rfl) (.c (.ix (.va rfl) ha rfl) .ni)) rfl fun b hb=>KR TP (P.more (az hb)) (az hb _ _ ha) ao rok fit rfl fun _=>k
end
section
variable {K:SG}
theorem bD.wL (h:bD CP CQ B H A rs S xs xl xr xp kt col)(h0:∃ dx,H' A.aq=some (.ins CQ dx (qf A m)))(h1:DL .dK H' A.ap xp')(h2:RepM k1 IsItem H' d' xp')(hn:∀ c,cE A.ap xp' c->cE A.ap xp c\/H c=none)
 (kp:∀ c u,H c=some u->¬ cE A.ap xp c->c≠A.aq->H' c=some u):bD CP CQ B H' A rs { S with last:=m,aN:=d' } xs xl xr xp' kt (pW col 1 H):=by
 obtain⟨dy,hq⟩:=h.po.BE;have k:KT H H':=fun c ws e=>kp c _ e (fun i=>by
  rcases i with rfl|⟨x,hx,rfl⟩
  .rw[h.p1.d.root]at e;cases e
  .rw[h.p1.d.qt x hx]at e;cases e) fun z=>by rw[z,hq]at e;cases e
 have kj:∀ c u,H c=some u->col c≠1->col c≠7->H' c=some u:=fun c u e n n'=>kp c u e (fun i=>n (h.p1.c c i).1) fun z=>n' (by rw[z];exact h.po.c7.1);obtain⟨⟨dx,i1⟩,_,i3,i4,c5,c6,c7⟩:=h.po;refine⟨(fun c u e=>kp c u (h.same c u e) (fun i=>by rw[(h.p1.c c i).2]at e;cases e) fun z=>by rw[z,c7.2]at e;cases e),h.p1.new h.same h1 h2 hn,h.p2.keep (IsSet.keep k) (fun c u e z=>kj c u e (by lia) (by lia)) fun c=>bE,h.p3.keep (IsLack.keep k) (fun c u e z=>kj c u e (by lia) (by lia)) fun c=>bE,h.p4.keep (IsNum.keep k) (fun c u e z=>kj c u e (by lia) (by lia)) fun c=>bE,⟨dx,kj _ _ i1 (by lia) (by lia)⟩,h0,kj _ _ i3 (by lia) (by lia),i4.keep k,?_,?_,?_⟩
 .rw[bE (by rw[i3];simp)];exact c5
 .rw[bE (by rw[i1];simp)];exact c6
 .rw[bE (by rw[hq];simp)];exact c7
inductive sI (CP CQ:Addr):Sp
 |mk {B H:Hp} {A:PA} {rs:Pz.RS} {S T:Pz.PS} {xs xl xr:DX (List bG)} {n:Nat} {Q:VK} {E:XK} (P:PAt CP CQ B H A rs S xs xl xr) (rok:p9 rs) (fit:Pz.ja S) (lp:Pz.Loop aF rs n S T) (k:∀ H' xs' xl',PAt CP CQ B H' A rs T xs' xl' xr->Q .bC H'):sI CP CQ [.ref A.o] H Q E
def Ia (K:SG) (CP CQ:Addr):TS:=cI (br (aZ ou (aZ (jq K) (qT (dR K (au 0) "told") (au 2)) (tC (.int 0))) (au 1))) (cw (dZ CP "settle" (iu CP CQ) [] E0 (au 0) (aj (au 2) (aj (au 1) aG)))) bY
def Ib (K:SG) (CP CQ:Addr):TS:=f6 (cU K (dZ CQ "take_lowest" (nG CQ) [] E0 (dR K (au 0) "offers") aG)) (dQ K 2 (be (aE 1) (be (aE 2) dP))) (Ia K CP CQ)
def KU (K:SG) (CP CQ:Addr):TS:=ph (sM (tB (dZ CQ "is_empty" (jS CQ) [] E0 (dR K (au 0) "offers") aG))) (Ib K CP CQ)
theorem w8 (h:sI CP CQ vs H Q E):vs.length=1:=by cases h;rfl
theorem Fu (A:PA) (last:Int):(qf A last).lookup ("is_empty" : Str)=none:=rfl
theorem CI (A:PA) (last:Int):(qf A last).lookup ("take_lowest" : Str)=none:=rfl
theorem w_ (A:PA):(pf A).lookup ("settle" : Str)=none:=rfl
variable {D:Ends}{σ:L2.St}{T:Pz.PS}{m:Nat}
def Ic (A:PA)(σ:L2.St):Prop:=∃ u v,σ=[some (.ref A.o),u,v]
def wA (CP CQ:Addr)(B:Hp)(A:PA)(rs:Pz.RS)(xr:DX (List bG))(T:Pz.PS)(m:Nat)(σ:L2.St)(H:Hp):Prop:=Ic A σ/\∃ S xs xl,PAt CP CQ B H A rs S xs xl xr/\Pz.ja S/\Pz.Loop aF rs m S T
theorem al3 (TP:iU K CP)(rok:p9 rs)(P:PAt CP CQ B H A rs S xs xl xr)(h:IsItem H x v)(hs:Ic A σ)(kn:Pz.bM S.told x.2≠none)(f:Pz.ja (Pz.turn aF rs S x))
 (k:∀ σ' H',Ic A σ'->(∃ xs' xl',PAt CP CQ B H' A rs (Pz.turn aF rs S x) xs' xl' xr)->D.nx σ' H'):dQ K 2 (be (aE 1) (be (aE 2) dP)) v σ H fun σ2 H2=>Ia K CP CQ D σ2 H2:=by
 obtain⟨t,_,rfl,ht,b,rfl,hb⟩:=h;obtain⟨u,w,rfl⟩:=hs;have P':=P;obtain⟨_,_,_,Q⟩:=P';rcases Q.po.tr.find x.2 with⟨_,e2⟩|⟨_,y,e1,e2,q,rfl,hq⟩
 .exact(kn e2).elim
 unfold Pz.turn Pz.qD at f k;rw[e2]at f k;refine ua ht (fI (.AO (.ix (fun _ z=>Q.fld TP.cl TP.nt (CF A) rfl _ ⟨_,rfl,A.ta,.ref q,rfl,by rw[<- e1];exact DGet.t Q.po.td hb,z⟩) hq rfl) (.va rfl)) (fun h=>?_) fun h=>?_)
 .rw[OK h]at f k;exact rQ (.va rfl) Q.po.ins (w_ A) (.c (.va rfl) (.c (.va rfl) .ni)) (.mk P hb rok f fun H' xs' xl' P'=>k _ H' ⟨_,_,rfl⟩ ⟨xs',xl',P'⟩)
 .rw[OL h]at k;exact k _ H ⟨_,_,rfl⟩ ⟨xs,xl,P⟩
theorem al2 (TP:iU K CP)(rok:p9 rs)(P:bD CP CQ B H A rs S xs xl xr xp kt col)(fit:Pz.ja S)(hs:Ic A σ)(hne:S.aN≠[])(aX:Pz.sL aF S.last S.aN)(hkn:∀ x∈Pz.c9 aF S.aN,Pz.bM S.told x.2≠none)(fit2:Pz.ja (Pz.batch aF rs (Pz.take aF S) (Pz.c9 aF S.aN)))
 (lp:Pz.Loop aF rs m (Pz.batch aF rs (Pz.take aF S) (Pz.c9 aF S.aN)) T) (k:∀ σ' H',wA CP CQ B A rs xr T m σ' H'->D.nx σ' H'):Ib K CP CQ D σ H:=by
 obtain⟨u,v,rfl⟩:=hs;have pr:RepM k1 IsItem H S.aN xp:=P.p1.r;have f1:=fit.p;have f2:=fit.pf;unfold Pz.L at f1 f2;refine eU (rQ (P.fld TP.cl TP.no (Fk A) rfl) P.po.BE (CI A _) .ni (.mk ⟨P.po.BE,P.p1.d,by rw[<- pr.len];lia,pr.low (by lia)⟩ pr aX hne (by lia) ?_));intro l vs' xp' H1 G1 R1 hl1 a1 nl il sub1 kp1;have P1:bD CP CQ B H1 A rs (Pz.take aF S) xs xl xr xp' kt _:=P.wL (m:=Pz.lowP S.aN) (d':=Pz.left aF S.aN) G1.ins G1.aN R1 sub1 kp1;obtain⟨B1,w1,w2,w3,P2⟩:=P1.wide (fun c=>c=l) fun c e=>by
  subst e;rcases il with il|il
  .have hc:=(P.p1.c c il).1;refine⟨nl,fun i=>?_,fun i=>?_,fun i=>?_,fun z=>?_,fun z=>?_,fun z=>?_⟩
   .have:=(P.p2.c c i).1;lia
   .have:=(P.p3.c c i).1;lia
   .have:=(P.p4.c c i).1;lia
   .have:=P.po.c5.1;rw[z]at hc;lia
   .have:=P.po.c6.1;rw[z]at hc;lia
   .have:=P.po.c7.1;rw[z]at hc;lia
  .exact⟨nl,(P.obj il).2⟩
 have sm:∀ T' H2,(∃ xs' xl',PAt CP CQ B1 H2 A rs T' xs' xl' xr)->Same B1 H2:=fun T' H2 ⟨_,_,_,_,_,P⟩=>P.same;exact⟨l,rfl,⟨_,SqL.of hl1⟩,pZ (it:=IsItem) (Ic A) (Pz.turn aF rs) (Pz.take aF S) (fun T' H2=>∃ xs' xl',PAt CP CQ B1 H2 A rs T' xs' xl' xr) ⟨_,_,rfl⟩ ⟨xs,xl,_,_,_,P2⟩ (fun T' H2 w=>⟨.inl (sm T' H2 w _ _ (w3 l _ rfl hl1)),a1.mono (IsItem.keep fun c ws e=>sm T' H2 w _ _ (w2 _ _ e))⟩)
  (fun i x v σ H2 D' hx ix s ⟨_,_,w⟩ k=>al3 TP rok w ix s (Pz.ic _ (fun S x k=>Pz.Cv k) _ _ (hkn x (OU hx))) (gm (step:=Pz.turn aF rs) Pz.wN fit2 hx) k) fun σ H2 s ⟨xs',xl',w⟩=>k σ H2 ⟨s,_,xs',xl',w.less w1,fit2,lp⟩⟩
theorem zC (TP:iU K CP)(h:sI CP CQ vs H Q E):KU K CP CQ (eQ Q) (bj (nS 3) vs) H:=by
 obtain @⟨B,H,A,rs,S,T,xs,xl,xr,n,Q,E,P,rok,fit,lp,k⟩:=h;refine⟨wA CP CQ B A rs xr T,⟨n,⟨none,none,rfl⟩,S,xs,xl,P,fit,lp⟩,?_⟩;clear P lp fit;rintro m σ H ⟨hs,S,xs,xl,⟨xp,kt,col,P⟩,fit,lp⟩;have h0:σ[0]?=some (some (.ref A.o)):=by obtain⟨_,_,rfl⟩:=hs;rfl
 have el:xp.kv.length=S.aN.length:=by unfold DX.kv;rw[Ot,<- P.p1.r.len]
 obtain⟨dy,hq⟩:=P.po.BE;have f1:=fit.p;unfold Pz.L at f1;refine rQ (P.fld TP.cl TP.no (Fk A) h0) ⟨dy,hq⟩ (Fu A _) .ni (.mk hq P.p1.d.root (by rw[el,OG];lia) ⟨_,rfl,?_⟩);rw[el];cases lp with
 |done e=>rw[e];exact cM (k H xs xl ⟨xp,kt,col,P⟩)
 | @step m _ _ hne aX hkn _ fit2 lp=>rw[OZ fun z=>hne (Pn.mp z)];exact d8 ⟨wA CP CQ B A rs xr T m,fun σ' H' h'=>⟨m,P_ _,h'⟩,al2 TP rok P fit hs hne aX hkn fit2 lp fun _ _=>id⟩
end
section
variable {K:SG}{H:Hp}
theorem vw {tb:TS}{D:Ends}{σ:L2.St}{H1:Hp}(Sh:L2.St->Prop)(W:Nat->Hp->Prop)(h0:Sh σ)(h1:W 0 H1)(hW:∀ i H,W i H->SqL K H l vs)
 (hb:∀(i:Nat)(v:V)(p:Addr)(σ:L2.St)(H:Hp)(D':Ends),vs[i]?=some v->H p=none->Sh σ->W i H->(∀ σ' H',Sh σ'->W (i+1) H'->D'.nx σ' H')->g (.ref p) σ (upd H p (.tup [.int (i:Nat),v])) fun σ2 H2=>tb D' σ2 H2)
 (hd:∀ σ H,Sh σ->W vs.length H->D.nx σ H):Wk (JZ K l) g tb D σ H1:=by
 refine⟨fun i m σ H=>m=vs.length-i/\i<=vs.length/\Sh σ/\W i H,⟨vs.length,by simp,OP _,h0,h1⟩,?_⟩;rintro i m σ H ⟨rfl,hi,s,w⟩;have q:=hW i H w;by_cases hlt:i<vs.length
 .refine .inr ⟨⟨vs,vs[i],q,by simp[hlt]⟩,fun σ' H'=>Sh σ'/\W (i+1) H',fun σ' H' p'=>⟨vs.length-(i+1),by lia,rfl,hlt,p'⟩,fun x H' y=>?_⟩;obtain⟨p,v,hp,rfl,rfl,y⟩:=y;exact hb i v p σ H _ (y vs q) hp s w fun _ _=>And.intro
 .have e:i=vs.length:=by lia
  subst e;exact .inl ⟨⟨vs,q,Oq _⟩,hd σ H s w⟩
theorem oX {tb:TS}{D:Ends}{σ:L2.St}(h:ta σ H fun vs H1=>∃ a xs,vs=[.ref a]/\SqL K H1 a xs/\Wk (JZ K a) g tb D σ H1):f6 (vh K ta) g tb D σ H:=h
theorem ui:∀(l:List Pz.Rule)(k i:Nat),(Pz.en l k)[i]?=(l[i]?).map fun r=>(((k+i:Nat):Int),r)
 | [],k,i=>by simp[Pz.en]
 |r::l,k,0=>by simp[Pz.en]
 |r::l,k,i+1=>by show(Pz.en l (k+1))[i]?=(l[i]?).map _;rw[ui l];congr 1;funext r;congr 2;lia
theorem vx {β:Type}(f:β->Int×Pz.Rule->β)(b:β){l:List Pz.Rule}{i:Nat}{r:Pz.Rule}(h:l[i]?=some r):((Pz.en l 0).take (i+1)).foldl f b=f (((Pz.en l 0).take i).foldl f b) ((i:Int),r):=by
 have e:(Pz.en l 0)[i]?=some ((i:Int),r):=by rw[ui,h];simp
 rw[Pi,e,QH];rfl
structure fL (H:Hp) (RL:List Pz.Rule) (p l:Addr) (vs:List V):Prop where
 tup:∃ w0 w1,H p=some (.tup [w0,w1,.ref l])
 lst:Rd H l (.lst vs)
 its:bc (IsRule H) RL vs
theorem bb (s:Same H H')(h:Rd H a u):Rd H' a u:=h.imp (s a _) fun⟨o,e⟩=>⟨o,s a _ e⟩
theorem fL.same (h:fL H RL p l vs)(s:Same H H'):fL H' RL p l vs:=⟨let ⟨w0,w1,e⟩:=h.tup;⟨w0,w1,s _ _ e⟩,bb s h.lst,h.its.mono (IsRule.keep (pX s))⟩
inductive AV:Sp
 |mk {RL:List Pz.Rule} {p l:Addr} {ws:List V} {H:Hp} {Q:VK} {E:XK} (G:fL H RL p l ws) (bW:RL.length<16000000) (k:∀(ar:Addr)(xr:DX (List bG))(H':Hp),Same H H'->DL .dT H' ar xr->RepM k2 IsNum H' (Pz.bV RL) xr->(∀ c,cE ar xr c->H c=none)->Q (.ref ar) H'):AV [.ref p] H Q E
def Bh:R2:=qC fun i j=>.bl (decide (j<i))
def Ie (K:SG):TS:=cI (br (aZ Bh (gS (gn K) (aj (tI K 3 3) aG)) (tC (.int 0)))) (cw (mK K (au 1) (cf (aj (tI K 3 2) (aj (aZ (jq K) (tI K 3 3) (tC (.int 0))) aG))) (cf (aj (au 2) (aj (au 3) aG))))) bY
def KW (K:SG):TS:=aP (f6 (vh K (aj (tI K 0 2) aG)) (dQ K 2 (be (aE 2) (be (aE 3) dP))) (Ie K)) (bU (au 1))
def M_ (K:SG):TS:=aP (bh j4 (aE 1)) (KW K)
theorem zD (h:AV vs H Q E):vs.length=1:=by cases h;rfl
theorem xa (hto:Reads to σ H (.ref a))(hr:H a=some (.dT kvs))(hk:Makes tk σ H ks)(h:∀ b,H b=none->mK K (tC (.ref a)) (tC (.ref b)) te σ (upd H b (.tup ks)) Q):mK K to tk te σ H Q:=hto _ ⟨.inr (.inr (.inl ⟨rfl,.inr ⟨_,hr⟩⟩)),hk _ fun b hb=>(h b hb).2⟩
theorem Fv {β:Type}{it:Hp->β->V->Prop}(kp:∀{H H':Hp},KT H H'->∀ a v,it H a v->it H' a v){to tk te:TE}{σ:L2.St}{ar:Addr}{xr:DX (List bG)}{d:Pz.MD (Int×Int) β}{k:Int×Int}{v:β}{ws:List V}{C:Hp->Prop}(D2:DL .dT H ar xr)(R2:RepM k2 it H d xr)(ok:d.Ok)(kN:d.flat.length<16000000)(ht:Reads to σ H (.ref ar))(hk:Makes tk σ H [.int k.1,.int k.2])(hm:∀ H',KT H H'->Makes te σ H' ws)(hi:∀ p H',KT H H'->H' p=some (.tup ws)->it H' v (.ref p))
 (kk:∀ H' xr',DL .dT H' ar xr'->RepM k2 it H' (d.app k v) xr'->(∀ c,cE ar xr' c->cE ar xr c\/H c=none)->(∀ c u,H c=some u->¬ cE ar xr c->H' c=some u)->C H'):mK K to tk te σ H fun _ H'=>C H':=by
 refine xa ht D2.root hk fun b hb=>?_;have s4:=az (o:=HO.tup [.int k.1,.int k.2]) hb;refine pV (a:=ar) (b:=b) (xs:=xr) (k:=k2 k) (ws:=ws) (D2.keep fun c u e _=>s4 c u e) .k .k ao (fun H' kp=>hm H' fun c vs e=>kp c _ (s4 _ _ e) fun z=>by rw[z,D2.root]at e;cases e) (by rw[<- R2.len];have:=Pz.gC ok;lia) (R2.low kN) ?_;intro l5 p5 H5 hl5 hp5 hm5 hd5 kp5;have kp':∀ c u,H c=some u->¬ cE ar xr c->H5 c=some u:=fun c u e=>kp5 c u (s4 _ _ e);have kt5:=D2.kt (fun _ _ z=>HO.noConfusion z) kp';exact kk H5 _ hd5 (R2.add (k:=k) (v:=v) mL (kp kt5) (hi p5 H5 kt5 hm5)) (fun c z=>(iH z).imp id fun z=>by rw[z];exact s4.free hl5) kp'
variable {D:Ends}{σ:L2.St}{p ar pp c q:Addr}{r:Pz.Rule}{n:Int}{xr:DX (List bG)}{d:Pz.RS}
def KY (p ar:Addr)(σ:L2.St):Prop:=∃ u v,σ=[some (.ref p),some (.ref ar),u,v]
theorem Na (D2:DL .dT H ar xr)(R2:RepM k2 IsNum H d xr)(ok:d.Ok)(kN:d.flat.length<16000000)(hs:KY p ar σ)(hpp:H pp=some (.tup [.int n,.ref c]))(hc:H c=some (.tup [.int r.1,.int r.2.1,.int r.2.2.1,.ref q]))(hq:H q=some (.tup (r.2.2.2.map .int)))
 (k:∀ σ' H' xr',KY p ar σ'->DL .dT H' ar xr'->RepM k2 IsNum H' (Pz.fG d (n,r)) xr'->(∀ c,cE ar xr' c->cE ar xr c\/H c=none)->(∀ c u,H c=some u->¬ cE ar xr c->H' c=some u)->D.nx σ' H'):dQ K 2 (be (aE 2) (be (aE 3) dP)) (.ref pp) σ H fun σ2 H2=>Ie K D σ2 H2:=by
 obtain⟨u,w,rfl⟩:=hs;have e2:(0:Int)<(((r.2.2.2.map V.int).length:Nat):Int)↔r.2.2.2.length>0:=by rw[Ot];lia
 unfold Pz.fG at k;refine ua hpp (fI (.op (.len (.ix (.va rfl) hc rfl) hq) .k fun _ q=>⟨_,_,rfl,rfl,q⟩) (fun h=>?_) fun h=>?_)
 .have h1:=e2.mp (O2 h);rw[OK h1]at k;have hat:(r.2.2.2.map V.int)[0]?=some (.int (r.2.2.2[0]?.getD 0)):=by
   cases hl:r.2.2.2 with
   |nil=>rw[hl]at h1;simp at h1
   |cons x y=>rfl
  exact Fv (k:=(r.2.2.1,r.2.2.2[0]?.getD 0)) (v:=(n,r)) (fun k=>IsNum.keep k) D2 R2 ok kN (.va rfl) (.t (.c (.ix (.va rfl) hc rfl) (.c (.ix (.ix (.va rfl) hc rfl) hq (jo (j:=0) hat)) .ni)) rfl) (fun H' _=>.t (.c (.va rfl) (.c (.va rfl) .ni)) rfl) (fun p H' kt hm=>⟨p,_,rfl,hm,c,q,rfl,kt _ _ hc,kt _ _ hq⟩) fun H' xr'=>k _ H' xr' ⟨_,_,rfl⟩
 .rw[OL fun z=>h (OO (e2.mpr z))]at k;exact k _ H _ ⟨_,_,rfl⟩ D2 R2 (fun c=>.inl) fun c u e _=>e
theorem CJ {Q:VK}{E:XK}(h:AV vs H Q E):M_ K (eQ Q) (bj (nS 4) vs) H:=by
 obtain @⟨RL,p,l,ws,H,Q,E,G,bW,k⟩:=h;intro ar har;have s1:Same H (upd H ar (.dT [])):=az har;obtain⟨w0,w1,hp⟩:=(G.same s1).tup;have bl:∀ i,(((Pz.en RL 0).take i).foldl Pz.fG []).Ok/\(((Pz.en RL 0).take i).foldl Pz.fG []).flat.length<16000000:=fun i=>by obtain⟨a,b⟩:=Pz.t_ ((Pz.en RL 0).take i) [] Pz.rP;have h1:=RY i (Pz.en RL 0);rw[Pz.mI]at h1;have h2:(Pz.MD.flat ([]:Pz.RS)).length=0:=rfl;exact⟨a,by lia⟩
 refine oX (ReadsA.c (.ix (.va (i:=0) rfl) hp (v:=.ref l) rfl) .ni _ ⟨l,ws,rfl,.inl (bb s1 G.lst),?_⟩);refine vw (KY p ar) (fun i H2=>∃ xr,Same H H2/\DL .dT H2 ar xr/\RepM k2 IsNum H2 (((Pz.en RL 0).take i).foldl Pz.fG []) xr/\∀ c,cE ar xr c->H c=none) ⟨none,none,rfl⟩ ⟨[],s1,⟨ao,fun _ h=>(OH h).elim,O_,O_⟩,.nil,fun c i=>?_⟩ (fun i H2 ⟨xr,s2,_⟩=>.inl (bb s2 G.lst)) (fun i v pp σ H2 D' hv hpp hs ⟨xr,s2,D2,R2,n2⟩ k=>?_) fun σ H2 ⟨u,w,e⟩ ⟨xr,s2,D2,R2,n2⟩=>?_
 .rcases i with rfl|⟨x,hx,_⟩
  .exact har
  .exact(OH hx).elim
 .obtain⟨r,hr,c,q,rfl,hc,hq⟩:=G.its.get hv;have s3:=az (o:=HO.tup [.int (i:Nat),.ref c]) hpp;have s03:=s2.trans s3;rw[vx _ _ hr]at k;exact Na (D2.keep fun c u e _=>s3 c u e) (R2.keep (IsNum.keep (pX s3))) (bl i).1 (bl i).2 hs ao (s03 _ _ hc) (s03 _ _ hq) fun σ' H' xr' h1 h2 h3 h4 h5=>k σ' H' h1 ⟨xr',(fun c u e=>h5 c u (s03 _ _ e) fun z=>by rw[n2 c z]at e;cases e),h2,h3,fun c z=>(h4 c z).elim (n2 c) s03.free⟩
 .subst e;rw[Pe (by rw[Pz.mI,G.its.len];exact Oq _)]at R2;exact⟨_,rfl,k ar xr H2 s2 D2 R2 n2⟩
end
section
variable {K:SG}{CP CQ:Addr}{H:Hp}
inductive jT (CP CQ:Addr):Sp
 |mk {B H:Hp} {RL:List Pz.Rule} {o dx p l:Addr} {ws:List V} {Q:VK} {E:XK} (ho:H o=some (.ins CP dx [])) (sb:Same B H) (nb:B o=none) (G:fL H RL p l ws) (bW:RL.length<16000000) (k:∀(A:PA)(xr:DX (List bG))(H':Hp),A.o=o->PAt CP CQ B H' A (Pz.bV RL) Pz.S0 [] [] xr->Q .bC H'):jT CP CQ [.ref o,.ref p] H Q E
def Fy (K:SG)(CQ:Addr):TS:=
 aP (pk K (au 0) (bJ AV [] E0 (aj (au 1) aG)) "rules")
 (aP (pk K (au 0) j4 "told")
 (aP (pk K (au 0) (uK CQ (jU CQ) [] E0 aG) "offers")
 (aP (pk K (au 0) j4 "settled")
 (pk K (au 0) j4 "lacking"))))
theorem rZ (h:jT CP CQ vs H Q E):vs.length=2:=by cases h;rfl
theorem uj (TP:iU K CP)(h:jT CP CQ vs H Q E):Fy K CQ (eQ Q) (bj N vs) H:=by
 obtain @⟨B,H,RL,o,dx,p,l,ws,Q,E,ho,sb,nb,G,bW,k⟩:=h;refine⟨_,rfl,.mk G bW fun ar xr H1 s1 D1 R1 n1=>?_⟩;have ho1:=s1 _ _ ho;have nor:∀ c,cE ar xr c->c≠o:=fun c i z=>by grind
 refine⟨_,rfl,o,CP,dx,_,rfl,ho1,TP.cl,TP.nr,(by grind),?_⟩;generalize hH2:upd H1 o (.ins CP dx (f9 "rules" (.ref ar) []))=H2;have ho2:H2 o=some (.ins CP dx [("rules",.ref ar)]):=by rw[<- hH2,ao];rfl
 have kp2:∀ c u,H1 c=some u->c≠o->H2 c=some u:=fun c u e n=>by rw[<- hH2,aA n];exact e
 intro ta hta;have e3:upd H2 ta (.dT []) o=some (.ins CP dx [("rules",.ref ar)]):=by rw[aA (aB ho2 hta)];exact ho2
 refine⟨_,rfl,o,CP,dx,_,rfl,e3,TP.cl,TP.nt,(by grind),?_⟩;generalize hH4:upd (upd H2 ta (.dT [])) o (.ins CP dx (f9 "told" (.ref ta) [("rules",.ref ar)]))=H4;have no_ta:ta≠o:=(aB ho2 hta).symm;have ho4:H4 o=some (.ins CP dx [("rules",.ref ar),("told",.ref ta)]):=by rw[<- hH4,ao];rfl
 have ta4:H4 ta=some (.dT []):=by rw[<- hH4,aA no_ta,ao]
 have kp4:∀ c u,H2 c=some u->c≠o->H4 c=some u:=fun c u e n=>by rw[<- hH4,aA n,aA (aB e hta)];exact e
 intro aq dq haq hdq ndq;refine .mk ao fun ap H5 hap hq5 hp5 kp5=>⟨rfl,?_⟩;have kp5':∀ c u,H4 c=some u->H5 c=some u:=fun c u e=>kp5 c u (by rw[aA (aB e haq),aA (aB e hdq)];exact e) (aB e haq);have ap4:H4 ap=none:=by
  have h1:ap≠aq:=fun z=>by grind
  have h2:ap≠dq:=fun z=>by rw[z,aA ndq,ao]at hap;cases hap
  rw[aA h1,aA h2]at hap;exact hap
 have apq:ap≠aq:=fun z=>by grind
 refine⟨_,rfl,o,CP,dx,_,rfl,kp5' _ _ ho4,TP.cl,TP.no,(by grind),?_⟩;generalize hH6:upd H5 o (.ins CP dx (f9 "offers" (.ref aq) [("rules",.ref ar),("told",.ref ta)]))=H6;have noq:aq≠o:=fun z=>by grind
 have nop:ap≠o:=fun z=>by grind
 have ho6:H6 o=some (.ins CP dx [("rules",.ref ar),("told",.ref ta),("offers",.ref aq)]):=by rw[<- hH6,ao];rfl
 have kp6:∀ c u,H5 c=some u->c≠o->H6 c=some u:=fun c u e n=>by rw[<- hH6,aA n];exact e
 intro sa hsa;have nsa:sa≠o:=(aB ho6 hsa).symm;refine⟨_,rfl,o,CP,dx,_,rfl,(by rw[aA (aB ho6 hsa)];exact ho6),TP.cl,TP.ns,(by grind),?_⟩;generalize hH8:upd (upd H6 sa (.dT [])) o (.ins CP dx (f9 "settled" (.ref sa) [("rules",.ref ar),("told",.ref ta),("offers",.ref aq)]))=H8;have ho8:H8 o=some (.ins CP dx [("rules",.ref ar),("told",.ref ta),("offers",.ref aq),("settled",.ref sa)]):=by rw[<- hH8,ao];rfl
 have sa8:H8 sa=some (.dT []):=by rw[<- hH8,aA nsa,ao]
 have kp8:∀ c u,H6 c=some u->c≠o->H8 c=some u:=fun c u e n=>by rw[<- hH8,aA n,aA (aB e hsa)];exact e
 intro la hla;have nla:la≠o:=(aB ho8 hla).symm;refine⟨_,rfl,o,CP,dx,_,rfl,(by rw[aA (aB ho8 hla)];exact ho8),TP.cl,TP.nl,(by grind),?_⟩;generalize hH9:upd (upd H8 la (.dT [])) o (.ins CP dx (f9 "lacking" (.ref la) [("rules",.ref ar),("told",.ref ta),("offers",.ref aq),("settled",.ref sa)]))=H9;have ho9:H9 o=some (.ins CP dx (pf ⟨o,ta,aq,ap,sa,la,ar⟩)):=by rw[<- hH9,ao];rfl
 have la9:H9 la=some (.dT []):=by rw[<- hH9,aA nla,ao]
 have kp9:∀ c u,H8 c=some u->c≠o->H9 c=some u:=fun c u e n=>by rw[<- hH9,aA n,aA (aB e hla)];exact e
 have sa9:=kp9 _ _ sa8 nsa;have k69:∀ c u,H6 c=some u->c≠o->H9 c=some u:=fun c u e n=>kp9 c u (kp8 c u e n) n;have k59:∀ c u,H5 c=some u->c≠o->H9 c=some u:=fun c u e n=>k69 c u (kp6 c u e n) n;have k49:∀ c u,H4 c=some u->c≠o->H9 c=some u:=fun c u e n=>k59 c u (kp5' c u e) n;have k19:∀ c u,H1 c=some u->c≠o->H9 c=some u:=fun c u e n=>k49 c u (kp4 c u (kp2 c u e n) n) n;have fr:∀ c,H9 c≠none->H c=none->B c=none:=fun c _ e=>sb.free e;have oldR:∀ c,cE ar xr c->H1 c≠none:=fun c i=>D1.obj i;have n1_ta:H1 ta=none:=by
  cases e:H1 ta with
  |none=>rfl
  |some u=>rw[kp2 _ _ e no_ta]at hta;cases hta
 have n4_up:∀ c,H4 c=none->c≠o->H1 c=none/\c≠ta:=fun c e n=>by
  refine⟨?_,fun z=>by grind⟩;cases e':H1 c with
  |none=>rfl
  |some u=>rw[kp4 _ _ (kp2 _ _ e' n) n]at e;cases e
 have n5_up:∀ c,H5 c=none->c≠o->H4 c=none/\c≠aq/\c≠ap:=fun c e n=>by
  refine⟨?_,(fun z=>by grind),fun z=>by grind⟩;cases e':H4 c with
  |none=>rfl
  |some u=>rw[kp5' _ _ e']at e;cases e
 have n6_up:∀ c,H6 c=none->H5 c=none:=fun c e=>by
  cases e':H5 c with
  |none=>rfl
  |some u=>
   by_cases n:c=o
   .rw[n,ho6]at e;cases e
   .rw[kp6 _ _ e' n]at e;cases e
 have n8_up:∀ c,H8 c=none->H6 c=none/\c≠sa:=fun c e=>by
  refine⟨?_,fun z=>by grind⟩;cases e':H6 c with
  |none=>rfl
  |some u=>
   by_cases n:c=o
   .rw[n,ho8]at e;cases e
   .rw[kp8 _ _ e' n]at e;cases e
 obtain⟨la6,la_sa⟩:=n8_up la hla;obtain⟨la4,la_aq,la_ap⟩:=n5_up la (n6_up la la6) nla;obtain⟨la1,la_ta⟩:=n4_up la la4 nla;obtain⟨sa4,sa_aq,sa_ap⟩:=n5_up sa (n6_up sa hsa) nsa;obtain⟨sa1,sa_ta⟩:=n4_up sa sa4 nsa;obtain⟨aq1,aq_ta⟩:=n4_up aq haq noq;obtain⟨ap1,ap_ta⟩:=n4_up ap ap4 nop;have H0of:∀ c,H1 c=none->H c=none:=fun c e=>s1.free e;have same:Same B H9:=fun c u e=>k19 c u (s1 c u (sb c u e)) fun z=>by grind
 have inNil:∀{a c:Addr},cE a ([]:DX (List bG)) c->c=a:=fun i=>i.elim id fun⟨x,hx,_⟩=>(OH hx).elim
 classical
 refine k ⟨o,ta,aq,ap,sa,la,ar⟩ xr H9 rfl ⟨[],[],fun c=>if c=o then 6 else if c=ta then 5 else if c=aq then 7 else if c=ap then 1 else if c=sa then 2 else if c=la then 3 else 4,same,⟨⟨?_,fun _ h=>(OH h).elim,O_,O_⟩,.nil,fun c i=>?_⟩,⟨⟨sa9,fun _ h=>(OH h).elim,O_,O_⟩,.nil,fun c i=>?_⟩,⟨⟨la9,fun _ h=>(OH h).elim,O_,O_⟩,.nil,fun c i=>?_⟩,⟨D1.keep fun c u e i=>k19 c u e (nor c i),R1.keep (IsNum.keep fun c ws e=>k19 c _ e fun z=>by grind),fun c i=>?_⟩,⟨dx,ho9⟩,⟨dq,k59 _ _ hq5 noq⟩,k49 _ _ ta4 no_ta,.nil,?_,?_,?_⟩
 .exact k59 _ _ hp5 nop
 .have:c=ap:=i.elim id fun⟨x,hx,_⟩=>(OH hx).elim;subst this;exact⟨by grind,sb.free (H0of _ ap1)⟩
 .have:=inNil i;dsimp only at this;subst this;exact⟨by grind,sb.free (H0of _ sa1)⟩
 .have:=inNil i;dsimp only at this;subst this;exact⟨by grind,sb.free (H0of _ la1)⟩
 .have hc:=oldR c i;refine⟨?_,sb.free (n1 c i)⟩;rw[OL (nor c i),OL (fun z=>hc (by grind)),OL (fun z=>hc (by grind)),OL (fun z=>hc (by grind)),OL (fun z=>hc (by grind)),OL (fun z=>hc (by grind))]
 .exact⟨by grind,sb.free (H0of _ n1_ta)⟩
 .exact⟨OK rfl,nb⟩
 .exact⟨by grind,sb.free (H0of _ aq1)⟩
end
noncomputable def gV (a:Pz.Arr):D:=.tup [.int a.1,.int a.2.1,.int a.2.2]
noncomputable def fJ (r:Pz.Rule):D:=.tup [.int r.1,.int r.2.1,.int r.2.2.1,.tup (r.2.2.2.map .int)]
noncomputable def oD:Option Int->D
 |none=>.bC
 |some i=>.int i
def Fz (x:Pz.mG):D:=.tup [.int x.1,oD x.2.1,oD x.2.2]
def oY (t:Pz.TD):D:=.xI (t.map fun x=>.inr (ak x.1)) (t.map fun x=>Fz x.2)
def mM (ds:List D)(t:Pz.TD):Prop:=∃(RL:List Pz.Rule)(M:List Pz.Arr)(h0 h1 m0 m2:D)(n:Nat)(T:Pz.PS),ds=[.tup [h0,h1,.lst (RL.map fJ)],.tup [m0,.lst (M.map gV),m2]]/\RL.length<16000000/\Pz.ja (Pz.ie aF RL M)/\Pz.Loop aF (Pz.bV RL) n (Pz.ie aF RL M) T/\t=T.told
open Classical in
def xT (Fr:List D->Res R)(ds:List D):Res R:=match Fr ds with
 | .ok _=>if h:∃ t,mM ds t then .ok (.DB (oY (Classical.choose h))) else .stuck
 | .exc c=>.exc c
 | .stuck=>.stuck
theorem uk:∀{ns:List Int}{vs:List V},IsAll H m (ns.map .int) vs->vs=ns.map .int
 | [],vs,h=>h
 |n::ns,vs,h=>by obtain⟨v,r,rfl,h1,h2⟩:=h;rw[uk h2,show v=.int n from h1];rfl
theorem FA (h:Is H m (fJ r) v):IsRule H r v:=by obtain⟨a,vs,rfl,ha,v0,r0,rfl,e0,v1,r1,rfl,e1,v2,r2,rfl,e2,v3,r3,rfl,⟨q,ws,rfl,hq,hw⟩,rfl⟩:=h;obtain rfl:v0=.int r.1:=e0;obtain rfl:v1=.int r.2.1:=e1;obtain rfl:v2=.int r.2.2.1:=e2;exact⟨a,q,rfl,ha,by rw[hq,uk hw]⟩
theorem D5 (h:Is H m (gV r) v):IsArr H r v:=by obtain⟨a,vs,rfl,ha,v0,r0,rfl,e0,v1,r1,rfl,e1,v2,r2,rfl,e2,rfl⟩:=h;obtain rfl:v0=.int r.1:=e0;obtain rfl:v1=.int r.2.1:=e1;obtain rfl:v2=.int r.2.2:=e2;exact⟨a,rfl,ha⟩
theorem vy {α:Type}{H:Hp}{m:Addr->Prop}{f:α->D}{it:α->V->Prop}(hf:∀ x v,Is H m (f x) v->it x v):∀{xs:List α}{vs:List V},IsAll H m (xs.map f) vs->bc it xs vs
 | [],vs,h=>by cases (show vs=[] from h);exact .nil
 |x::xs,vs,h=>by obtain⟨v,r,rfl,h1,h2⟩:=h;exact .cons (hf x v h1) (vy hf h2)
theorem zE (h:Is H m (.lst ds) v):∃ a vs,v=.ref a/\Rd H a (.lst vs)/\IsAll H m ds vs:=by obtain⟨a,vs,rfl,h1,h2⟩:=h;exact⟨a,vs,rfl,h1.imp And.left fun⟨o,e,_⟩=>⟨o,e⟩,h2⟩
theorem KZ (RL:List Pz.Rule):p9 (Pz.bV RL):=fun k x hx=>by
 rcases (Pz.pU _ _ _ _).mp hx with h|⟨_,y,l,e,_⟩
 .exact(OH h).elim
 .rw[e];simp
section
variable {K:SG}{CP CQ:Addr}{H:Hp}
def Ig (K:SG) (CP CQ:Addr):TS:=aP (cw (dZ CP "settle_all" (sI CP CQ) [] E0 (au 2) aG)) (bU (dR K (au 2) "told"))
def Ih (K:SG)(CP CQ:Addr):TS:=cI (br (aZ ou (gS (gn K) (aj (tI K 5 3) aG)) (tC (.int 0))))
 (cw (dZ CP "offer" (dJ CP CQ) [] E0 (au 2) (aj (cf (aj (tI K 5 0) (aj (tI K 5 1) (aj (tI K 5 2) aG)))) (aj (tC (.int 1)) (aj (au 4) (aj (tC .bC) aG)))))) bY
def Ii (K:SG)(CP CQ:Addr):TS:=aP (f6 (vh K (aj (tI K 0 2) aG)) (dQ K 2 (be (aE 4) (be (aE 5) dP))) (Ih K CP CQ)) (Ig K CP CQ)
def Ij (CP CQ:Addr):TS:=cw (dZ CP "offer" (dJ CP CQ) [] E0 (au 2) (aj (au 3) (aj (tC (.int 0)) (aj (tC .bC) (aj (tC .bC) aG)))))
def Ik (K:SG)(CP CQ:Addr):TS:=aP (f6 (cU K (tI K 1 1)) (aE 3) (Ij CP CQ)) (Ii K CP CQ)
def CL (K:SG)(mg:Str->Option SI)(Fr:List D->Res R)(CP CQ:Addr)(E:XK):TS:=aP (cw (bJ (y9 mg 2 Fr) [] E (aj (au 0) (aj (au 1) aG)))) (aP (bh (uK CP (jT CP CQ) [] E0 (aj (au 0) aG)) (aE 2)) (Ik K CP CQ))
theorem FC (A:PA):(pf A).lookup ("settle_all" : Str)=none:=rfl
theorem FD (h:RepT H t kt):(t.map fun x=>(Sum.inr (ak x.1):DK))=kt.map (fun p=>.inr p.1)/\IsAll H m (t.map fun x=>Fz x.2) (kt.map Prod.snd):=by
 have ho:∀ o:Option Int,Is H m (oD o) (vO o):=fun o=>by cases o<;>rfl
 induction h with
 |nil=>exact⟨rfl,rfl⟩
 | @cons x y _ _ q _ ih=>obtain⟨e,p,hp,hv⟩:=q;exact⟨by rw[OE,OE,e,ih.1],y.2,_,rfl,⟨p,_,hp,hv,_,_,rfl,rfl,_,_,rfl,ho _,_,_,rfl,ho _,rfl⟩,ih.2⟩
section
variable {D:Ends}{σ:L2.St}{B:Hp}{A:PA}{rs:Pz.RS}{S T:Pz.PS}{xs xl xr:DX (List bG)}{p0 p1 l lm:Addr}{RL:List Pz.Rule}{M:List Pz.Arr}{ws wm:List V}{n:Nat}
def CM (p0 p1:Addr)(A:PA)(σ:L2.St):Prop:=∃ u v w,σ=[some (.ref p0),some (.ref p1),some (.ref A.o),u,v,w]
theorem pr2 (P:PAt CP CQ B H A rs S xs xl xr)(h:IsArr H a v)(hs:CM p0 p1 A σ)(f:Pz.ja (Pz.gT aF S a))(k:∀ σ' H',CM p0 p1 A σ'->PAt CP CQ B H' A rs (Pz.gT aF S a) xs xl xr->D.nx σ' H'):aE 3 v σ H fun σ2 H2=>Ij CP CQ D σ2 H2:=by obtain⟨b,rfl,hb⟩:=h;obtain⟨u,w,z,rfl⟩:=hs;have P':=P;obtain⟨_,_,_,Q⟩:=P';exact rQ (.va rfl) Q.po.ins (zA A) (.c (.va rfl) (.c .k (.c .k (.c .k .ni)))) (.mk (n:=none) (m:=none) P hb f fun H'=>k _ H' ⟨_,_,_,rfl⟩)
theorem Nb (P:PAt CP CQ B H A rs S xs xl xr)(hp:H pp=some (.tup [.int i,.ref c]))(hc:H c=some (.tup [.int r.1,.int r.2.1,.int r.2.2.1,.ref q]))(hq:H q=some (.tup (r.2.2.2.map .int)))(hs:CM p0 p1 A σ)(f:Pz.ja (Pz.d4 aF S (i,r)))
 (k:∀ σ' H',CM p0 p1 A σ'->PAt CP CQ B H' A rs (Pz.d4 aF S (i,r)) xs xl xr->D.nx σ' H'):dQ K 2 (be (aE 4) (be (aE 5) dP)) (.ref pp) σ H fun σ2 H2=>Ih K CP CQ D σ2 H2:=by
 obtain⟨u,w,z,rfl⟩:=hs;have e2:(((r.2.2.2.map V.int).length:Nat):Int)=0↔r.2.2.2.length=0:=by rw[Ot];lia
 unfold Pz.d4 at f k;refine ua hp (fI (.AO (.len (.ix (.va rfl) hc rfl) hq) .k) (fun h=>?_) fun h=>?_)
 .rw[OK (e2.mp (O2 h))]at f k;exact pY P f (.va rfl) (.t (.c (.ix (.va rfl) hc rfl) (.c (.ix (.va rfl) hc rfl) (.c (.ix (.va rfl) hc rfl) .ni))) rfl) (fun _ _=>.c .k (.c (.va rfl) (.c .k .ni))) fun H'=>k _ H' ⟨_,_,_,rfl⟩
 .rw[OL fun z=>h (OO (e2.mpr z))]at k;exact k _ H ⟨_,_,_,rfl⟩ P
theorem Nc (TP:iU K CP)(P:PAt CP CQ B H A rs S xs xl xr)(rok:p9 rs)(fit:Pz.ja S)(lp:Pz.Loop aF rs n S T)(hs:CM p0 p1 A σ)(k:∀ H' xs' xl',PAt CP CQ B H' A rs T xs' xl' xr->D.rt (.ref A.ta) H'):Ig K CP CQ D σ H:=by obtain⟨u,w,z,rfl⟩:=hs;have P':=P;obtain⟨_,_,_,Q⟩:=P';exact rQ (.va rfl) Q.po.ins (FC A) .ni (.mk P rok fit lp fun H' xs' xl' P'=>by have P2:=P';obtain⟨_,_,_,Q⟩:=P2;exact Q.fld TP.cl TP.nt (CF A) rfl _ (k H' xs' xl' P'))
theorem Nd (TP:iU K CP)(G:fL B RL p0 l ws)(P:PAt CP CQ B H A (Pz.bV RL) (M.foldl (Pz.gT aF) Pz.S0) xs xl xr)(fit:Pz.ja (Pz.ie aF RL M))(rok:p9 (Pz.bV RL))(lp:Pz.Loop aF (Pz.bV RL) n (Pz.ie aF RL M) T)(hs:CM p0 p1 A σ)
 (k:∀ H' xs' xl',PAt CP CQ B H' A (Pz.bV RL) T xs' xl' xr->D.rt (.ref A.ta) H'):Ii K CP CQ D σ H:=by
 obtain⟨w0,w1,hp0⟩:=(G.same P.same).tup;have h0:σ[0]?=some (some (.ref p0)):=by obtain⟨_,_,_,rfl⟩:=hs;rfl
 refine oX (ReadsA.c (.ix (.va h0) hp0 (v:=.ref l) rfl) .ni _ ⟨l,ws,rfl,.inl (bb P.same G.lst),?_⟩);refine vw (CM p0 p1 A) (fun i H5=>PAt CP CQ B H5 A (Pz.bV RL) (((Pz.en RL 0).take i).foldl (Pz.d4 aF) (M.foldl (Pz.gT aF) Pz.S0)) xs xl xr) hs P (fun i H5 P5=>.inl (bb P5.same G.lst)) (fun i v pp σ H5 D' hv hpp hs P5 k=>?_) fun σ H5 hs P5=>?_
 .obtain⟨r,hr,c,q,rfl,hc,hq⟩:=G.its.get hv;have P6:=P5.more (az (o:=.tup [.int (i:Nat),.ref c]) hpp);rw[vx (Pz.d4 aF) (M.foldl (Pz.gT aF) Pz.S0) hr]at k;exact Nb P6 ao (P6.same _ _ hc) (P6.same _ _ hq) hs (gm (step:=Pz.d4 aF) (fun S x=>by unfold Pz.d4;split;exact Pz.cb _ _ _ _ _;exact .refl _) (its:=Pz.en RL 0) fit (by rw[ui,hr];simp)) k
 .rw[Pe (by rw[Pz.mI,G.its.len];exact Oq _)]at P5;exact Nc TP P5 rok fit lp hs k
theorem Nf (TP:iU K CP)(G:fL B RL p0 l ws)(hp1:B p1=some (.tup [y0,.ref lm,y2]))(hlm:Rd B lm (.lst wm))(aM:bc (IsArr B) M wm)(P:PAt CP CQ B H A (Pz.bV RL) Pz.S0 xs xl xr)(fit:Pz.ja (Pz.ie aF RL M))(rok:p9 (Pz.bV RL))(lp:Pz.Loop aF (Pz.bV RL) n (Pz.ie aF RL M) T)(hs:CM p0 p1 A σ)
 (k:∀ H' xs' xl',PAt CP CQ B H' A (Pz.bV RL) T xs' xl' xr->D.rt (.ref A.ta) H'):Ik K CP CQ D σ H:=by
 have g2:Pz.eM (M.foldl (Pz.gT aF) Pz.S0) (Pz.ie aF RL M):=Pz.cj _ (fun S x=>by unfold Pz.d4;split;exact Pz.cb _ _ _ _ _;exact .refl _) _ _;have h1:σ[1]?=some (some (.ref p1)):=by obtain⟨_,_,_,rfl⟩:=hs;rfl
 exact eU (Reads.ix (.va h1) (P.same _ _ hp1) (v:=.ref lm) rfl _ ⟨lm,rfl,⟨wm,.inl (bb P.same hlm)⟩,pZ (it:=IsArr) (CM p0 p1 A) (Pz.gT aF) Pz.S0 (fun T H4=>PAt CP CQ B H4 A (Pz.bV RL) T xs xl xr) hs P (fun T' H4 P4=>⟨bb P4.same hlm,aM.mono (IsArr.keep (pX P4.same))⟩)
  (fun i a v σ H4 D' hi ia hs P4 k=>pr2 P4 ia hs (gm (step:=Pz.gT aF) (fun S x=>Pz.cb S _ _ _ _) (g2.fit fit) hi) k) fun σ H4 hs P4=>Nd TP G P4 fit rok lp hs k⟩)
end
theorem r_ {mg:Str->Option SI}{Fr:List D->Res R}(TP:iU K CP)(h:y9 mg 2 (xT Fr) vs H Q E):CL K mg Fr CP CQ E (eQ Q) (bj (nS 6) vs) H:=by
 obtain⟨hl,ds,Ma,is,post⟩:=h;obtain⟨v0,v1,rfl⟩ : ∃ v0 v1,vs=[v0,v1]:=by rcases vs with _|⟨v0,_|⟨v1,_|⟨_,_⟩⟩⟩<;>first|(cases hl;done)|exact⟨_,_,rfl⟩
 refine⟨_,rfl,_,rfl,rfl,ds,Ma,is,?_⟩;unfold xT at post;cases hF:Fr ds with
 |stuck=>rw[hF]at post;exact post
 |exc c=>rw[hF]at post;exact post
 |ok r=>
  rw[hF]at post;dsimp only at post;by_cases hex:∃ t,mM ds t
  case neg=>rw[dif_neg hex]at post;exact post.elim
  case pos=>
  rw[dif_pos hex]at post;have hch:=Classical.choose_spec hex;generalize Classical.choose hex=t at post hch;obtain⟨RL,M,d0,d1,m0,m2,n,T,rfl,bW,fit,lp,rfl⟩:=hch;intro v H1 s1 _;obtain⟨_,_,ev,⟨p0,_,rfl,hp0,w0,_,rfl,_,w1,_,rfl,_,w2,_,rfl,iw2,rfl⟩,_,_,ev2,⟨p1,_,rfl,hp1,y0,_,rfl,_,y1,_,rfl,iy1,y2,_,rfl,_,rfl⟩,rfl⟩:=is;cases ev;cases ev2;obtain⟨l,ws,rfl,hl,iR⟩:=zE iw2;obtain⟨lm,wm,rfl,hlm,iM⟩:=zE iy1;have G:fL H RL p0 l ws:=⟨⟨_,_,hp0⟩,hl,vy (fun x v=>FA) iR⟩;refine⟨_,rfl,fun o dx ho hdx hne=>?_⟩;have s2:Same H (upd (upd H1 dx (.own o)) o (.ins CP dx [])):=s1.trans fun b u e=>by rw[aA (aB e ho),aA (aB e hdx)];exact e
  refine .mk ao s2 (s1.free ho) (G.same s2) bW fun A xr H3 eA P=>⟨rfl,?_⟩;subst eA;refine Nf TP G hp1 hlm (vy (fun x v=>D5) iM) P fit (KZ RL) lp ⟨none,none,none,rfl⟩ fun H6 xs6 xl6 ⟨_,kt6,_,Q6⟩=>?_;obtain⟨t1,t2⟩:=FD (m:=nl H H6) Q6.po.tr;exact post _ H6 Q6.same ⟨A.ta,kt6.map Prod.snd,rfl,⟨.inr ⟨kt6,.inl Q6.po.td,t1,rfl⟩,Q6.po.c5.2,⟨_,Q6.po.td,True.intro⟩⟩,t2⟩
end
theorem zF:∀{n:Nat}{S T:Pz.PS},Pz.Loop pile rs n S T->∀{m:Nat}{T':Pz.PS},Pz.Loop pile rs m S T'->T=T':=by
 intro n S T h;induction h with
 |done e=>
  intro m T' h';cases h' with
  |done _=>rfl
  |step hne=>exact(hne e).elim
 |step hne _ _ _ _ _ ih=>
  intro m T' h';cases h' with
  |done e=>exact(hne e).elim
  |step _ _ _ _ _ h'=>exact ih h'
theorem xb (h:fJ r=fJ s):r=s:=by
 have im:∀{l m:List Int},l.map D.int=m.map D.int->l=m:=fun{l m} e=>by
  induction l generalizing m with
  |nil=>cases m with
   |nil=>rfl
   |cons _ _=>cases e
  |cons x l ih=>cases m with
   |nil=>cases e
   |cons y m=>rw[OE,OE]at e;injection e with e1 e2;injection e1 with e1;rw[e1,ih e2]
 unfold fJ at h;injection h with h;injection h with h0 h;injection h with h1 h;injection h with h2 h;injection h with h3 h;injection h0 with h0;injection h1 with h1;injection h2 with h2;injection h3 with h3;exact SE h0 (SE h1 (SE h2 (im h3)))
theorem zG (h:gV r=gV s):r=s:=by unfold gV at h;injection h with h;injection h with h0 h;injection h with h1 h;injection h with h2 h;injection h0 with h0;injection h1 with h1;injection h2 with h2;exact SE h0 (SE h1 h2)
theorem qa {α:Type}{f:α->D}(hf:∀{x y},f x=f y->x=y):∀{l m:List α},l.map f=m.map f->l=m
 | [],[],_=>rfl
 | [],_::_,e=>nomatch e
 |_::_,[],e=>nomatch e
 |x::l,y::m,e=>by rw[OE,OE]at e;injection e with e1 e2;rw[hf e1,qa hf e2]
theorem FE {Fr:List D->Res R}{h0 h1 m0 m2:D}{r:R}(hs:Pz.Set RL M U)(hr:Fr [.tup [h0,h1,.lst (RL.map fJ)],.tup [m0,.lst (M.map gV),m2]]=.ok r) :
 ∃ t,xT Fr [.tup [h0,h1,.lst (RL.map fJ)],.tup [m0,.lst (M.map gV),m2]]=.ok (.DB (oY t))/\Pz.Good RL M U t:=by
 obtain⟨fit,n,T,lp,good⟩:=hs.run vn;have hl:RL.length<16000000:=by have:=hs.big;unfold Pz.L at this;lia
 have hex:∃ t,mM [.tup [h0,h1,.lst (RL.map fJ)],.tup [m0,.lst (M.map gV),m2]] t:=⟨T.told,RL,M,h0,h1,m0,m2,n,T,rfl,hl,fit,lp,rfl⟩;refine⟨Classical.choose hex,?_,?_⟩
 .unfold xT;rw[hr];dsimp only;rw[dif_pos hex]
 .obtain⟨RL',M',a0,a1,a2,a3,n',T',e,_,_,lp',e2⟩:=Classical.choose_spec hex;rw[e2];injection e with e3 e;injection e3 with e3;injection e3 with _ e3;injection e3 with _ e3;injection e3 with e3 _;injection e3 with e3;injection e with e _;injection e with e;injection e with _ e;injection e with e _;injection e with e;rw[<- qa (fun h=>xb h) e3,<- qa (fun h=>zG h) e]at lp';rw[<- zF lp lp'];exact good
structure Mt (K:SG) (C:Addr) (x q:Str) (st:Stmt) (ps:List Str) (f:Addr) (fd:FuncData):Prop where
 fu:Bq K x q st f fd
 bi:Binds K fd ps []
 me:Meth K C x f
theorem Il {K:SG}{C:Addr}{x q:Str}{st:Stmt}{ps:List Str}{f:Addr}{oc:SI}{od an:Option Addr}{osl:Array (Option SI)}{kV doc pm cdv ct:SI}
 (l:K.lookup f=some ⟨oc,od,.func (PySem.W.fnOf x q (b9 st) (bR st) (aC st) .none kV doc pm an cdv ct),osl⟩) (c:PySem.W.codeIn K cdv q=true) (k:PySem.W.keepIn K (.ref f)=true) (a:PySem.W.findIn K (.ref C) x=some (some (.ref f))) (i:PySem.W.isFn K (.ref f)=true)
 (h:∀(kV doc pm:SI)(an:Option Addr)(cdv ct:SI)(us:List SI),us.length=ps.length->bindArgs (PySem.W.fnOf x q (b9 st) (bR st) (aC st) .none kV doc pm an cdv ct) ⟨us,[]⟩=pure (ps.zip us)) :
 Mt K C x q st ps f (PySem.W.fnOf x q (b9 st) (bR st) (aC st) .none kV doc pm an cdv ct):=
 have F:Bq K x q st f _:=yw l c k
 ⟨F,F.binds h,a,i,k⟩
section
variable {P:SH}{w:World}{K:SG}{mg:Str->Option SI}{base:Heap}
theorem D7 {x qual:Str}{st:Stmt}{f:Addr}(F:Bq K x qual st f fd)(S:aT N ps (aC st))(len:∀ vs H Q E,sp vs H Q E->vs.length=ps.length)
 (body:∀(cdv:SI)(A:SJ)(outer:List Env)(s:SF)(H:Hp)(vs:List V)(Q:VK)(E:XK),cT k (A.deeper (envOfC qual (aC st) s.heap.objs.size f cdv))->sp vs H Q E->
   ∃ t,PSs (qZ P w K mg base N qual (aC st) f cdv A outer s H E) (bR st) t/\t (eQ Q) (bj N vs) H):bF P w K mg base (uP P w) (k+1) f fd ps sp:=by
 obtain⟨oc,od,kV,doc,pm,an,cdv,ct,osl,rfl,lk,hcd⟩:=F.ex;exact ym lk hcd S len fun A outer s H vs Q E hr hsp=>body cdv A outer s H vs Q E hr hsp
end
theorem Ng {α:Type}{l:List α}(h:l.length=2):∃ a b,l=[a,b]:=by rcases l with _|⟨a,_|⟨b,_|_⟩⟩<;>first|(cases h;done)|exact⟨_,_,rfl⟩
theorem gq (hc:X.calm=true)(S:cH X scope tN capN caps)(hi:PI X tg iter wi)(hs:autoParam (∀ x,foldedSetIterable iter X.env x=pure x) SN._auto_1) :
 PE X (.ListComp elt [⟨tg,iter,ifs,0⟩] scope pos) (mC X scope tg tN capN caps elt ifs wi):=fun af s σ H Q I h=>za hc S I hi h hs
def D8 (K:SG):List V->Hp->VK->Prop:=fun xs H Q=>∃ p ns,xs=[.ref p]/\SqL K H p (ns.map V.int)/\ns≠[]/\Q (.int (pM ns)) H
theorem xc (hc:X.calm=true):bQ X (.builtin "min") (D8 X.K):=wu hc
theorem xf (h2:tN.length=2)(hg:∀ cl C s3 H3 fp,PG (bw X scope (tN++[]) cl C s3 H3 fp) tg (dQ X.K 2 (be (aE 0) (be (aE 1) dP))))(he:∀ cl C s3 H3 fp,PE (bw X scope (tN++[]) cl C s3 H3 fp) elt (au 0)) :
 Fj (gS (D8 X.K) (aj (mC X scope tg tN [] [] elt [] (cU X.K (au 1))) aG)):=by
 intro σ H a vs its Q h1 hl a2 hne bW k;refine⟨_,h1,a,rfl,⟨_,SqL.of hl⟩,?_⟩;intro Dl hD cl C s3 fp;have hDa:a≠Dl:=aB hl hD;have hlv:=a2.len;refine⟨_,_,_,fun i m acc H'=>m=its.length-i/\i<=its.length/\acc=((its.take i).map fun x=>V.int x.1)/\Same H H'/\H' Dl=some (.lst acc),hg cl C s3 _ fp,lg,he cl C s3 _ fp,⟨its.length,by simp,OP _,by simp,az hD,ao⟩,?_⟩;rintro i m acc H' ⟨rfl,hi,rfl,s,hDl⟩;have hl':=s _ _ hl;refine⟨hDl,?_⟩;by_cases hlt:i<its.length
 .right;have hiv:i<vs.length:=by lia
  refine⟨⟨vs,vs[i],SqL.of hl',by simp[hiv]⟩,fun xv H'' o y ho=>?_⟩;obtain⟨rfl,y⟩:=y;have hx:=y vs (SqL.of hl');obtain⟨x,ex,p,w,rfl,hp,_⟩:=a2.get hx;rw[h2]at ho;obtain⟨u0,u1,rfl⟩:=Ng ho;refine ua (s _ _ hp) ⟨fun j hj=>?_,?_⟩
  .rw[h2]at hj;obtain⟨j,rfl⟩:=Pf hj;rfl
  .refine d8 ?_;refine⟨_,rfl,hDl,?_,its.length-(i+1),by lia,rfl,hlt,?_,fun c u e=>?_,ao⟩
   .rw[Ot,OG];have:=RY i its;lia
   .rw[Pi,ex,O3];rfl
   .rw[aA (aB e hD)];exact s _ _ e
 .left;have ei:i=its.length:=by lia
  subst ei;refine⟨⟨vs,SqL.of hl',by lia⟩,Dl,its.map (·.1),rfl,?_,by simpa using hne,?_⟩
  .rw[PV]at hDl;rw[PN];exact SqL.of hDl
  .rw[vq];exact k H' s
theorem bK {N P:List Str}{sc:Scope}(a:autoParam (sc.kind=.function) SQ._auto_1)(b:autoParam (sc.isCoroutine=false) SQ._auto_1)(c:autoParam (sc.isGenerator=false) SQ._auto_1)(d:N.Nodup:=by decide +kernel)(e:autoParam (N.take P.length=P) SQ._auto_1)
 (f:∀ x∈P,sc.names.lookup x=some .local\/sc.names.lookup x=some .cell:=by decide +kernel) (g:∀ y∈sc.names,y.2≠.free:=by decide +kernel):aT N P sc:=⟨a,b,c,d,e,f,g⟩
abbrev GY (x q:Str)(st:Stmt)(kV doc pm:SI)(an:Option Addr)(cdv ct:SI):FuncData:=PySem.W.fnOf x q (b9 st) (bR st) (aC st) .none kV doc pm an cdv ct
structure Df (K:SG) (mg:Str->Option SI) (x:Str) (st:Stmt) (ps:List Str) where
 f:Addr
 fd:FuncData
 h:Fn K mg x st ps f fd
structure Mf (K:SG) (C:Addr) (x q:Str) (st:Stmt) (ps:List Str) where
 f:Addr
 fd:FuncData
 h:Mt K C x q st ps f fd
section
variable {K KK:SG}{x q:Str}{st:Stmt}{f C:Addr}{oc:SI}{od an:Option Addr}{osl:Array (Option SI)}{kV doc pm cdv ct:SI}
def Lk (K:SG)(x q:Str)(st:Stmt)(f:Addr):Prop:=∃ oc od an osl kV doc pm cdv ct,K.lookup f=some ⟨oc,od,.func (GY x q st kV doc pm an cdv ct),osl⟩/\PySem.W.codeIn K cdv q=true
theorem lk (l:K.lookup f=some ⟨oc,od,.func (GY x q st kV doc pm an cdv ct),osl⟩)(c:PySem.W.codeIn K cdv q=true):Lk K x q st f:=⟨_,_,_,_,_,_,_,_,_,l,c⟩
def FK (K:SG)(x:Str)(st:Stmt):Prop:=∃ f,PySem.W.nsIn K mainGlobals x=some (some (.ref f))/\Lk K x x st f
theorem fk (a:PySem.W.nsIn K mainGlobals x=some (some (.ref f)))(l:K.lookup f=some ⟨oc,od,.func (GY x x st kV doc pm an cdv ct),osl⟩)(c:PySem.W.codeIn K cdv x=true):FK K x st:=⟨_,a,lk l c⟩
structure MK (K:SG) (C:Addr) (x q:Str) (st:Stmt) (f:Addr):Prop where
 a:PySem.W.findIn K (.ref C) x=some (some (.ref f))
 i:PySem.W.isFn K (.ref f)=true
 l:Lk K x q st f
 k:PySem.W.keepIn K (.ref f)=true
theorem mk (a:PySem.W.findIn K (.ref C) x=some (some (.ref f)))(i:PySem.W.isFn K (.ref f)=true)(l:K.lookup f=some ⟨oc,od,.func (GY x q st kV doc pm an cdv ct),osl⟩)(c:PySem.W.codeIn K cdv q=true)(k:PySem.W.keepIn K (.ref f)=true):MK K C x q st f:=⟨a,i,lk l c,k⟩
structure CK (K KK:SG) (x:Str) (C:Addr):Prop where
 b:PySem.W.nsIn K mainGlobals x=some (some (.ref C))
 pg:PySem.W.plainGet KK C Str.empty=true
 hd:PySem.W.hasDictIn KK C=true
 po:PySem.W.plainOver KK C=true
 sa:PySem.W.findIn KK (.ref C) "__setattr__"=some (some (.builtin "object.__setattr__"))
 m:PySem.W.makesIn KK C=true
 k:PySem.W.keepIn KK (.ref C)=true
theorem CK.cl (c:CK K KK x C):qz KK C:=⟨c.pg,c.hd,c.po,c.sa⟩
variable {mg:Str->Option SI}{ps:List Str}{h:Heap}
noncomputable def AllN:Nat->(List SI->Prop)->Prop
 |0,P=>P []
 |n+1,P=>∀ a,AllN n fun us=>P (a::us)
theorem AllN.of {n:Nat}{P:List SI->Prop}(h:AllN n P):∀ us:List SI,us.length=n->P us:=by
 induction n generalizing P with
 |zero=>intro us e;cases us with|nil=>exact h|cons _ _=>cases e
 |succ n ih=>intro us e;cases us with|nil=>cases e|cons a r=>exact ih (h a) r (Nat.succ.inj e)
theorem df (X:K.In h)(G:h.Ns mainGlobals mg)(U:iT K KK)(k:FK K x st)
 (hb:∀(kV doc pm:SI)(an:Option Addr)(cdv ct:SI),AllN ps.length fun us=>bindArgs (GY x x st kV doc pm an cdv ct) ⟨us,[]⟩=pure (ps.zip us):=by (repeat intro _);exact rfl):Nonempty (Df KK mg x st ps):=by
 obtain⟨f,a,oc,od,an,osl,kV,doc,pm,cdv,ct,l,c⟩:=k;exact⟨f,_,E_ U l c (QP X G a) fun kV doc pm an cdv ct=>(hb kV doc pm an cdv ct).of⟩
theorem mf (k:MK K C x q st f)
 (hb:∀(kV doc pm:SI)(an:Option Addr)(cdv ct:SI),AllN ps.length fun us=>bindArgs (GY x q st kV doc pm an cdv ct) ⟨us,[]⟩=pure (ps.zip us):=by (repeat intro _);exact rfl):∃ m:Mf K C x q st ps,m.f=f:=by
 obtain⟨a,i,⟨oc,od,an,osl,kV,doc,pm,cdv,ct,l,c⟩,kp⟩:=k;exact⟨⟨f,_,Il l c kp a i fun kV doc pm an cdv ct=>(hb kV doc pm an cdv ct).of⟩,rfl⟩
theorem Im (c:CK K KK x C) (k:MK KK C "__init__" q st f):Mk KK C f:=⟨c.m,k.a,k.i,c.k⟩
end
end L4
namespace L2
open PySem PySem.Spec PySem.Calls PyProof.Rows
section
variable {St:Nat->SF->Prop}
def mP (h h':Heap):Prop:=∀ b o,h.get? b=some o->h'.get? b=some o
def zH (prog:SH)(w:World)(A:SJ)(h0:Heap)(P:Nat->SI->Prop)(bt:Nat->Nat->Bool):Prop:=∀ i j u v (s:SF) (Q:SI->SF->Prop) (E:SI->SF->Prop),mP h0 s.heap->P i u->P j v->Q (.bool (bt i j)) s->wpAny (model prog w) A (richCompare .Lt u v) Q E s
theorem iI:(toString "min"++toString ".loop" : String)="min.loop":=by decide
theorem xg (W:WalksS prog w A.in1 I fp wr G n P St)(hcmp:zH prog w A.in1 h0 P bt)(hwr:∀ b∈wr,h0.get? b=none)(hS:S∉fp)(hS0:h0.get? S=none) :
 ∀(k j:Nat)(s:SF)(vb:SI)(c:Nat),n-(j+1)=k->j+1<=n->St (j+1) s->mP h0 s.heap->P (argBest bt j) vb->s.heap.get? S=some { cls:=.type "list",dict:=none,data:=.seq #[vb,vb] c,slots:=#[] }->
  (∀ v s',P (argBest bt (n-1)) v->Moved (S::wr) G s s'->R (.ok (.ret v)) s')->codeAny (model prog w) A (.builtin "min.loop" ⟨[.ref I,.none,.ref S],kw⟩) R s:=by
 have sw:S∉wr:=fun h=>hS (W.sub _ h);have sub:∀ b∈wr,b∈S::wr:=fun b hb=>Ow _ hb;have nS:∀{b:Addr},b∉S::wr->S≠b:=fun hb h=>hb (h▸Ox);have kpM:∀{s s':SF},mP h0 s.heap->Moved wr G s s'->mP h0 s'.heap:=fun hk hm b o e=>hm.heap b o (fun z=>by rw[hwr b z]at e;cases e) (hk b o e);intro k;induction k with
 |zero=>
  intro j s vb c hk hj hst kp hP he hR;have ej:j+1=n:=by lia
  refine P8 F.entry_min_loop ?_;rw[Qo Qx _];refine KE (RK he rfl (KE (Sg (W.done s _ _ (ej▸hst) fun s' hm=>?_))));have he':=hm.heap S _ sw he;refine KE (Rv he' rfl (KE (Sw (Os ?_))));exact hR vb _ (by rw[<- ej];exact hP) ((hm.mono sub).then_heap (tk:=s'.toks) (Oq _) fun b o hb e=>(O1 _ _ (nS hb)).trans e)
 |succ k ih=>
  intro j s vb c hk hj hst kp hP he hR;have hlt:j+1<n:=by lia
  refine P8 F.entry_min_loop ?_;rw[Qo Qx _];refine KE (RK he rfl (KE (Sg (W.item (j+1) s _ _ hlt hst fun v s' hP' hst' hm=>?_))));have he':=hm.heap S _ sw he;have kp':=kpM kp hm;show wpAny _ A.in1 (tryCatch (holding [v,v] (richCompare .Lt v vb >>= _)) _ >>= _) _ _ _;refine KE (Sg (Pl (KE (hcmp (j+1) (argBest bt j) v vb _ _ _ kp' hP' hP (KE (Pl (PX (KE (Sw (Os ?_))))))))));cases hb:bt (j+1) (argBest bt j) with
  |true=>
   simp only[QT];refine KE (Rv he' rfl (KE (Sw ?_)));rw[iI];refine Os ⟨QL Qx _,ih (j+1) _ v _ (by lia) hlt (W.frame _ s' _ s'.toks hst' (Oq _) fun b hbf o e=>?_) (fun b o e=>?_) (by simp only[argBest,hb,QT];exact hP') (Pq _ he' rfl) fun v' s'' hP'' hm''=>?_⟩
   .exact(O1 _ _ (fun h:S=b=>hS (h▸hbf))).trans e
   .exact(O1 _ _ (fun h:S=b=>by rw[<- h,hS0]at e;cases e)).trans (kp' b o e)
   .exact hR v' s'' hP'' (Su W.gtrans ((hm.mono sub).then_heap (Oq _) fun b o hb e=>(O1 _ _ (nS hb)).trans e) hm'')
  |false=>simp only[OM,PL];refine KE (Sw ?_);rw[iI];refine Os ⟨QL Qx _,ih (j+1) _ vb c (by lia) hlt hst' kp' (by simp only[argBest,hb,OM,PL];exact hP) he' fun v' s'' hP'' hm''=>?_⟩;exact hR v' s'' hP'' (Su W.gtrans (hm.mono sub) hm'')
theorem xh (d:SI):Builtin.Builtins.bindParams "min" ["key", "default"] 0 ⟨[],[(("default" : Str),d)]⟩=pure [none,some d]:=by rfl
theorem xj (a d:SI):argsOk "min" ⟨[a],[(("default" : Str),d)]⟩:=by unfold argsOk;kernel_rfl
theorem xk
 (h:wpAny (model prog w) A.in1 (pyIter x) (fun it s₂=>∃ I fp wr G n P St bt h0,it=.ref I/\WalksS prog w A.in1 I fp wr G n P St/\St 0 s₂/\(∀ b∈fp,b<s₂.heap.objs.size)/\zH prog w A.in1 h0 P bt/\mP h0 s₂.heap/\(∀ b∈wr,h0.get? b=none)/\
   (n=0->∀ s',Moved wr G s₂ s'->Q d s')/\(0<n->∀ v s',P (argBest bt (n-1)) v->Moved wr G s₂ s'->Q v s')) E s) :
 wpAny (model prog w) A (call (.builtin "min") [x] [(("default" : Str),d)]) Q E s:=by
 refine PyProof.Rows.kmk_tree PySem.F.kind_min PySem.F.plain_min PySem.F.entry_min (xj _ _) ?_;show wpAny _ A.in1 (Builtin.Builtins.bindParams "min" ["key", "default"] 0 ⟨[],[(("default" : Str),d)]⟩ >>= _) _ _ s;refine KE (Ss (xh d) ?_);refine KE (Os ?_);refine KE (Ps h (fun it s₂ h₂=>?_) fun _ _ e=>e);obtain⟨I,fp,wr,G,n,P,St,bt,h0,rfl,W,hst,hfp,hcmp,kp,hwr,q0,q1⟩:=h₂;have hSf:s₂.heap.objs.size∉fp:=fun hm=>Qe _ (hfp _ hm);have hSw:s₂.heap.objs.size∉wr:=fun h=>hSf (W.sub _ h);have hS0:h0.get? s₂.heap.objs.size=none:=by
  cases e:h0.get? s₂.heap.objs.size with
  |none=>rfl
  |some o=>exact absurd (Oy (kp _ _ e)) (Qe _)
 refine KE (PY ?_);rw[iI];have st1:=W.frame 0 s₂ (s₂.heap.push { cls:=.type "list",data:=.seq #[] }) s₂.toks hst (Oq _) fun b _ o e=>Oo _ e;have he:(s₂.heap.push { cls:=.type "list",data:=.seq #[] }).get? s₂.heap.objs.size=_:=Oz _ rfl;have nS:∀{b:Addr},b∉s₂.heap.objs.size::wr->s₂.heap.objs.size≠b:=fun hb h=>hb (h▸Ox);have sub:∀ b∈wr,b∈s₂.heap.objs.size::wr:=fun b hb=>Ow _ hb;refine Os ⟨QL Qx _,P8 F.entry_min_loop ?_⟩;rw[Qo Qx _];refine KE (RK he rfl (KE (Sg ?_)));by_cases hn:n=0
 .subst hn;refine W.done _ _ _ st1 fun s' hm=>?_;refine KE (Sm (Os ?_));exact q0 rfl s' (Moved.drop_new (tk:=s₂.toks) (hm.mono sub) (Oq _))
 .refine W.item 0 _ _ _ (by lia) st1 fun v s' hP hst' hm=>?_;have he':=hm.heap _ _ hSw he;show wpAny _ A.in1 (updateSeq s₂.heap.objs.size (fun _=>#[v,v]) >>= _) _ _ _;refine KE (Rv he' rfl ?_);rw[iI];refine Os ⟨QL Qx _,xg W hcmp hwr hSf hS0 _ 0 _ v _ rfl (by lia) (W.frame _ s' _ s'.toks hst' (Oq _) fun b hbf o e=>?_) (fun b o e=>?_) hP (Pq _ he' rfl) fun v' s'' hP' hm''=>?_⟩
  .exact(O1 _ _ (fun h:s₂.heap.objs.size=b=>hSf (h▸hbf))).trans e
  .exact(O1 _ _ (fun h:s₂.heap.objs.size=b=>by rw[<- h,hS0]at e;cases e)).trans (hm.heap b o (fun z=>by rw[hwr b z]at e;cases e) (Oo _ (kp b o e)))
  .exact q1 (by lia) v' s'' hP' (Moved.drop_new (tk:=s₂.toks) (Su W.gtrans ((hm.mono sub).then_heap (Oq _) fun b o hb e=>(O1 _ _ (nS hb)).trans e) hm'') (Oq _))
end
def qb (K:SG)(H:Hp)(vs:List V)(ks:List (List Int)):Prop:=ks.length=vs.length/\∀(i:Nat) v k,vs[i]?=some v->ks[i]?=some k->∃ a,v=.ref a/\SqT K H a (k.map .int)
def qc (vs:List V)(ks:List (List Int)):Prop:=ks.length=vs.length/\∀(i:Nat) v k,vs[i]?=some v->ks[i]?=some k->∃ n,k=[n]/\v=.int n
def xm (ks:List (List Int))(i j:Nat):Bool:=HT.lexLt (ks[i]?.getD []) (ks[j]?.getD [])
def D9 (K:SG)(te:TE):TE:=fun σ H Q=>te σ H fun x H1=>∃ p vs ks,x=.ref p/\SqL K H1 p vs/\(qb K H1 vs ks\/qc vs ks)/\(vs=[]->Q .bC H1)/\∀ v,vs[argBest (xm ks) (vs.length-1)]?=some v->Q v H1
section
theorem qd (bt:Nat->Nat->Bool):∀ n,argBest bt n<=n
 |0=>Oq _
 |n+1=>by unfold argBest;split;exact Oq _;exact Nat.le_succ_of_le (qd bt n)
theorem CO (hc:X.calm=true)(hu:X.A.units+64<cLine)(I:Inv X af σ H s)(hl:SqL X.K H p vs)(hk:qb X.K H vs ks\/qc vs ks)(q0:vs=[]->Q .bC H)(q1:∀ v,vs[argBest (xm ks) (vs.length-1)]?=some v->Q v H) :
 wX X (call (.builtin "min") [.ref p] [(("default" : Str),.none)]) (EP X af σ Q) X.xe s:=by
 obtain⟨its,rv,pl,hz⟩:=I.list hl;have hh:X.A.in1.handled=none:=I.ok.hd hc;obtain⟨o,ho,_⟩:=pl.isList;have hlt:p<s.heap.objs.size:=Oy ho;have bW:=rv.length;have hkl:ks.length=vs.length:=hk.elim And.left And.left;have cmp:zH X.prog X.w X.A.in1 s.heap (fun i v=>its[i]?=some v) (xm ks):=by
  intro i j u v s' Q' E' kp hu' hv' hQ;have hi:i<its.length:=(Ov.mp hu').1;have hj:j<its.length:=(Ov.mp hv').1;have eki:ks[i]?=some ks[i]:=by simp[show i<ks.length by lia]
  have ekj:ks[j]?=some ks[j]:=by simp[show j<ks.length by lia]
  have evi:vs[i]?=some vs[i]:=by simp[show i<vs.length by lia]
  have evj:vs[j]?=some vs[j]:=by simp[show j<vs.length by lia]
  obtain⟨u',e1,r1⟩:=rv.get evi;obtain⟨v',e2,r2⟩:=rv.get evj;rw[hu']at e1;cases e1;rw[hv']at e2;cases e2;unfold xm at hQ;rw[eki,ekj]at hQ;simp only[Option.getD_some]at hQ;generalize ks[i]=ki at eki hQ;generalize ks[j]=kj at ekj hQ;generalize vs[i]=wi at evi r1;generalize vs[j]=wj at evj r2;rcases hk with hk|hk
  .obtain⟨a,rfl,ha⟩:=hk.2 i _ _ evi eki;obtain⟨b,rfl,hb⟩:=hk.2 j _ _ evj ekj;cases r1;cases r2;obtain⟨ia,ra,pa,_⟩:=I.tuple ha;obtain⟨ib,rb,pb,_⟩:=I.tuple hb;obtain⟨oa,ea,pa⟩:=pa;obtain⟨ob,eb,pb⟩:=pb;refine HT.lt_tupInts (s:=s') ⟨oa,kp _ _ ea,pa⟩ ⟨ob,kp _ _ eb,pb⟩ (lN ra) (lN rb) ?_ hQ;show X.A.units+1<cLine;lia
  .obtain⟨m,rfl,rfl⟩:=hk.2 i _ _ evi eki;obtain⟨n,rfl,rfl⟩:=hk.2 j _ _ evj ekj;obtain⟨t1,rfl⟩:=r1;obtain⟨t2,rfl⟩:=r2;refine HT.rcLt_int _ _ _ _ _ _ _ _ _ _ ?_;have:HT.lexLt [m] [n]=decide (m<n):=by
    show(if m=n then false else decide (m<n))=_;split
    .rename_i e;rw[OZ (by lia)]
    .rfl
   rw[<- this];exact hQ
 refine xk (RB pl.isList ?_);refine⟨s.heap.objs.size,_,_,_,_,_,_,xm ks,s.heap,rfl,(Walks.list hh s.heap.objs.size p (OQ hlt) its.toArray).toS,⟨⟨_,Oz _ rfl,rfl,rfl⟩,?_⟩,?_,?_,?_,?_,?_,?_⟩
 .exact pl.isList.at fun o e=>Oo _ e
 .intro b hb;rw[QC];rcases OC.mp hb with e|hb
  .rw[e];exact P_ _
  .rcases OC.mp hb with e|hb
   .rw[e];exact QG hlt
   .cases hb
 .intro i j u v s' Q' E' kp hu' hv' hQ;exact cmp i j u v s' Q' E' kp (by simpa using hu') (by simpa using hv') hQ
 .exact fun b o e=>Oo _ e
 .intro b hb;obtain rfl:=OI.mp hb;cases e:s.heap.get? s.heap.objs.size with
  |none=>rfl
  |some o=>exact absurd (Oy e) (Qe _)
 .intro hn s' hm;have e0:vs=[]:=Pn.mp (by rw[bW];simpa using hn);exact⟨.bC,H,back I hm,rfl,q0 e0⟩
 .intro hn v s' hv hm;have hv:its[argBest (xm ks) (its.length-1)]?=some v:=by simpa using hv
  have hb:=qd (xm ks) (vs.length-1);have hpos:0<its.length:=by simpa using hn
  have ev:vs[argBest (xm ks) (vs.length-1)]?=some (vs[argBest (xm ks) (vs.length-1)]'(by lia)):=by simp
  obtain⟨u',e1,r1⟩:=rv.get ev;rw[bW,hv]at e1;cases e1;exact⟨_,H,back I hm,r1,q1 _ ev⟩
where
 back {X:Cx} {af:List (Addr×Obj)} {s s':SF} {σ:St} {H:Hp} {p:Addr} (I:Inv X af σ H s) (hm:Moved [s.heap.objs.size] (fun a b=>b=a) { s with heap:=s.heap.push { cls:=.type "list_iterator",data:=.fields #[.ref p,.int 0 0] } } s'):Inv X af σ H s':=by obtain⟨h',g',d',tk',os'⟩:=s';obtain rfl:g'=s.gens:=hm.gens;obtain rfl:d'=s.drawn:=hm.drawn;obtain rfl:os'=s.os:=hm.os;have I1:Inv X af σ H { s with heap:=s.heap.push { cls:=.type "list_iterator",data:=.fields #[.ref p,.int 0 0] } }:=I.kept (t':=s.toks) fun b o e=>Oo _ e;have fo:=I.qu (H':=H) (Oq s.heap.objs.size) (I.aX.fresh (Oq _));have I2:=I1.turned (h':=h') (t':=tk') (it:=s.heap.objs.size) (fun b o hb e=>hm.heap b o (by simpa using hb) e) fo.1 fo.2.1 fo.2.2.2.1 fo.2.2.2.2.1 fo.2.2.2.2.2;exact I2
theorem CS (hc:X.calm=true) (hu:X.A.units+64<cLine) (hg:Gl X "min") (hm:X.mg "min"=none) (he:PE X e te) (hst:autoParam (sE X e []) SQ._auto_1)
 (hpl:autoParam (((backTo pos (starEach [e] X.env)).any (·.1) || (backToKw pos (keywordEach [⟨some "default",.Constant .none j kp,kpos⟩] X.env)).any (·.1.isNone))=false) SQ._auto_1) :
 PE X (.Call (.Name "min" p) [e] [⟨some "default",.Constant .none j kp,kpos⟩] pos) (D9 X.K te):=by
 intro af s σ H Q I h;refine Qm (gw I hg hm (by decide +kernel:bootBuiltins "min"=some (.builtin "min")) ?_ (by decide) (by decide));have hp:PA X [e] (aj te aG):=ac he ax (hs:=hst);have hk1:PK X [⟨some "default",.Constant .none j kp,kpos⟩] (aj (tC .bC) aG):=BW b_ EF;refine PySem.W.callWith_of (P:=fun _=>True) hpl (fun h _=>⟨Keeper.machine,.inr (.inl rfl),PySem.W.Looks.now⟩) (PyProof.Rows.evalArgs_kw2 rfl (b7 (hp pos af s σ H (fun ws H1=>match ws with|[x]=>(∃ p vs ks,x=.ref p/\SqL X.K H1 p vs/\(qb X.K H1 vs ks\/qc vs ks)/\(vs=[]->Q .bC H1)/\∀ v,vs[argBest (xm ks) (vs.length-1)]?=some v->Q v H1)|_=>False) I h) fun us s1 ⟨vs,H1,I1,r,q⟩=>?_) hst);obtain⟨x,rfl⟩ : ∃ x,vs=[x]:=by
  match vs,q with
  | [x],_=>exact⟨x,rfl⟩
 obtain⟨p,vs,ks,rfl,hl,hk,q0,q1⟩:=q;obtain⟨u,rfl,ru⟩:=dm r;cases ru;refine b7 (hk1 pos af s1 σ H1 (fun vs H2=>vs=[.bC]/\H2=H1) I1 ⟨rfl,rfl⟩) fun ws s2 ⟨zs,H2,I2,rz,e1,e2⟩=>⟨True.intro,?_⟩;subst e1 e2;obtain⟨u,rfl,ru⟩:=dm rz;cases ru;exact CO hc hu I2 hl hk q0 q1
end
end L2
namespace L3
open PySem PySem.Spec PyProof.Rows L2
end L3
namespace L2
open PySem PySem.Spec PySem.Calls PyProof.Rows
abbrev Oc:=List (List bG×Addr×SI)
end L2
namespace L3
open PySem PySem.Spec PyProof.Rows L2
end L3
namespace L2
open PySem PySem.Spec PySem.Calls PyProof.Rows
abbrev Od:=St->Hp->(Hp->Prop)->XK->Prop
structure uB (K:SG) (C:Addr):Prop where
 ga:PySem.W.findIn K (.ref C) "__getattribute__"=some (some (.builtin "BaseException.__getattribute__"))
 gt:PySem.W.findIn K (.ref C) "__getattr__"=some none
 cl:PySem.W.findIn K (.ref C) "__class__"=some (some (.builtin "object.__class__"))
 sp:PySem.W.specialIn K (.builtin "object.__class__") "__get__"=some (some (.builtin "getset_descriptor.__get__"))
 tk:PySem.W.takesIn K (.builtin "object.__class__")=some true
 mo:PySem.W.mroIn K C (.type "object")=some true
 mb:PySem.W.mroIn K C (.type "BaseException")=some true
 is:(PySem.W.clsIn K C).isSome=true
section
variable {X:Cx}{x C:Addr}{o:Obj}{y:V}{c:SI}{b:Bool}
theorem xo (Z:uB X.K C)(hp:(x,o)∈X.pn)(hc:o.cls=.ref C)(ry:∀ u,RelV y u->u=c)(e:PySem.W.kitOne X.K (.ref C) c=some b) :
 bQ X (.builtin "isinstance") (fun xs H Q=>xs=[.ref x,y]/\Q (.bl b) H):=by
 intro af s σ H xs us Q I r h;obtain⟨rfl,q⟩:=h;obtain⟨u,c',rfl,ru,rc⟩:=lI r;obtain rfl:u=Value.ref x:=ru;obtain rfl:=ry c' rc;have hx:=(I.pin (x,o) (O5 _ hp)).1;exact Px (yA Z.ga Z.gt Z.cl Z.sp Z.tk Z.mo Z.mb Z.is) I.iW ⟨o,hx,hc⟩ e (fun z=>nomatch z) fun tk=>⟨.bl b,H,I.tok tk,rfl,q⟩
variable {i:Nat}{n:Str}{p4 p5 p6 p7:Pos}{m:Str}
theorem FG (Z:uB X.K C) (hi:X.N[i]?=some n) (hk:X.env.scope.names.lookup n=some .local) (hgi:Gl X "isinstance") (hmi:X.mg "isinstance"=none) (hc:o.cls=.ref C) (he:PE (X.bO x o) (.Name m p6) (fun _ H Q=>Q y H)) (ry:∀ u,RelV y u->u=c) (k:PySem.W.kitOne X.K (.ref C) c=some b)
 (hdn:autoParam (dB n) SK._auto_1) (hcn:autoParam ((n==("__classdict__" : Str))=false) SK._auto_1) :
 PE (X.bO x o) (.Call (.Name "isinstance" p4) [.Name n p5,.Name m p6] [] p7) (fun σ H Q=>σ[i]?=some (some (.ref x))/\Q (.bl b) H):=by
 intro af s σ H Q I ⟨h1,h2⟩;have P:PE (X.bO x o) (.Call (.Name "isinstance" p4) [.Name n p5,.Name m p6] [] p7) _:=aW (xo (y:=y) Z (Ox ..) hc ry k) hgi hmi (by decide +kernel) (ac (xY hi (.inl hk) hdn hcn) (ac he ax));exact P af s σ H Q I ⟨.ref x,h1,rfl,h2⟩
end
def J5 (i:Nat)(x:Addr)(bs:List Bool):TA:=fun σ H Q=>σ[i]?=some (some (.ref x))/\Q (bs.map V.bl) H
section
variable {X:Cx}{x C:Addr}{o:Obj}{y:V}{c:SI}{b:Bool}{bs:List Bool}{i iw:Nat}{n m z:Str}{p4 p5 p6 p7 py lp p15:Pos}{es:List Expr}
theorem vz:PA (X.bO x o) [] (J5 i x []):=fun pos af s σ H Q I h=>ax pos af s σ H Q I h.2
theorem gr (Z:uB X.K C) (hi:X.N[i]?=some n) (hk:X.env.scope.names.lookup n=some .local) (hgi:Gl X "isinstance") (hmi:X.mg "isinstance"=none) (hc:o.cls=.ref C) (he:PE (X.bO x o) (.Name m p6) (fun _ H Q=>Q y H)) (ry:∀ u,RelV y u->u=c) (k:PySem.W.kitOne X.K (.ref C) c=some b)
 (ha:PA (X.bO x o) es (J5 i x bs)) (hdn:autoParam (dB n) SK._auto_1) (hcn:autoParam ((n==("__classdict__" : Str))=false) SK._auto_1) :
 PA (X.bO x o) (.Call (.Name "isinstance" p4) [.Name n p5,.Name m p6] [] p7::es) (J5 i x (b::bs)):=by
 intro pos af s σ H Q I ⟨h1,h2⟩;have P:=ac (e:=.Call (.Name "isinstance" p4) [.Name n p5,.Name m p6] [] p7) (FG (p4:=p4) (p5:=p5) (p7:=p7) Z hi hk hgi hmi hc he ry k hdn hcn) ha;exact P pos af s σ H Q I ⟨h1,h1,h2⟩
def Mh (i iw:Nat)(bs:List Bool)(x:Addr):TS:=fun D σ H=>σ[i]?=some (some (.ref x))/\bs.length<=sizeLine/\∀ p,H p=none->D.nx (σ.set iw (some (.ref p))) (upd H p (.lst (bs.map V.bl)))
theorem zI (hN:X.N.Nodup)(hiw:X.N[iw]?=some z)(hy:GW X.env.scope z)(ha:PA (X.bO x o) es (J5 i x bs))
 (hfy:autoParam (X.fn z=true\/X.env.scope.names.lookup z=some .local) SL._auto_1) (hw:autoParam (swapsWith (.List es lp) (some (.Name z py)) p15.line X.env=pure false) SQ._auto_1) :
 PSs (X.bO x o) [.Assign [.Name z py] (.List es lp) p15] (Mh i iw bs x):=by
 refine aD fun af s σ H D I h=>?_;obtain⟨e1,e2,q⟩:=h;refine aO (X:=X.bO x o) hN hiw hy (bH ha) hw hfy af s σ H D I ?_;exact⟨e1,by simpa using e2,fun p hp=>q p hp⟩
end
end L2
namespace L3
open PySem PySem.Spec PyProof.Rows L2
structure JI (K:SG) (x qual:Str) (st:Stmt) (f:Addr) (fd:FuncData):Prop where
 ex:∃(oc:SI)(od:Option Addr)(dV kV doc pm:SI)(an:Option Addr)(cdv ct:SI)(osl:Array (Option SI)),
  fd=PySem.W.fnOf x qual (b9 st) (bR st) (aC st) dV kV doc pm an cdv ct/\K.lookup f=some ⟨oc,od,.func fd,osl⟩/\PySem.W.codeIn K cdv qual=true
 kp:PySem.W.keepIn K (.ref f)=true
structure MH (K:SG) (mg:Str->Option SI) (x:Str) (st:Stmt) (ps:List Str) (v:SI) (f:Addr) (fd:FuncData):Prop where
 fu:JI K x x st f fd
 bi:Binds K fd ps []
 bd:Binds K fd ps [v]
 gl:mg x=some (.ref f)
theorem FH {K:SG}{mg:Str->Option SI}{x:Str}{st:Stmt}{ps:List Str}{f T:Addr}{oc tc v:SI}{od an td:Option Addr}{osl tsl:Array (Option SI)}{kV doc pm cdv ct:SI}{n:Nat}
 (l:K.lookup f=some ⟨oc,od,.func (PySem.W.fnOf x x (b9 st) (bR st) (aC st) (.ref T) kV doc pm an cdv ct),osl⟩) (lT:K.lookup T=some ⟨tc,td,.seq #[v] n,tsl⟩) (c:PySem.W.codeIn K cdv x=true) (kp:PySem.W.keepIn K (.ref f)=true) (g:mg x=some (.ref f))
 (h0:∀ us:List SI,us.length=ps.length->∃ k,bindArgs (PySem.W.fnOf x x (b9 st) (bR st) (aC st) (.ref T) kV doc pm an cdv ct) ⟨us,[]⟩=seqItems? (.ref T) >>= k/\k (some #[v])=pure (ps.zip us))
 (h1:∀ us:List SI,us.length+1=ps.length->∃ k,bindArgs (PySem.W.fnOf x x (b9 st) (bR st) (aC st) (.ref T) kV doc pm an cdv ct) ⟨us,[]⟩=seqItems? (.ref T) >>= k/\k (some #[v])=pure (ps.zip (us++[v]))) :
 MH K mg x st ps v f (PySem.W.fnOf x x (b9 st) (bR st) (aC st) (.ref T) kV doc pm an cdv ct) where
 fu:=⟨⟨oc,od,.ref T,kV,doc,pm,an,cdv,ct,osl,rfl,l,c⟩,kp⟩
 bi:=fun s us X hl=>by rw[Rn]at hl ⊢;obtain⟨k,e1,e2⟩:=h0 us hl;exact PySem.W.binds_K X rfl lT rfl e1 e2
 bd:=fun s us X hl=>by obtain⟨k,e1,e2⟩:=h1 us (by simpa using hl);exact PySem.W.binds_K X rfl lT rfl e1 e2
 gl:=g
end L3
namespace L2
open PySem PySem.Spec PySem.Calls PyProof.Rows
end L2
namespace L4
open PySem PySem.Spec PyProof.Rows L2 L3
end L4
namespace Sp
noncomputable abbrev Arr:=Int×Int×Int
noncomputable abbrev Rule:=Int×Int×Int×List Int
section
variable {κ β:Type}[DecidableEq κ]
def get (d:List (κ×β))(k:κ):Option β:=(d.find? fun x=>decide (x.1=k)).map (·.2)
def put (d:List (κ×β))(k:κ)(v:β):List (κ×β):=if (get d k).isSome then d.map (fun x=>if x.1=k then (x.1,v) else x) else d++[(k,v)]
end
structure St where
 tb:List (Int×List (Int×List Int))
 en:List Int
 fo:List (Int×List Int)
 mi:List ((Int×Int)×Int)
 du:List Arr
noncomputable def add (l:List Int)(x:Int):List Int:=if x∈l then l else l++[x]
def row (tb:List (Int×List (Int×List Int)))(s:Int):List (Int×List Int):=(get tb s).getD []
def leaf (tb:List (Int×List (Int×List Int)))(s g:Int):List Int:=(get (row tb s) g).getD []
def fol (S:St)(s:Int):List Int:=(get S.fo s).getD []
def fR (S:St)(a:Arr):Prop:=a.2.2∈leaf S.tb a.1 a.2.1
def zJ (S:St)(s g t:Int):St:=if t∈leaf S.tb s g then S else { S with tb:=put S.tb s (put (row S.tb s) g (leaf S.tb s g++[t])),du:=S.du++[(s,g,t)] }
def CU (r:Int)(S:St)(x:Int×List Int):St:=x.2.foldl (fun S t=>zJ S r x.1 t) S
def FI (S:St)(r s:Int):St:=if r∈fol S s then S else
 (row S.tb s).foldl (CU r) { S with fo:=put S.fo s (fol S s++[r]),en:=if s∈S.en then add S.en r else S.en }
def Ip (n:Int)(S:St)(r g:Int):Int:=(get S.mi (r,g)).getD (n+S.mi.length)
def K1 (n:Int)(S:St)(r g:Int):St:=if (get S.mi (r,g)).isSome then S else { S with mi:=S.mi++[((r,g),n+S.mi.length)] }
def Iq (n:Int)(t:Int)(S:St)(r:Rule):St:=match r.2.2.2 with
 | []=>FI S r.2.2.1 t
 | [a]=>zJ S r.2.2.1 a t
 |a::b::_=>zJ (zJ (K1 n S r.2.2.1 a) r.2.2.1 a (Ip n S r.2.2.1 a)) (Ip n S r.2.2.1 a) b t
abbrev RS:=List ((Int×Int)×List Rule)
def Ir (a:Arr)(S:St):St:=(fol S a.1).foldl (fun S r=>zJ S r a.2.1 a.2.2) S
def turn (n:Int)(rs:RS)(a:Arr)(S:St):St:=((get rs (a.1,a.2.1)).getD []).foldl (Iq n a.2.2) (Ir a S)
end Sp
namespace Sp
def Nh (ro:Int)(S:St)(r:Rule)(t:Int):Prop:=match r.2.2.2 with
 | []=>r.2.2.1∈fol S t
 | [x]=>fR S (r.2.2.1,x,t)
 |x::y::_=>∃ m,ro<=m/\fR S (r.2.2.1,x,m)/\fR S (m,y,t)
def CV (rs:RS)(s g:Int):List Rule:=(get rs (s,g)).getD []
def K3 (ro:Int)(rs:RS)(S:St)(a:Arr):Prop:=∀ r∈CV rs a.1 a.2.1,Nh ro S r a.2.2
structure J (ro:Int) (rs:RS) (S:St) (pf:Int->Arr->Prop) (pr:Arr->Prop):Prop where
 to:∀ a,fR S a->ro<=a.2.2
 mi:∀ x∈S.mi,ro<=x.2
 fo:∀ s r,r∈fol S s->r<ro/\ro<=s/\(s∈S.en->r∈S.en)/\∀ g t,fR S (s,g,t)->fR S (r,g,t)\/(s,g,t)∈S.du\/pf r (s,g,t)
 dn:∀ a,fR S a->K3 ro rs S a\/a∈S.du\/pr a
end Sp
namespace Sp
section
def K4 {κ β:Type}(d:List (κ×β)):Prop:=(d.map (·.1)).Nodup
end
end Sp
namespace Sp
end Sp
namespace Sp
theorem nodup_sub {α:Type}[DecidableEq α]:∀{l U:List α},l.Nodup->(∀ x∈l,x∈U)->l.length<=U.length
 | [],U,_,_=>OP _
 |x::l,U,nd,h=>by rw[Pk]at nd;have hx:=h x (by simp);have:=nodup_sub (l:=l) (U:=U.erase x) nd.2 fun y hy=>(List.mem_erase_of_ne fun e=>nd.1 (by rw[<- e];exact hy)).mpr (h y (by simp[hy]));rw[List.length_erase_of_mem hx]at this;have:=List.length_pos_of_mem hx;rw[OJ];lia
def Bx (sg m:Int)(a:Arr):Prop:=(0<=a.1/\a.1<m)/\(0<=a.2.1/\a.2.1<sg)/\0<=a.2.2/\a.2.2<m
structure B (ro n sg:Int) (ks:List (Int×Int)) (t0 pp:List Arr) (S:St):Prop where
 old:∀ a,fR S a->ro<=a.1->a.1<n->a∈t0
 bx:∀ a,fR S a->Bx sg (n+ks.length) a
 ne1:∀ x∈S.tb,x.2≠[]
 ne2:∀ s,∀ x∈row S.tb s,x.2≠[]
 lf:∀ s g,(leaf S.tb s g).Nodup
 nd:(pp++S.du).Nodup
 sub:∀ a∈pp++S.du,fR S a
 mc:(S.mi.map (·.1)).Nodup
 ms:∀ x∈S.mi,x.1∈ks
 mv:∀ x∈S.mi,n<=x.2/\x.2<n+S.mi.length
 en:S.en.Nodup
 er:∀ e∈S.en,0<=e/\e<n
 fk:K4 S.fo
 fl:∀ s,(fol S s).Nodup
 fr:∀ s,∀ r∈fol S s,0<=r/\r<ro
 fs:∀ x∈S.fo,0<=x.1/\x.1<n+ks.length
end Sp
namespace Sp
end Sp
namespace Sp
def FJ (l:List Int):List Int:=l.foldl add []
def bj (es:List Int):St:=⟨[],FJ es,[],[],[]⟩
end Sp
namespace Sp
section
variable {ro n sg:Int}
noncomputable def FL (ts:List Arr)(es:List Int):Int->List Int->Prop
 |s,[]=>s∈es
 |s,g::w=>∃ t,(s,g,t)∈ts/\FL ts es t w
structure Fw (ro sg n:Int) (RL:List Rule) (ts:List Arr) (es:List Int) (n':Int) (ts':List Arr) (es':List Int):Prop where
 t:∀ a∈ts,a∈ts'
 e:∀ x∈es,x∈es'
 c:∀ r∈RL,r.2.2.2.length<=2->∀ w,FL ts' es' r.1 (r.2.1::w)->FL ts' es' r.2.2.1 (r.2.2.2++w)
end
end Sp
namespace L2
open PySem PySem.Spec PySem.Calls PyProof.Rows
end L2
namespace L4
open PySem PySem.Spec PyProof.Rows L2 L3
theorem KT.trans (h:KT H H')(h':KT H' H''):KT H H'':=fun a ws e=>h' a ws (h a ws e)
theorem KT.of (s:Same H H'):KT H H':=fun a _ e=>s a _ e
theorem KT.upd (h:H a=some u)(n:∀ ws,u≠.tup ws):KT H (upd H a v):=fun c ws e=>by rw[aA (fun z=>by subst z;rw[h]at e;cases e;exact n _ rfl)];exact e
section
variable {τ:Type}
structure Ln (τ:Type) where
 z:τ->Prop
 c:τ->Option (Addr×HO)
end
inductive Tag where
 |o|ta|en|fo|mi|du|ru
 |row (s:Int)
 |lf (s g:Int)
 |fl (s:Int)
 |rl (k:Int×Int)
structure SA where
 o:Addr
 ta:Addr
 en:Addr
 fo:Addr
 mi:Addr
 du:Addr
 ru:Addr
structure Fx where
 A:SA
 C:Addr
 dx:Addr
 n:Int
 rs:Sp.RS
 RA:Int×Int->Addr
 xs:Int×Int->NX
structure Vr where
 R:Int->Addr
 L:Int->Int->Addr
 F:Int->Addr
 dv:List V
 ue:HO
section
section
variable {β:Type}{d:List (Int×β)}
def sd {κ β:Type}[DecidableEq κ](d:List (κ×β))(k:κ)(x:β):List (κ×β):=if (Sp.get d k).isSome then d else d++[(k,x)]
end
end
section
theorem xq (h:n<15000000):n<sizeLine:=by rw[OG];lia
end
theorem qe {J:L2.It}{n:Nat}{g:TG}{tb:TS}{D:Ends}{σ:L2.St}{H:Hp}(P:Nat->L2.St->Hp->Prop)(p0:P 0 σ H)(hgo:∀ i σ H,P i σ H->i<n->J.go i H)(hst:∀ σ H,P n σ H->J.stop n H)
 (hb:∀ i σ H x H' (D':Ends),i<n->P i σ H->J.vM i H x H'->(∀ σ' H',P (i+1) σ' H'->D'.nx σ' H')->g x σ H' fun σ2 H2=>tb D' σ2 H2) (he:∀ σ H,P n σ H->D.nx σ H):∃ W:Nat->Nat->L2.St->Hp->Prop,(∃ m,W 0 m σ H)/\∀ i m σ H,W i m σ H->
 (J.stop i H/\D.nx σ H)\/(J.go i H/\∃ N:L2.St->Hp->Prop,(∀ σ' H',N σ' H'->∃ m',m'<m/\W (i+1) m' σ' H')/\∀ x H',J.vM i H x H'->g x σ H' fun σ2 H2=>tb { D with nx:=N,ct:=N,bk:=D.nx } σ2 H2):=by
 refine⟨fun i m σ H=>m=n-i/\i<=n/\P i σ H,⟨n,by simp,OP _,p0⟩,?_⟩;rintro i m σ H ⟨rfl,hi,p⟩;by_cases h:i<n
 .exact .inr ⟨hgo i σ H p h,P (i+1),fun σ' H' q=>⟨n-(i+1),by lia,rfl,h,q⟩,fun x H' y=>hb i σ H x H' _ h p y fun _ _=>id⟩
 .have e:i=n:=by lia
  subst e;exact .inl ⟨hst σ H p,he σ H p⟩
end L4
namespace Sp
end Sp
namespace L4
open PySem PySem.Spec PyProof.Rows L2 L3
end L4
namespace Sp
end Sp
namespace L4
open PySem PySem.Spec PyProof.Rows L2 L3
theorem bc.GR {α β:Type}{R:α->β->Prop}{xs:List α}{x:α}{ys:List β}(h:bc R (xs++[x]) ys):∃ zs y,ys=zs++[y]/\bc R xs zs/\R x y:=by
 induction xs generalizing ys with
 |nil=>
  cases h with
  |cons a b=>cases b;exact⟨[],_,rfl,.nil,a⟩
 |cons w xs ih=>
  cases h with
  |cons a b=>obtain⟨zs,y,e,h1,h2⟩:=ih b;exact⟨_::zs,y,by rw[e];rfl,.cons a h1,h2⟩
section
variable {H:Hp}{s:Int}{la:Addr}
def Kp (la:Addr)(G H:Hp):Prop:=∀ c u,G c=some u->c≠la->H c=some u
theorem Kp.of (s:Same G H):Kp la G H:=fun c u e _=>s c u e
end
end L4
namespace Sp
end Sp
namespace L4
open PySem PySem.Spec PyProof.Rows L2 L3
section
variable {k:Int×Int}{p:Addr}
noncomputable def CW {β:Type}(R:Int×Int->β)(k:Int×Int)(p:β):Int×Int->β:=fun u=>if u=k then p else R u
end
end L4
namespace Sp
end Sp
namespace L4
open PySem PySem.Spec PyProof.Rows L2 L3
end L4
namespace Sp
end Sp
namespace L4
open PySem PySem.Spec PyProof.Rows L2 L3
open Classical in
theorem si {K:SG}{H:Hp}{le:Addr}{es:List Int}{x:Int}{Q:VK}(h:Rd H le (.lst (es.map .int)))(q:Q (.bl (decide (x∈es))) H):JV K false (.int x) (.ref le) H Q:=by
 refine⟨le,es.map .int,rfl,.inl (.inl h),rfl,by rw[List.all_map,QQ];intro _ _;rfl,?_⟩;have:JU (.int x) (es.map .int)=decide (x∈es):=by
  clear h q;unfold JU;induction es with
  |nil=>rfl
  |cons y es ih=>
   rw[OE,Q0,ih];show((y==x) || _)=_;by_cases e:y=x
   .subst e;simp
   .simp[e,Pw e]
 rw[OL (by decide),this];exact q
end L4
namespace L2
open PySem PySem.Spec PySem.Calls PyProof.Rows
end L2
namespace L2
open PySem PySem.Spec PySem.Calls PyProof.Rows ST
section
variable {κ μ:Type}
theorem dX.own (v:dX ent es its)(un:Bf ent its):∃ zs:List (κ×μ),(∀ z∈zs,z∈its)/\(zs.map (·.1)).Nodup/\zs.length=es.size/\(∀ x∈its,∃ y∈zs,y.1=x.1)/\dX ent es zs:=by
 obtain⟨zs,ez,zm⟩:=mj (ent:=ent) (its:=its) es.toList v.el;have hl:zs.length=es.size:=by have:=PJ List.length ez;rw[Ot,Pb]at this;exact this.symm
 have nd:(zs.map (·.1)).Nodup:=by have pw:=v.pw;rw[ez,PD]at pw;unfold List.Nodup;rw[PD];exact Qn (fun{a b} ha hb hab=>hab a b rfl rfl (zm a ha) (zm b hb)) pw
 have al:∀ x∈its,∃ y∈zs,y.1=x.1:=fun x hx=>by obtain⟨y,hy,e1,e2⟩:=v.all x hx;rw[ez]at e2;obtain⟨z,hz,e3⟩:=OB.mp e2;exact⟨z,hz,(un z (zm z hz) y hy e3).trans e1⟩
 refine⟨zs,zm,nd,hl,al,⟨fun e he=>?_,by lia,v.pw.imp fun{a b} h x x' e1 e2 m1 m2=>h x x' e1 e2 (zm x m1) (zm x' m2),fun x hx=>⟨x,hx,rfl,?_⟩⟩⟩
 .rw[ez]at he;obtain⟨z,hz,e⟩:=OB.mp he;exact⟨z,hz,e.symm⟩
 .rw[ez];exact OB.mpr ⟨x,hx,rfl⟩
end
section
def zK (X:Cx):List V->Hp->VK->Prop:=fun xs H Q=>∃ l vs its,xs=[.ref l]/\Rd H l (.lst vs)/\TupsIn H vs its/\vs.length<=300/\∀ p es,H p=none->dX (eT X.prog X.w) es its->Q (.ref p) (upd H p (.ext fun h=>SetAt X.w h p es))
theorem xu (hc:X.calm=true) (hu:X.A.units+64<cLine):bQ X (.type "set") (zK X):=wg hc hu
def zL (X:Cx):List V->Hp->VK->Prop:=fun xs H Q=>∃ p es its,xs=[.ref p]/\H p=some (.ext fun h=>SetAt X.w h p es)/\dX (eT X.prog X.w) es its/\(∀ x∈its,H x.2=some (.tup ((iK x.1).map kV)))/\(∀ x∈its,x.1≠[])/\(∀ l:List (List Int),l.Nodup->(∀ k∈l,∃ x∈its,x.1=k)->l.length<=63)/\
 ∀ l ys,H l=none->nA (fun x y=>dk x y=true) its ys->Q (.ref l) (upd H l (.lst (ys.map fun y=>.ref y.2)))
theorem xw (hc:X.calm=true):bQ X (.builtin "sorted") (zL X):=by
 intro af s σ H xs us Q I r h;obtain⟨p,es,its,rfl,hp,v,ht,hne,hz,q⟩:=h;have his:=fun x hx=>dS I.aX (ht x hx);obtain⟨zs,zm,nd,hl,al,v2⟩:=v.own (E4 his);have kN:zs.length<=63:=by
  have:=hz (zs.map (·.1)) nd fun k hk=>by obtain⟨z,hz,rfl⟩:=OB.mp hk;exact⟨z,zm z hz,rfl⟩
  rw[Ot]at this;exact this
 exact pK hc (N:=63) (by decide) u_ af s σ H _ us Q I r ⟨p,es,zs,rfl,hp,v2,fun x hx=>ht x (zm x hx),fun x hx=>hne x (zm x hx),kN,fun l ys hl so=>q l ys hl ⟨fun y hy=>zm y (so.sub y hy),fun x hx=>by obtain⟨z,hz,e⟩:=al x hx;obtain⟨y,hy,e2⟩:=so.all z hz;exact⟨y,hy,e2.trans e⟩,so.pw⟩⟩
end
end L2
namespace L4
open PySem PySem.Spec PyProof.Rows L2 L3 ST
noncomputable abbrev eV:=Int×Int
end L4
namespace L4
open PySem PySem.Spec PyProof.Rows L2 L3
theorem oZ {β:Type}{R:eV->β}{k:eV}{p:β}:CW R k p k=p:=OK rfl
theorem kI {β:Type}{R:eV->β}{k u:eV}{p:β}(h:u≠k):CW R k p u=R u:=OL h
noncomputable def xx (ks:List eV)(k:eV):List eV:=if k∈ks then ks else ks++[k]
structure Gr {α:Type} (R:Hp->α->V->Prop) (B H:Hp) (a:Addr) (ks:List eV) (F:eV->List α) (RA:eV->Addr):Prop where
 s:Same B H
 r:H a=some (.dT (ks.map fun k=>(k2 k,.ref (RA k))))
 na:B a=none
 v:∀ k∈ks,B (RA k)=none/\∃ vs,H (RA k)=some (.lst vs)/\bc (R H) (F k) vs
 i:∀ k∈ks,∀ k'∈ks,RA k=RA k'->k=k'
 z:∀ k,k∉ks->F k=[]
def mQ {α:Type}(R:Hp->α->V->Prop):Prop:=∀{H H':Hp},KT H H'->∀ x v,R H x v->R H' x v
theorem Iu:mQ IsSet:=fun k _ _ ⟨p,e,h⟩=>⟨p,e,k _ _ h⟩
section
variable {α:Type}{R:Hp->α->V->Prop}{K:SG}{B H H':Hp}{a q p:Addr}{ks:List eV}{F:eV->List α}{RA:eV->Addr}{σ:L2.St}{k:eV}{vs ws:List V}{zs:List α}{Q:VK}
theorem um:cz (ks.map fun k=>(k2 k,V.ref (RA k))) (k2 k)=if k∈ks then some (.ref (RA k)) else none:=by
 induction ks with
 |nil=>rfl
 |cons x r ih=>
  rw[OE];by_cases h:x=k
  .rw[dL (by rw[h]),OK (by rw[h];exact Ox),h]
  .rw[dM fun z=>h (mL _ _ z),ih];simp[Pw h]
theorem Gr.more (h:Gr R B H a ks F RA)(hR:mQ R)(s:Same H H'):Gr R B H' a ks F RA:=⟨h.s.trans s,s _ _ h.r,h.na,fun k' b=>let ⟨h1,vs,h2,h3⟩:=h.v k' b;⟨h1,vs,s _ _ h2,h3.mono (hR (.of s))⟩,h.i,h.z⟩
theorem bc.app {β γ:Type}{R:β->γ->Prop}{xs us:List β}{ys zs:List γ}(h:bc R xs ys)(g:bc R us zs):bc R (xs++us) (ys++zs):=by
 induction h with
 |nil=>exact g
 |cons a _ ih=>exact .cons a ih
theorem Gr.ext (h:Gr R B H a ks F RA)(hR:mQ R)(hk:k∈ks)(hl:H (RA k)=some (.lst vs))(hw:bc (R H) zs ws):Gr R B (upd H (RA k) (.lst (vs++ws))) a ks (CW F k (F k++zs)) RA:=by
 obtain⟨n,vs',e,al⟩:=h.v k hk;rw[hl]at e;cases e;have kt:KT H (upd H (RA k) (.lst (vs++ws))):=.upd hl fun _ z=>(nomatch z);refine⟨fun b u e=>?_,?_,h.na,fun j hj=>?_,h.i,fun j hj=>?_⟩
 .rw[aA fun z=>by rw[z,n]at e;cases e];exact h.s _ _ e
 .rw[aA fun z=>by rw[<- z,h.r]at hl;cases hl];exact h.r
 .obtain⟨n',us,e,al'⟩:=h.v j hj;refine⟨n',?_⟩;by_cases ej:j=k
  .rw[ej,oZ];exact⟨_,ao,(al.app hw).mono (hR kt)⟩
  .rw[kI ej];exact⟨us,by rw[aA fun z=>ej (h.i j hj k hk z)];exact e,al'.mono (hR kt)⟩
 .rw[kI fun z:j=k=>hj (z▸hk)];exact h.z j hj
theorem Gr.new (h:Gr R B H a ks F RA)(hR:mQ R)(hk:k∉ks)(hq:H q=none):Gr R B (upd (upd H q (.lst [])) a (.dT ((ks.map fun k=>(k2 k,V.ref (RA k)))++[(k2 k,.ref q)]))) a (ks++[k]) F (CW RA k q):=by
 have naq:a≠q:=aB h.r hq;have s1:Same H (upd H q (.lst [])):=az hq;have kt:KT H (upd (upd H q (.lst [])) a (.dT ((ks.map fun k=>(k2 k,V.ref (RA k)))++[(k2 k,.ref q)]))):=(KT.of s1).trans (.upd (s1 _ _ h.r) fun _ z=>(nomatch z));have hne:∀ j∈ks,j≠k:=fun j hj z=>hk (z▸hj);have hRA:∀ j∈ks,RA j≠q:=fun j hj z=>by obtain⟨_,_,e,_⟩:=h.v j hj;rw[z,hq]at e;cases e
 refine⟨fun b u e=>?_,?_,h.na,fun j hj=>?_,fun j hj j' hj' e=>?_,fun j hj=>h.z j fun z=>hj (O5 _ z)⟩
 .rw[aA fun z=>by rw[z,h.na]at e;cases e];exact s1 _ _ (h.s _ _ e)
 .rw[ao,O3];congr 3
  .exact Pt fun j hj=>by rw[kI (hne j hj)]
  .show _=[(k2 k,V.ref (CW RA k q k))];rw[oZ]
 .rcases OX.mp hj with hj|hj
  .rw[kI (hne j hj)];obtain⟨n',us,e,al'⟩:=h.v j hj;exact⟨n',us,by rw[aA fun z=>by rw[z,h.r]at e;cases e];exact s1 _ _ e,al'.mono (hR kt)⟩
  .rw[OI]at hj;subst hj;rw[oZ,h.z _ hk];exact⟨h.s.free hq,[],by rw[aA (Pw naq),ao],.nil⟩
 .rcases OX.mp hj with g|g<;>rcases OX.mp hj' with g'|g'
  .rw[kI (hne j g),kI (hne j' g')]at e;exact h.i j g j' g' e
  .rw[OI.mp g',kI (hne j g),oZ]at e;exact(hRA j g e).elim
  .rw[OI.mp g,kI (hne j' g'),oZ]at e;exact(hRA j' g' e.symm).elim
  .rw[OI.mp g,OI.mp g']
def Mi (K:SG) (i:Nat) (tk:TE):TE:=xS K "dict" tU (au i) (aj tk (aj (cJ aG) aG))
theorem Iv (h:Gr R B H a ks F RA)(hR:mQ R)(hz:ks.length<15000000)(hi:σ[i]?=some (some (.ref a)))(hk:Makes tk σ H [.int k.1,.int k.2])
 (kk:∀ H' RA',Kp a H H'->KT H H'->Gr R B H' a (xx ks k) F RA'->k∈xx ks k->Q (.ref (RA' k)) H'):Mi K i tk σ H Q:=by
 refine⟨_,hi,.inr (.inr (.inl ⟨rfl,.inr ⟨_,h.r⟩⟩)),hk _ fun b hb=>⟨OP _,fun q hq=>?_⟩⟩;have s1:Same H (upd H b (.tup [.int k.1,.int k.2])):=az hb;have G1:=h.more hR s1;have hb1:upd H b (.tup [.int k.1,.int k.2]) b=some (.tup ((k2 k).map kV)):=ao;generalize upd H b (.tup [.int k.1,.int k.2])=H1 at s1 G1 hb1 hq;have s2:Same H1 (upd H1 q (.lst [])):=az hq;refine⟨a,b,k2 k,.ref q,_,rfl,rfl,s2 _ _ hb1,.inl (s2 _ _ G1.r),xq (by rw[Ot];exact hz),?_⟩;rw[um];unfold xx at kk;by_cases e:k∈ks
 .rw[OK e]at kk ⊢;exact .inl ⟨_,rfl,kk _ _ (.of (s1.trans s2)) (.of (s1.trans s2)) (G1.more hR s2) e⟩
 .rw[OL e]at kk ⊢;refine .inr ⟨rfl,?_⟩;rw[jr _ (by rw[um,OL e])];have:=kk _ _ (fun c u e n=>by rw[aA n];exact s2 _ _ (s1 _ _ e)) ((KT.of (s1.trans s2)).trans (.upd (s2 _ _ G1.r) fun _ z=>(nomatch z))) (G1.new hR e hq) (O0 _ Ox);rw[oZ]at this;exact this
theorem FM (h:Gr R B H a ks F RA)(hq:H q=none)(k:eV):∃ p vs,(cz (ks.map fun k=>(k2 k,V.ref (RA k))) (k2 k)).getD (.ref q)=.ref p/\upd H q (.lst []) p=some (.lst vs)/\bc (R H) (F k) vs:=by
 rw[um];by_cases e:k∈ks
 .rw[OK e];obtain⟨_,vs,e1,al⟩:=h.v k e;exact⟨_,vs,rfl,az hq _ _ e1,al⟩
 .rw[OL e,h.z k e];exact⟨q,[],rfl,ao,.nil⟩
end
section
variable {H H':Hp}{a q d:Addr}{As:List Sp.Arr}{kvs:List (List bG×V)}
theorem uq (h:Is H' (nl H H') (.xI (As.map fun a=>.inr (ak a)) ds) v):∃ d kvs u,v=.ref d/\H d=none/\H' d=some u/\(u=.dT kvs\/(u=.dK []/\kvs=[]))/\kvs.map (·.1)=As.map ak:=by
 obtain⟨d,vs,rfl,⟨sh,n0,mu⟩,all⟩:=h;have nofz:∀ o u,H' d≠some (.cm o u):=fun o u z=>by obtain⟨uo,q,qm⟩:=mu;rw[z]at q;cases q;exact qm
 rcases sh with⟨kvs,e|⟨o,e⟩,h1,h2⟩|⟨kvs,e|⟨o,e⟩,h1,h2⟩
 .have e0:As=[]:=by
   cases As with
   |nil=>rfl
   |cons x l=>cases kvs with
    |nil=>cases h1
    |cons y kvs=>rw[OE,OE]at h1;injection h1 with h1;cases h1
  subst e0;have:kvs=[]:=by cases kvs with
   |nil=>rfl
   |cons _ _=>cases h1
  subst this;exact⟨d,[],_,rfl,n0,e,.inr ⟨rfl,rfl⟩,rfl⟩
 .exact(nofz _ _ e).elim
 .refine⟨d,kvs,_,rfl,n0,e,.inl rfl,?_⟩;have:=PJ (List.map fun k:DK=>match k with|.inr a=>a|.inl _=>[]) h1;rw[PN,PN]at this;exact this.symm
 .exact(nofz _ _ e).elim
theorem zM (ks:List eV)(k:eV):(xx ks k).length<=ks.length+1:=by unfold xx;split<;>simp
end
noncomputable def hd (r:Sp.Rule):eV:=(r.1,r.2.1)
end L4
namespace L2
open PySem PySem.Spec PySem.Calls PyProof.Rows ST
end L2
namespace L4
open PySem PySem.Spec PyProof.Rows L2 L3
section
variable {X:Cx}{scope:Scope}{tg elt:Expr}{ifs:List Expr}{tN capN:List Str}{caps:List Nat}{σ:L2.St}{H1:Hp}{Fin:Addr->List V->Hp->Prop}{J:L2.It}{n:Nat}{gt:TG}{tt:TT}{te:TE}
theorem mR (hg:∀ cl C s3 H3 fp,PG (bw X scope (tN++capN) cl C s3 H3 fp) tg gt)(ht:∀ cl C s3 H3 fp,Bg (bw X scope (tN++capN) cl C s3 H3 fp) ifs tt)(he:∀ cl C s3 H3 fp,PE (bw X scope (tN++capN) cl C s3 H3 fp) elt te)(I:Addr->Nat->List V->Hp->Prop)(p0:∀ Dl,H1 Dl=none->I Dl 0 [] (upd H1 Dl (.lst [])))(hD:∀{Dl i acc H},I Dl i acc H->H Dl=some (.lst acc))
 (hgo:∀ Dl i acc H,I Dl i acc H->i<n->J.go i H) (hst:∀ Dl acc H,I Dl n acc H->J.stop n H)
 (hb:∀ Dl i acc H x H' o,i<n->I Dl i acc H->J.vM i H x H'->o.length=tN.length->gt x (o++iP σ caps) H' fun σ2 H2=>(∀ j:Nat,tN.length<=j->σ2[j]?=(o++iP σ caps)[j]?)/\tt σ2 H2 fun b H3=>if b=true then te σ2 H3 fun y H5=>H5 Dl=some (.lst acc)/\acc.length<sizeLine/\I Dl (i+1) (acc++[y]) (upd H5 Dl (.lst (acc++[y]))) else I Dl (i+1) acc H3)
 (fin:∀ Dl acc H,H1 Dl=none->I Dl n acc H->Fin Dl acc H):cY X scope tg tN capN caps elt ifs σ Fin J H1:=by
 intro Dl hDl cl C s3 fp;refine⟨_,_,_,fun i m acc H'=>m=n-i/\i<=n/\I Dl i acc H',hg cl C s3 _ fp,ht cl C s3 _ fp,he cl C s3 _ fp,⟨n,by simp,OP _,p0 Dl hDl⟩,?_⟩;rintro i m acc H' ⟨rfl,hi,p⟩;refine⟨hD p,?_⟩;by_cases hlt:i<n
 .refine .inr ⟨hgo Dl i acc H' p hlt,fun xv H'' o y ho=>?_⟩;have:=hb Dl i acc H' xv H'' o hlt p y ho;have e2:∀{A:Prop},(∃ m',m'<n-i/\(m'=n-(i+1)/\i+1<=n/\A))↔A:=⟨fun⟨_,_,_,_,a⟩=>a,fun a=>⟨_,by lia,rfl,hlt,a⟩⟩;simp only[e2];exact this
 .have ei:i=n:=by lia
  subst ei;exact .inl ⟨hst Dl acc H' p,fin Dl acc H' hDl p⟩
end
section
variable {X:Cx}{K:SG}{H:Hp}{q p d:Addr}{σ:L2.St}{vs:List V}{Q:VK}
theorem lA {n:Nat}:∀{ds:List D},(∀ d∈ds,d.dep<=n)->D.fA ds<=n
 | [],_=>OP _
 |d::ds,h=>by have h1:=h d Ox;have h2:=lA fun e he=>h e (Ow _ he);show max d.dep (D.fA ds)<=n;lia
def Iw (K:SG):List V->Hp->VK->Prop:=fun xs H Q=>∃ x T t b,xs=[x,.ty T]/\KB K H x t/\PySem.W.kitOne K t (.type T)=some b/\Q (.bl b) H
theorem kh:bQ X (.builtin "isinstance") (Iw X.K):=zg
def CY (K:SG)(T:String)(te:TE):TE:=gS (Iw K) (aj te (aj (tC (.ty T)) aG))
theorem Reads.LX {te:TE}{T:String}{x:V}{dd:D}(h:Reads te σ H x)(is:KB K H x (.type dd.ty))(hK:Cr T):Reads (CY K T te) σ H (.bl (Mc T dd)):=fun Q q=>h _ ⟨x,T,_,_,rfl,is,hK K dd,q⟩
def Iy (K:SG):List V->Hp->VK->Prop:=fun xs H Q=>∃(p:Addr)(vs:List V)(bs:List Bool),xs=[.ref p]/\SqL K H p vs/\vs=bs.map V.bl/\Q (.bl (bs.all id)) H
theorem xy (hc:X.calm=true):bQ X (.builtin "all") (Iy X.K):=wG hc
def K5:TS:=bU (tC (.bl false))
end
noncomputable abbrev Rw:=Int×List Int
section
variable {K:SG}{H:Hp}{p:Addr}{σ:L2.St}{k:eV}
theorem Reads.G_ (ha:Reads ta σ H (.ref p))(hb:Reads tb σ H (.int i))(h:Rd H p (.lst xs))(e:xs[j]?=some v)(ei:i=(j:Nat)):Reads (aZ (kO K) ta tb) σ H v:=ha.op hb fun _ q=>⟨p,xs,i,v,rfl,rfl,.inl h,by rw[ei];exact jo e,q⟩
theorem Reads.DD (ha:Reads ta σ H (.ref p))(h:Rd H p (.lst xs)):Reads (gS (gn K) (aj ta aG)) σ H (.int xs.length):=fun _ k=>ha _ ⟨p,xs,rfl,.inl (.inl h),k⟩
def Ni:R2:=qC fun i j=>.bl (decide (j<=i))
def D_:R2:=qC fun i j=>.int (i-j)
end
def km (K:SG):List V->Hp->VK->Prop:=fun xs H Q=>∃ p ys,xs=[.ref p]/\(SqL K H p ys\/SqT K H p ys)/\∀ l,H l=none->Q (.ref l) (upd H l (.lst ys))
theorem cR:bQ X (.type "list") (km X.K):=pA
noncomputable abbrev jk:=List D->Res R
noncomputable abbrev Tr:Addr->Prop:=fun _=>True
def ig (rooms signs:Int)(RL:List Sp.Rule):D:=.tup [.int rooms,.int signs,.lst (RL.map fJ)]
structure Om where
 (Fp Fm Fc Oh On Og Fh Fb:jk)
section
variable {H H':Hp}
theorem FN {m:Addr->Prop}{dd:D}(h:Is H m dd v)(s:Same H H'):Is H' Tr dd v:=Is.mono (fun c u e _=>s c u e) (fun _ _ _ _=>True.intro) h
end
theorem Iz (h:IsRule H r v):Is H m (fJ r) v:=by obtain⟨p,q,rfl,hp,hq⟩:=h;exact⟨p,_,rfl,hp,_,_,rfl,rfl,_,_,rfl,rfl,_,_,rfl,rfl,_,_,rfl,⟨q,_,rfl,hq,gB _⟩,rfl⟩
structure Oe where
 (Oi He Hd:Scope)
 (Ol NZ Hc NV G9 N5:Expr)
 (Oj tN capN:List Str)
 (caps:List Nat)
section
def bP:R2:=rI (fun _ j=>0<j) fun i j=>.int (i % j)
def fh:R2:=rI BP fun i j=>.int (i / j)
end
structure JJ (l z:List Int):Prop where
 m:∀ x,x∈z↔x∈l
 p:z.Pairwise (·< ·)
section
variable {H H':Hp}{p:Addr}{ks:List eV}{σ:L2.St}{vs:List V}
def zN (X:Cx):List V->Hp->VK->Prop:=fun vs H Q=>∃ l xs,vs=[.ref l]/\Rd H l (.lst (xs.map V.int))/\xs.length<=300/\∀ p es its,H p=none->its.map (·.1)=xs->dX (eI X.prog X.w) es its->Q (.ref p) (upd H p (.ext fun h=>SetAt X.w h p es))
theorem ur (hc:X.calm=true):bQ X (.type "set") (zN X):=tT hc
def zO (X:Cx):List V->Hp->VK->Prop:=fun vs H Q=>∃ p es its,vs=[.ref p]/\H p=some (.ext fun h=>SetAt X.w h p es)/\dX (eI X.prog X.w) es its/\its.length<=63/\
 ∀(l:Addr)(ks:List Int),H l=none->(∀ k,k∈ks↔k∈its.map (·.1))->ks.Pairwise (·< ·)->Q (.ref l) (upd H l (.lst (ks.map V.int)))
theorem ut (hc:X.calm=true):bQ X (.builtin "sorted") (zO X):=nT hc
theorem FO (h:Reads ta σ H (.ref l))(hl:Rd H l (.lst (xs.map .int)))(hz:xs.length<=63)(k:∀ l' z H',Same H H'->H l'=none->H' l'=some (.lst (z.map .int))->JJ xs z->Q (.ref l') H'):gS (zO X) (aj (gS (zN X) (aj ta aG)) aG) σ H Q:=by refine h _ ⟨l,xs,rfl,hl,by lia,fun p es its hp e v=>⟨p,es,its,rfl,ao,v,?_,fun l' ks hl' hm pw=>k l' ks _ ((az hp).trans (az hl')) ((az hp).free hl') ao ⟨fun x=>by rw[hm,e],pw⟩⟩⟩;have:=PJ List.length e;rw[Ot]at this;lia
end
section
variable {K:SG}{H H':Hp}{σ:L2.St}{Q:VK}
def IA (K:SG)(t:TE):TT:=fun σ H Q=>t σ H fun x H'=>∃ k,ED K x H' k/\Q k H'
end
noncomputable def FP (Z:eV->List eV)(k:eV):Int:=((Z k).length:Nat)
structure KS where
 N:eV->Int
 ended:List eV
 qD:List eV
section
variable {X:Cx}{H H':Hp}{D:Ends}{σ:L2.St}
noncomputable def qg (X:Cx)(scope:Scope)(tg elt:Expr)(tN capN:List Str)(caps:List Nat)(ifs:List Expr)(i:Nat)(wi:TI):TS:=fun D σ H=>wi σ H (cY X scope tg tN capN caps elt ifs σ fun Dl _ H'=>D.nx (σ.set i (some (.ref Dl))) H')
end
section
variable {ks:List eV}{Z:eV->List eV}
def ks0 (Z:eV->List eV)(ks:List eV):KS:=⟨FP Z,ks.filter fun k=>decide (FP Z k=0),ks.filter fun k=>decide (FP Z k=0)⟩
end
section
variable {X:Cx}{P:SH}{w:World}{H:Hp}{s:SF}{m m':Addr->Prop}
theorem jG {A:SJ}{l:List D}{vs ws:List V}{us us':List SI}(f:∀ d∈l,∀ v w' u u',Is H m d v->Is H m' d w'->RelV v u->RelV w' u'->SeqAt.EqAt A s u u' true)(i1:IsAll H m l vs)(i2:IsAll H m' l ws)(r1:Vals vs us)(r2:Vals ws us') :
 us.length=us'.length/\∀ j (h1:j<us.toArray.size) (h2:j<us'.toArray.size),SeqAt.EqAt A s us.toArray[j] us'.toArray[j] true:=by
 have e1:=r1.length;have e2:=r2.length;have e3:=i1.length;have e4:=i2.length;refine⟨by lia,fun j h1 h2=>?_⟩;rw[OA]at h1 h2;have k:l[j]?=some (l[j]'(by lia)):=Ou _;obtain⟨v,ev,iv⟩:=i1.get k;obtain⟨v',ev',iv'⟩:=i2.get k;obtain⟨u,eu,ru⟩:=r1.get ev;obtain⟨u',eu',ru'⟩:=r2.get ev';rw[Ou h1]at eu;rw[Ou h2]at eu';cases eu;cases eu';exact f _ (RU _) v v' _ _ iv iv' ru ru'
theorem vA (n:Nat):(List.range n).all (fun _=>true)=true:=QQ.mpr fun _ _=>rfl
theorem sj {A:SJ}{a b:Addr}(h:SeqAt.RcAt A s (.ref a) (.ref b) true):SeqAt.EqAt A s (.ref a) (.ref b) true:=by
 by_cases e:a=b
 .rw[e];exact SeqAt.EqAt.same _
 .exact SeqAt.EqAt.of_refs e h
theorem vB (ok:HOk P w H s.heap)(n:Nat):∀(A:SJ){d:D}{v w':V}{u u':SI},A.units+n<cLine->d.dep<=n->n<1000->Is H m d v->Is H m' d w'->RelV v u->RelV w' u'->SeqAt.EqAt A s u u' true:=by
 induction n with
 |zero=>
  intro A d v w' u u' hu hd hn h1 h2 r1 r2;cases d with
  |int i=>cases h1;cases h2;obtain⟨t,rfl⟩:=r1;obtain⟨t',rfl⟩:=r2;have:=SeqAt.EqAt.int_int (A:=A) (s:=s) i t i t';rwa [QR]at this
  |str x=>cases h1;cases h2;obtain⟨t,rfl⟩:=r1;obtain⟨t',rfl⟩:=r2;have:=SeqAt.EqAt.str_str (A:=A) (s:=s) x t x t';rwa [QR]at this
  |bC=>cases h1;cases h2;cases r1;cases r2;exact .same _
  |bl b=>cases h1;cases h2;cases r1;cases r2;exact .same _
  |_=>simp only[D.dep]at hd;lia
 |succ n ih=>
  intro A d v w' u u' hu hd hn h1 h2 r1 r2;have f:∀ l:List D,D.fA l<=n->∀ d∈l,∀ v w' u u',Is H m d v->Is H m' d w'->RelV v u->RelV w' u'->SeqAt.EqAt A.in1 s u u' true:=fun l hl d hm v w' u u' i1 i2 r1 r2=>by obtain⟨j,hj⟩:=OS.mp hm;exact ih A.in1 (by show A.units+1+n<cLine;lia) (OR (lb hj) hl) (by lia) i1 i2 r1 r2
  cases d with
  |tup l=>obtain⟨a,vs,rfl,g,q⟩:=h1;obtain⟨a',vs',rfl,g',q'⟩:=h2;cases r1;cases r2;obtain⟨us,y,p⟩:=pN ok g;obtain⟨us',y',p'⟩:=pN ok g';obtain⟨e,z⟩:=jG (f l (by simp only[D.dep]at hd;lia)) q q' y y';have z:=SeqAt.RcAt.tuples p p' (by lia) z;rw[OA,OA,e,QR,vA]at z;exact sj z
  |lst l=>obtain⟨a,vs,rfl,g,q⟩:=h1;obtain⟨a',vs',rfl,g',q'⟩:=h2;cases r1;cases r2;obtain⟨us,y,p⟩:=mB ok g;obtain⟨us',y',p'⟩:=mB ok g';obtain⟨e,z⟩:=jG (f l (by simp only[D.dep]at hd;lia)) q q' y y';have z:=SeqAt.RcAt.lists p p' (by rw[OA,OA,e]) (by lia) z;rw[vA]at z;exact sj z
  |xI k l=>simp only[D.dep]at hd;lia
  |_=>exact ih A (by lia) (OP _) (by lia) h1 h2 r1 r2
def CZ:R2:=fun x y H Q=>∃ l m m',Is H m (.tup l) x/\Is H m' (.tup l) y/\D.fA l<=49/\Q (.bl false) H
theorem zP (hu:X.A.units+64<cLine):iN X (compareOp .NotEq) CZ:=by intro af s σ H x y v u Q I rx ry h;obtain⟨l,m,m',⟨a,vs,rfl,g,q⟩,⟨a',vs',rfl,g',q'⟩,hd,k⟩:=h;cases rx;cases ry;obtain⟨us,y,p⟩:=pN I.aX g;obtain⟨us',y',p'⟩:=pN I.aX g';obtain⟨e,z⟩:=jG (fun d hm v w' u u' i1 i2 r1 r2=>by obtain⟨j,hj⟩:=OS.mp hm;exact vB I.aX 49 X.A.in1 (by show X.A.units+1+49<cLine;lia) (OR (lb hj) hd) (by lia) i1 i2 r1 r2) q q' y y';have z:=SeqAt.RcNeAt.tuples p p' (by lia) z;rw[OA,OA,e,QR,vA]at z;exact z X.prog X.w X.xe _ ⟨.bl _,H,I,rfl,k⟩
end
section
variable {h:eV}
theorem o5 (xs:List V)(j:Nat):j3 xs (some (j:Nat)) none=xs.drop j:=by
 unfold j3;have h1:HT.sIx xs.length 0 (some ((j:Nat):Int))=min j xs.length:=HT.sIx_nat xs.length 0 j;have h2:HT.sIx xs.length xs.length none=xs.length:=rfl;rw[h1,h2];by_cases h:j<=xs.length
 .rw[Nat.min_eq_left h,Pe (by simp)]
 .rw[SC (by lia),List.drop_eq_nil_of_le (by lia),List.drop_eq_nil_of_le (by lia),List.take_nil]
end
end L4
namespace L4
open PySem PySem.Spec PySem.Calls PyProof.Rows L2 L3 ST
section
variable {l:Addr}
theorem sk (l:List V)(v:V):uL (l++[v]) (-1)=some v:=by
 unfold uL DH;rw[OL (by lia),OK (by simp;lia)];have:((-1:Int)+((l++[v]).length:Nat)).toNat=l.length:=by simp;lia
 show(l++[v])[((-1:Int)+((l++[v]).length:Nat)).toNat]?=some v;rw[this];simp
end
end L4
namespace L4
open PySem PySem.Spec PyProof.Rows L2 L3
structure Ke (ro sg:Int) (r:Sp.Rule):Prop where
 a:0<=r.1/\r.1<ro
 s:0<=r.2.1/\r.2.1<sg
 t:0<=r.2.2.1/\r.2.2.1<ro
 p:r.2.2.2.length<=2
 q:∀ x∈r.2.2.2,0<=x/\x<sg
section
variable {H:Hp}{D:Ends}{σ:L2.St}
theorem em {a b:Int}(h:0<b):0<=a % b/\a % b<b:=⟨Int.emod_nonneg _ (by lia),Int.emod_lt_of_pos _ h⟩
theorem Reads.mod (ha:Reads ta σ H (.int i))(hb:Reads tb σ H (.int j))(h:0<j):Reads (aZ bP ta tb) σ H (.int (i % j)):=ha.op hb fun _ q=>⟨_,_,rfl,rfl,h,q⟩
theorem Reads.dv (ha:Reads ta σ H (.int i))(hb:Reads tb σ H (.int j))(h:0<j/\j<1073741824):Reads (aZ fh ta tb) σ H (.int (i / j)):=ha.op hb fun _ q=>⟨_,_,rfl,rfl,h,q⟩
def jH:R2:=rI CMul fun i j=>.int (i*j)
theorem Reads.mul (ha:Reads ta σ H (.int i))(hb:Reads tb σ H (.int j))(h:-(2 ^ 64)<j/\j<2 ^ 64):Reads (aZ jH ta tb) σ H (.int (i*j)):=ha.op hb fun _ q=>⟨_,_,rfl,rfl,.inr h,q⟩
theorem Reads.ad (ha:Reads ta σ H (.int i))(hb:Reads tb σ H (.int j)):Reads (aZ cA ta tb) σ H (.int (i+j)):=ha.op hb fun _ q=>⟨_,_,rfl,rfl,q⟩
theorem ii (h:Reads t σ H v)(k:D.nx (σ.set i (some v)) H):bh t (aE i) D σ H:=h _ k
end
section
theorem sq (xs:List V)(a b:Int)(ha:0<=a)(hb:0<=b):(j3 xs (some a) (some (a+b))).length<=b.toNat:=by
 unfold j3;rw[Py,Qw];have e1:HT.sIx xs.length 0 (some a)=min a.toNat xs.length:=by have:=HT.sIx_nat xs.length 0 a.toNat;rw[Int.toNat_of_nonneg ha]at this;exact this
 have e2:HT.sIx xs.length xs.length (some (a+b))=min (a+b).toNat xs.length:=by have:=HT.sIx_nat xs.length xs.length (a+b).toNat;rw[Int.toNat_of_nonneg (by lia)]at this;exact this
 rw[e1,e2];refine OR (Nat.min_le_left _ _) ?_;rw[Int.toNat_add ha hb];exact Nat.sub_le_of_le_add ((Nat.le_total xs.length a.toNat).elim (fun h=>OR (Nat.min_le_right _ _) (by rw[SC h];exact Nat.le_add_left _ _)) fun h=>OR (Nat.min_le_left _ _) (by rw[Nat.min_eq_left h,Se];exact Oq _))
end
section
variable {K:SG}
def K6 (K:SG)(i:Nat):TE:=gS (gn K) (aj (au i) aG)
end
theorem mS (hc:X.calm=true)(S:cH X scope tN capN caps)(hN:X.N.Nodup)(hi':X.N[i]?=some y)(hy:X.env.scope.names.lookup y=some .local)(hi:PI X tg iter wi)
 (hsw:autoParam (swapsWith (.ListComp elt [⟨tg,iter,ifs,0⟩] scope pos) (some (.Name y py)) spos.line X.env=pure true) SQ._auto_1) (hs:autoParam (∀ x,foldedSetIterable iter X.env x=pure x) SN._auto_1):PS X (.Assign [.Name y py] (.ListComp elt [⟨tg,iter,ifs,0⟩] scope pos) spos) (qg X scope tg elt tN capN caps ifs i wi):=fun af s σ H D I h=>zb hc S hN hi' hy hsw I hi h hs
structure Of where
 (Fr Fm Fc:jk)
section
variable {X:Cx}
noncomputable def IB:TS:=fun _ _ _=>False
theorem FQ:PSs X b IB:=fun _ _ _ _ _ _ h=>h.elim
end
section
variable {K:SG}
def Nj (K:SG):TS:=bU (DE (CY K "int" (au 0)) (DF (CY K "bool" (au 0))))
end
def IsTo (H:Hp)(x:Pz.Arr×Pz.mG)(kv:List bG×V):Prop:=kv.1=ak x.1/\∃ p,kv.2=.ref p/\H p=some (.tup [.int x.2.1,vO x.2.2.1,vO x.2.2.2])
section
variable {X:Cx}{K:SG}{H H':Hp}{d:Addr}{t:Pz.TD}{kvs:List (List bG×V)}{D:Ends}{σ:L2.St}{vs:List V}{Q:VK}{E:XK}
theorem IsTo.keep {x:Pz.Arr×Pz.mG}{kv:List bG×V}(k:KT H H')(h:IsTo H x kv):IsTo H' x kv:=let ⟨a,p,b,c⟩:=h;⟨a,p,b,k _ _ c⟩
theorem J6 {m:Addr->Prop}{o:Option Int}{v:V}(h:Is H m (oD o) v):v=vO o:=by cases o<;>exact h
theorem vC {α β:Type}{R:α->β->Prop}:∀{xs:List α}{ys:List β},xs.length=ys.length->(∀(i:Nat) x y,xs[i]?=some x->ys[i]?=some y->R x y)->bc R xs ys
 | [],[],_,_=>.nil
 |x::xs,y::ys,e,h=>.cons (h 0 x y rfl rfl) (vC (Nat.succ.inj e) fun i x y e1 e2=>h (i+1) x y e1 e2)
theorem zQ {v:V}(h:Is H' (nl H H') (oY t) v):∃ d kvs u,v=.ref d/\H d=none/\H' d=some u/\(u=.dT kvs\/(u=.dK []/\kvs=[]))/\bc (IsTo H') t kvs:=by
 obtain⟨d,kvs,u,e0,n0,eu,hu,hk⟩:=uq (As:=t.map (·.1)) (by unfold oY at h;rw[PN];exact h);obtain⟨d',vs,e1,⟨sh,_⟩,all⟩:=h;cases e0.symm.trans e1;refine⟨d,kvs,u,e0,n0,eu,hu,vC (by have:=PJ List.length hk;simpa using this.symm) fun i x kv ex ei=>?_⟩;have hv:vs[i]?=some kv.2:=by
  rcases hu with rfl|⟨rfl,rfl⟩
  .rcases sh with⟨kvs',e|⟨o,e⟩,h1,h2⟩|⟨kvs',e|⟨o,e⟩,h1,h2⟩
   .rw[eu]at e;cases e
   .rw[eu]at e;cases e
   .rw[eu]at e;cases e;rw[h2,OD,ei];rfl
   .rw[eu]at e;cases e
  .simp at ei
 obtain⟨w',ew,iw⟩:=all.get (i:=i) (d:=Fz x.2) (by rw[OD,ex];rfl);rw[hv]at ew;cases ew;obtain⟨p,ws,e,hp,v0,r,rfl,i0,v1,r1,rfl,i1,v2,r2,rfl,i2,rfl⟩:=iw;obtain rfl:v0=.int x.2.1:=i0;rw[J6 i1,J6 i2]at hp;refine⟨?_,p,e,hp⟩;have:=PJ (fun l:List (List bG)=>l[i]?) hk;simp only[OD,ei,ex,Option.map_some]at this;exact OW this
def sr (H:Hp)(x:Pz.Arr×Int)(v:V):Prop:=∃ p b,v=.ref p/\H p=some (.tup [.ref b,.int x.2])/\H b=some (.tup (gk x.1))
theorem fj:mQ sr:=fun k _ _ ⟨p,b,e,h,g⟩=>⟨p,b,e,k _ _ h,k _ _ g⟩
noncomputable def qE (t:Pz.TD)(k:eV):List (Pz.Arr×Int):=(t.filter fun x=>decide ((x.1.1,x.1.2.1)=k)).map fun x=>(x.1,x.2.1)
theorem zR (t:Pz.TD)(x:Pz.Arr×Pz.mG):qE (t++[x])=CW (qE t) (x.1.1,x.1.2.1) (qE t (x.1.1,x.1.2.1)++[(x.1,x.2.1)]):=by
 funext k;unfold qE CW;by_cases h:k=(x.1.1,x.1.2.1)
 .rw[OK h,h,QB];simp
 .rw[OL h,QB];simp[Pw h]
theorem C1 (t:Pz.TD)(k:eV):(qE t k).length<=t.length:=by unfold qE;rw[Ot];exact Qi ..
theorem mem_ldT {k:eV}{a:Pz.Arr}{p:Int}:(a,p)∈qE t k↔(a.1,a.2.1)=k/\∃ v,(a,v)∈t/\v.1=p:=by
 unfold qE;rw[OB];constructor
 .rintro⟨⟨a',v⟩,h,e⟩;cases e;rw[Pa]at h;exact⟨O2 h.2,v,h.1,rfl⟩
 .rintro⟨h,v,hv,rfl⟩;exact⟨(a,v),Pa.mpr ⟨hv,OO h⟩,rfl⟩
inductive AN:Sp
 |mk {H:Hp} {d:Addr} {u:HO} {kvs:List (List bG×V)} {t:Pz.TD} {Q:VK} {E:XK} (hd:H d=some u) (hu:u=.dT kvs\/(u=.dK []/\kvs=[])) (al:bc (IsTo H) t kvs) (hz:t.length<1000000) (k:∀ a ks RA H',Gr sr H H' a ks (qE t) RA->Q (.ref a) H'):AN [.ref d] H Q E
theorem zS (h:AN vs H Q E):vs.length=1:=by cases h;rfl
def IC (K:SG):TE:=cf (aj (au 2) (aj (tI K 3 0) aG))
def K7 (K:SG):TE:=cf (aj (tI K 2 0) (aj (tI K 2 1) aG))
def K8 (K:SG):TS:=cw (xS K "list" dD (Mi K 1 (K7 K)) (aj (IC K) aG))
def Nk (X:Cx):TS:=aP (bh j4 (aE 1)) (aP (fun D σ H=>f6 (HC X (au 0)) (dQ X.K 2 (be (aE 2) (be (aE 3) dP))) (K8 X.K) (Kt X D) σ H) (bU (au 1)))
def xA (H:Hp)(d:Addr):Hp:=fun c=>if c=d then none else H c
theorem C2 (H:Hp)(d:Addr):xA H d d=none:=OK rfl
theorem jI {c:Addr}(n:c≠d):xA H d c=H c:=OL n
theorem xB {c:Addr}{u:HO}(h:xA H d c=some u):c≠d/\H c=some u:=by
 by_cases e:c=d
 .rw[e,C2]at h;cases h
 .rw[jI e]at h;exact⟨e,h⟩
theorem Gr.JH {α:Type}{R:Hp->α->V->Prop}{a:Addr}{ks:List eV}{F:eV->List α}{RA:eV->Addr}{o:Obj}{u:HO}(h:Gr R (xA H d) H' a ks F RA)(hR:mQ R)(hd:H d=some u)(hf:H' d=some (.cm o u))(hu:nO u):Gr R H (upd H' d u) a ks F RA:=by
 have nad:a≠d:=fun z=>by have:=h.r;rw[z,hf]at this;cases this
 have kt:KT H' (upd H' d u):=.upd hf fun _ z=>(nomatch z);refine⟨fun c w e=>?_,by rw[aA nad];exact h.r,by have:=h.na;rwa [jI nad]at this,fun k hk=>?_,h.i,h.z⟩
 .by_cases z:c=d
  .rw[z,ao];rw[z,hd]at e;exact e
  .rw[aA z];exact h.s _ _ (by rw[jI z];exact e)
 .obtain⟨n,vs,e,al⟩:=h.v k hk;have nr:RA k≠d:=fun z=>by rw[z,hf]at e;cases e
  exact⟨by rwa [jI nr]at n,vs,by rw[aA nr];exact e,al.mono (hR kt)⟩
theorem C3 (h:AN vs H Q E):Nk X (eQ Q) (bj (nS 4) vs) H:=by
 obtain @⟨H,d,u,kvs,t,Q,E,hd,hu,al,hz,k⟩:=h;intro a ha;have qq:nO u:=by rcases hu with rfl|⟨rfl,_⟩<;>exact True.intro
 have nad:a≠d:=fun z=>by rw[z,hd]at ha;cases ha
 have s1:Same H (upd H a (.dT [])):=az ha;have ha1:upd H a (.dT []) a=some (.dT []):=ao;generalize upd H a (.dT [])=H1 at s1 ha1;refine⟨_,rfl,d,kvs,u,rfl,hu,.inr ⟨s1 _ _ hd,fun o ho=>?_⟩⟩;have kp:Kp d H1 (upd H1 d (.cm o u)):=fun c w e n=>by rw[aA n];exact e
 have hf:upd H1 d (.cm o u) d=some (.cm o u):=ao;have kt:KT H (upd H1 d (.cm o u)):=(KT.of s1).trans (.upd (s1 _ _ hd) fun ws z=>by subst z;exact qq);generalize upd H1 d (.cm o u)=H2 at hf kp kt;have G0:Gr sr (xA H d) H2 a [] (qE []) (fun _=>0):=⟨fun c w e=>let ⟨n,e⟩:=xB e;kp _ _ (s1 _ _ e) n,kp _ _ ha1 nad,by rw[jI nad];exact ha,fun k h=>(nomatch h),fun k h=>(nomatch h),fun k h=>rfl⟩;refine qe (n:=kvs.length) (fun i σ' H'=>(∃ x y,σ'=[some (.ref d),some (.ref a),x,y])/\H' d=some (.cm o u)/\KT H H'/\∃ ks RA,ks.length<=i/\Gr sr (xA H d) H' a ks (qE (t.take i)) RA) ⟨⟨none,none,rfl⟩,hf,kt,[],_,Oq _,G0⟩ (fun i σ' H' p hi=>⟨p.2.1,hi⟩) (fun σ' H' p=>⟨p.2.1,Oq _⟩) (fun i σ' H' x H'' D' hi p y k'=>?_) fun σ' H' p=>?_
 .obtain⟨⟨x2,x3,rfl⟩,hf,kt,ks,RA,hl,G⟩:=p;obtain⟨p5,b,kk,w,hp5,rfl,hb,rfl,e⟩:=y;obtain⟨⟨ar,pr,nu,mi⟩,ex,ek,p,rfl,hp⟩:=al.get e;cases ek;have hi':=(Ov.mp ex).1;have s5:Same H' (upd H' p5 (.tup [.ref b,.ref p])):=az hp5;refine ua ao ?_;have G5:=G.more fj s5;have hb5:=s5 _ _ hb;have hf5:=s5 _ _ hf;have k5:=kt.trans (.of s5);have hp5':=k5 _ _ hp;generalize upd H' p5 (.tup [.ref b,.ref p])=H5 at G5 hb5 hf5 k5 hp5';have hb5:H5 b=some (.tup (gk ar)):=hb5;refine Iv (k:=(ar.1,ar.2.1)) G5 fj (by lia) rfl (.t (.c (.ix (n:=0) (.va rfl) hb5 (v:=.int ar.1) rfl) (.c (.ix (n:=1) (.va rfl) hb5 (v:=.int ar.2.1) rfl) .ni)) rfl) fun H6 RA' kp6 kt6 G6 hk6=>?_;obtain⟨n6,us,e6,al6⟩:=G6.v _ hk6;refine⟨.inl ⟨rfl,_,SqL.of e6⟩,?_⟩;show IC X.K [some (.ref d),some (.ref a),some (.ref b),some (.ref p)] H6 _;refine jg (ws:=[.ref b,.int pr]) (.c (.va rfl) (.c (.ix (n:=0) (.va rfl) (kt6 _ _ hp5') (v:=.int pr) rfl) .ni)) rfl fun p7 hp7=>?_;have s7:=az (o:=.tup [.ref b,.int pr]) hp7;have h7:upd H6 p7 (.tup [.ref b,.int pr]) p7=some (.tup [.ref b,.int pr]):=ao;have G7:=G6.more fj s7;have e7:=s7 _ _ e6;have hf7:=s7 _ _ (kp6 _ _ hf5 (Pw nad));have hb7:=s7 _ _ (kt6 _ _ hb5);have k7:=(k5.trans kt6).trans (.of s7);generalize upd H6 p7 (.tup [.ref b,.int pr])=H7 at s7 h7 G7 e7 hf7 hb7 k7;have ln:=C1 (t.take i) (ar.1,ar.2.1);rw[Py]at ln;have et:t.take (i+1)=t.take i++[(ar,pr,nu,mi)]:=by rw[Pi,ex];rfl
  have nd:d≠RA' (ar.1,ar.2.1):=fun z=>by rw[<- z,hf7]at e7;cases e7
  refine⟨_,_,_,rfl,rfl,e7,xq (by rw[<- al6.len];lia),k' _ _ ⟨⟨_,_,rfl⟩,by rw[aA nd];exact hf7,k7.trans (.upd e7 fun _ z=>(nomatch z)),xx ks (ar.1,ar.2.1),RA',?_,?_⟩⟩
  .have:=zM ks (ar.1,ar.2.1);lia
  .have:=G7.ext (zs:=[(ar,pr)]) fj hk6 e7 (.cons ⟨p7,b,rfl,h7,hb7⟩ .nil);rw[et,zR];exact this
 .obtain⟨⟨x2,x3,rfl⟩,hf,kt,ks,RA,_,G⟩:=p;rw[<- al.len,PV]at G;exact .inr ⟨d,o,u,hf,qq,ho,_,rfl,k a ks RA _ (G.JH fj hd hf qq)⟩
end
abbrev qh (ks:List Int)(f:Int->V):List (bG×V):=ks.map fun k=>((.inl k:bG),f k)
noncomputable def Ea (ks:List Int)(b:Int):List Int:=if b∈ks then ks else ks++[b]
noncomputable def zT {β:Type}(f:Int->β)(b:Int)(m:β):Int->β:=fun k=>if k=b then m else f k
theorem fS {β:Type}{f:Int->β}{b:Int}{m:β}:zT f b m b=m:=OK rfl
theorem fT {β:Type}{f:Int->β}{b c:Int}{m:β}(h:c≠b):zT f b m c=f c:=OL h
theorem o6 {ks:List Int}{f:Int->V}{b:Int}:cz (qh ks f) (.inl b)=if b∈ks then some (f b) else none:=by
 induction ks with
 |nil=>rfl
 |cons x r ih=>
  rw[qh,OE];by_cases h:x=b
  .rw[dL (by rw[h]),OK (by rw[h];exact Ox),h]
  .rw[dM fun z=>h (Sum.inl.inj z)];show cz (qh r f) _=_;rw[ih];simp[Pw h]
theorem ID {ks:List Int}{f:Int->V}{b:Int}{v:V}:ci (qh ks f) (.inl b) v=qh (Ea ks b) (zT f b v):=by
 unfold Ea;by_cases h:b∈ks
 .unfold ci;rw[OK (by rw[gb,o6,OK h];rfl),OK h,qh,PN];refine Pt fun j _=>?_;show(if (.inl j:bG)=.inl b then ((.inl j:bG),v) else (.inl j,f j))=(.inl j,zT f b v j);by_cases e:j=b
  .rw[OK (by rw[e]),e,fS]
  .rw[OL fun z=>e (Sum.inl.inj z),fT e]
 .rw[jr _ (by rw[o6,OL h]),OL h,qh,qh,O3];congr 1
  .exact Pt fun j hj=>by rw[fT fun z:j=b=>h (z▸hj)]
  .show _=[((.inl b:bG),zT f b v b)];rw[fS]
theorem mem_adI {ks:List Int}{b c:Int}:c∈Ea ks b↔c∈ks\/c=b:=by
 unfold Ea;split
 .exact⟨.inl,fun h=>h.elim id fun e=>by rw[e];assumption⟩
 .simp
structure oo (P:Int->Int->Pz.Arr->Prop) (ks:List Int) (S:Int->Int) (A:Int->Option Pz.Arr):Prop where
 nd:ks.Nodup
 k:∀ b n a,P b n a->b∈ks/\S b<=n
 v:∀ b∈ks,∃ a,A b=some a/\P b (S b) a
section
variable {P P':Int->Int->Pz.Arr->Prop}{ks:List Int}{S:Int->Int}{A:Int->Option Pz.Arr}{b n:Int}{a:Pz.Arr}
theorem oo.to (h:oo P ks S A)(h1:∀ b n a,P b n a↔P' b n a):oo P' ks S A:=⟨h.nd,fun b n a q=>h.k b n a ((h1 b n a).mpr q),fun b hb=>let ⟨a,e,q⟩:=h.v b hb;⟨a,e,(h1 _ _ _).mp q⟩⟩
theorem oo.old (h:oo P ks S A)(hb:b∈ks)(hn:S b<=n):oo (fun b' n' a'=>P b' n' a'\/(b'=b/\n'=n/\a'=a)) ks S A:=⟨h.nd,fun b' n' a' q=>q.elim (h.k b' n' a') fun⟨e1,e2,_⟩=>by rw[e1,e2];exact⟨hb,hn⟩,fun b hb=>let ⟨a,e,q⟩:=h.v b hb;⟨a,e,.inl q⟩⟩
theorem oo.new (h:oo P ks S A)(hn:b∈ks->n<S b):oo (fun b' n' a'=>P b' n' a'\/(b'=b/\n'=n/\a'=a)) (Ea ks b) (zT S b n) (zT A b (some a)):=by
 refine⟨?_,fun b' n' a' q=>⟨mem_adI.mpr (q.elim (fun q=>.inl (h.k _ _ _ q).1) fun q=>.inr q.1),?_⟩,fun b' hb=>?_⟩
 .unfold Ea;split
  .exact h.nd
  .rename_i nb;rw[Qs];exact⟨h.nd,by simp,fun x hx y hy e=>nb (by rw[<- OI.mp hy,<- e];exact hx)⟩
 .by_cases e:b'=b
  .rw[e,fS];rcases q with q|q
   .have:=h.k _ _ _ q;rw[e]at this;exact Rl (Sb (hn this.1) this.2)
   .rw[q.2.1];exact QX _
  .rw[fT e];exact(h.k _ _ _ (q.resolve_right fun z=>e z.1)).2
 .by_cases e:b'=b
  .rw[e,fS,fS];exact⟨a,rfl,.inr ⟨rfl,rfl,rfl⟩⟩
  .rw[fT e,fT e];obtain⟨a,e1,q⟩:=h.v b' ((mem_adI.mp hb).resolve_right e);exact⟨a,e1,.inl q⟩
end
def IsOA (H:Hp):Option Pz.Arr->V->Prop
 |none,w=>w=.bC
 |some a,w=>∃ b,w=.ref b/\H b=some (.tup (gk a))
theorem IsOA.keep {H H':Hp}(k:KT H H'){o:Option Pz.Arr}{w:V}(h:IsOA H o w):IsOA H' o w:=by
 cases o with
 |none=>exact h
 |some a=>obtain⟨b,e,h⟩:=h;exact⟨b,e,k _ _ h⟩
structure Row (H:Hp) (d:Addr) (ks:List Int) (S:Int->Int) (A:Int->Option Pz.Arr) (T:Int->Addr):Prop where
 r:H d=some (.dK (qh ks fun k=>.ref (T k)))
 t:∀ k∈ks,∃ w,H (T k)=some (.tup [.int (S k),w])/\IsOA H (A k) w
section
variable {X:Cx}{K:SG}{B H H':Hp}{ld sm ah d rp:Addr}{t:Pz.TD}{D:Ends}{σ:L2.St}{vs:List V}{Q:VK}{E:XK}{P:Int->Int->Pz.Arr->Prop}{ks ks0 U:List Int}{S S0:Int->Int}{A A0:Int->Option Pz.Arr}{T T0:Int->Addr}{sign:Int}{a:Pz.Arr}
theorem Row.keep (h:Row H d ks S A T)(k:KT H H')(hd:H' d=some (.dK (qh ks fun k=>.ref (T k)))):Row H' d ks S A T:=⟨hd,fun j hj=>let ⟨w,e,i⟩:=h.t j hj;⟨w,k _ _ e,i.keep k⟩⟩
theorem Row.more (h:Row H d ks S A T)(s:Same H H'):Row H' d ks S A T:=h.keep (.of s) (s _ _ h.r)
noncomputable def qi (ld sm:Addr)(sign:Int)(ah:Addr)(x4 x5 x6 x7 x8:Option V):L2.St:=[some (.ref ld),some (.ref sm),some (.int sign),some (.ref ah),x4,x5,x6,x7,x8]
def IE (K:SG):TE:=aZ cA (tI K 5 0) (au 7)
def FR (K:SG):TS:=qU (au 3) (tI K 6 2) (cf (aj (IE K) (aj (au 6) aG)))
def IF (K:SG):TS:=aP (bh (pD (au 3) (tI K 6 2)) (aE 8)) (cI (Be (br (aZ nX (au 8) (tC .bC))) (br (aZ J3 (IE K) (tI K 8 0)))) (FR K) bY)
def FS (X:Cx):TS:=f6 (cU X.K (gz (au 0) (cf (aj (au 4) (aj (au 2) aG))) (cJ aG))) (dQ X.K 2 (be (aE 6) (be (aE 7) dP))) (IF X.K)
def K9 (X:Cx):TS:=fun D σ H=>f6 (HB X (au 1)) (dQ X.K 2 (be (aE 4) (be (aE 5) dP))) (FS X) (Kt X D) σ H
def Nl (X:Cx):TS:=aP (bh ti (aE 3)) (aP (K9 X) (bU (au 3)))
theorem Mj {x4 x8:Option V}{b:Addr}{s0 p:Int}{w:V}(R:Row H ah ks S A T)(m:oo P ks S A)(hz:ks.length<1000000)(hb:H b=some (.tup (gk a)))(hr:H rp=some (.tup [.int s0,w]))(hn:a.2.2∈ks->s0+p<S a.2.2)
 (k:∀ T' H',Kp ah H H'->KT H H'->Row H' ah (Ea ks a.2.2) (zT S a.2.2 (s0+p)) (zT A a.2.2 (some a)) T'->D.nx (qi ld sm sign ah x4 (some (.ref rp)) (some (.ref b)) (some (.int p)) x8) H'):FR K D (qi ld sm sign ah x4 (some (.ref rp)) (some (.ref b)) (some (.int p)) x8) H:=by
 delta FR qU
 refine jg (ws:=[.int (s0+p),.ref b]) (.c (.ad (.ix (n:=0) (.va rfl) hr (v:=.int s0) rfl) (.va rfl)) (.c (.va rfl) .ni)) rfl fun q hq=>?_;have s1:=az (o:=.tup [.int (s0+p),.ref b]) hq;have h1:upd H q (.tup [.int (s0+p),.ref b]) q=some (.tup [.int (s0+p),.ref b]):=ao;have R1:=R.more s1;have hb1:=s1 _ _ hb;generalize upd H q (.tup [.int (s0+p),.ref b])=H1 at s1 h1 R1 hb1;refine⟨_,rfl,Reads.ix (n:=2) (.va rfl) hb1 (v:=.int a.2.2) rfl _ ⟨ah,_,rfl,DPut.k (k:=.inl a.2.2) R1.r (xq (by rw[Ot];lia)),?_⟩⟩;rw[ID];have kt:KT H1 (upd H1 ah (.dK (qh (Ea ks a.2.2) (zT (fun k=>V.ref (T k)) a.2.2 (.ref q))))):=.upd R1.r fun _ z=>(nomatch z);refine k (zT T a.2.2 q) _ (fun c u e n=>by rw[aA n];exact s1 _ _ e) ((KT.of s1).trans kt) ⟨?_,fun j hj=>?_⟩
 .rw[ao];congr 2;refine Pt fun j _=>?_;dsimp only;by_cases e:j=a.2.2
  .rw[e,fS,fS]
  .rw[fT e,fT e]
 .by_cases e:j=a.2.2
  .rw[e,fS,fS,fS];exact⟨_,kt _ _ h1,b,rfl,kt _ _ hb1⟩
  .rw[fT e,fT e,fT e];obtain⟨w,e1,i1⟩:=R1.t j ((mem_adI.mp hj).resolve_right e);exact⟨w,kt _ _ e1,i1.keep kt⟩
theorem Nm {x4 x8:Option V}{b:Addr}{s0 p:Int}{w:V}(R:Row H ah ks S A T)(m:oo P ks S A)(hz:ks.length<1000000)(hb:H b=some (.tup (gk a)))(hr:H rp=some (.tup [.int s0,w]))
 (k:∀ ks' S' A' T' x8 H',Kp ah H H'->KT H H'->Row H' ah ks' S' A' T'->oo (fun b' n' a'=>P b' n' a'\/(b'=a.2.2/\n'=s0+p/\a'=a)) ks' S' A'->(∀ c∈ks',c∈ks\/c=a.2.2)->D.nx (qi ld sm sign ah x4 (some (.ref rp)) (some (.ref b)) (some (.int p)) x8) H'):IF K D (qi ld sm sign ah x4 (some (.ref rp)) (some (.ref b)) (some (.int p)) x8) H:=by
 refine⟨_,rfl,ah,rfl,.inl ⟨_,.inl R.r⟩,Reads.ix (n:=2) (.va rfl) hb (v:=.int a.2.2) rfl _ ⟨_,DGet.k (k:=.inl a.2.2) R.r,?_⟩⟩;rw[o6];by_cases e:a.2.2∈ks
 .rw[OK e];obtain⟨w1,h1,i1⟩:=R.t _ e;refine⟨_,rfl,rfl,_,rfl,cM (Reads.op (.ad (.ix (n:=0) (.va rfl) hr (v:=.int s0) rfl) (.va rfl)) (.ix (n:=0) (.va rfl) h1 (v:=.int (S a.2.2)) rfl) (fun _ q=>⟨_,_,rfl,rfl,q⟩) _ ⟨_,rfl,EN (fun c=>?_) fun c=>?_⟩)⟩
  .have c:=O2 c;exact Mj R m hz hb hr (fun _=>c) fun T' H' kp kt R'=>k _ _ _ T' _ H' kp kt R' (m.new fun _=>c) fun c hc=>mem_adI.mp hc
  .have c:¬ s0+p<S a.2.2:=fun z=>c (OO z);exact k _ _ _ T _ H (fun _ _ e _=>e) (fun _ _ e=>e) R (m.old e (by lia)) fun c hc=>.inl hc
 .rw[OL e];exact⟨_,rfl,rfl,_,rfl,d8 (Mj R m hz hb hr (fun z=>(e z).elim) fun T' H' kp kt R'=>k _ _ _ T' _ H' kp kt R' (m.new fun z=>(e z).elim) fun c hc=>mem_adI.mp hc)⟩
def GZ (t:Pz.TD)(sign:Int)(S0:Int->Int)(L:List Int)(b n:Int)(a:Pz.Arr):Prop:=∃ s∈L,∃ p,(a,p)∈qE t (s,sign)/\b=a.2.2/\n=S0 s+p
inductive MG (ld sm rp:Addr) (sign st s0:Int) (ah:Addr) (P:Int->Int->Pz.Arr->Prop) (U:List Int) (l:List (Pz.Arr×Int)) (H1:Hp) (i:Nat):L2.St->Hp->Prop
 |mk {H':Hp} {ks:List Int} {S:Int->Int} {A:Int->Option Pz.Arr} {T:Int->Addr} {x6 x7 x8:Option V}:Kp ah H1 H'->KT H1 H'->Row H' ah ks S A T->oo (fun b n a=>P b n a\/∃ p,(a,p)∈l.take i/\b=a.2.2/\n=s0+p) ks S A->(∀ b∈ks,b∈U)->MG ld sm rp sign st s0 ah P U l H1 i (qi ld sm sign ah (some (.int st)) (some (.ref rp)) x6 x7 x8) H'
theorem Nn {x6 x7 x8:Option V}{ks1:List eV}{RA:eV->Addr}{st s0:Int}{w:V}(G:Gr sr B H ld ks1 (qE t) RA)(R:Row H ah ks S A T)(m:oo P ks S A)(nl:ld≠ah)(hr:H rp=some (.tup [.int s0,w]))(hu:∀ x∈t,x.1.2.2∈U)(hk:∀ b∈ks,b∈U)(hz:U.length<1000)
 (k:∀ ks' S' A' T' x6 x7 x8 H',Kp ah H H'->KT H H'->Row H' ah ks' S' A' T'->oo (fun b n a=>P b n a\/∃ p,(a,p)∈qE t (st,sign)/\b=a.2.2/\n=s0+p) ks' S' A'->(∀ b∈ks',b∈U)->D.nx (qi ld sm sign ah (some (.int st)) (some (.ref rp)) x6 x7 x8) H'):FS X D (qi ld sm sign ah (some (.int st)) (some (.ref rp)) x6 x7 x8) H:=by
 refine eU (tl:=gz (au 0) (cf (aj (au 4) (aj (au 2) aG))) (cJ aG)) ⟨_,rfl,ld,rfl,.inr ⟨_,.inl G.r⟩,jg (ws:=[.int st,.int sign]) (.c (.va rfl) (.c (.va rfl) .ni)) rfl fun b hb=>⟨OP _,fun q hq=>?_⟩⟩;have s1:=az (o:=.tup [.int st,.int sign]) hb;have h1:upd H b (.tup [.int st,.int sign]) b=some (.tup ((k2 (st,sign)).map kV)):=ao;generalize upd H b (.tup [.int st,.int sign])=H1 at s1 h1 hq;have G1:=G.more fj s1;have s2:=az (o:=.lst []) hq;obtain⟨p,vs,ep,hp,al⟩:=FM G1 hq (st,sign);refine⟨_,DGet.t (k:=k2 (st,sign)) (s2 _ _ G1.r) (s2 _ _ h1),?_⟩;rw[ep];have al:=al.mono (fj (.of s2));have s12:=s1.trans s2;generalize upd H1 q (.lst [])=H2 at s2 s12 hp al;have R2:=R.more s12;have npa:p≠ah:=fun z=>by rw[z,R2.r]at hp;cases hp
 refine⟨p,rfl,⟨vs,SqL.of hp⟩,?_⟩;refine f7 (K:=X.K) (a:=p) (xs:=vs) (MG ld sm rp sign st s0 ah P U (qE t (st,sign)) H2) (.mk (fun _ _ e _=>e) (fun _ _ e=>e) R2 (m.to fun b n a=>⟨.inl,fun h=>h.resolve_right fun⟨_,z,_⟩=>(nomatch z)⟩) hk) (fun i σ' H' _ z=>by cases z with|mk kp _ _ _ _=>exact SqL.of (kp _ _ hp npa)) (fun i v σ' H' hi z=>?_) fun σ' H' z=>?_
 .obtain @⟨H',ks',S',A',T',x6,x7,x8,kp,kt,R',m',hk'⟩:=z;obtain⟨⟨a,pr⟩,ex,p5,b5,rfl,h5,hb5⟩:=al.get hi;have lz:=Sp.nodup_sub m'.nd hk';refine ua (kt _ _ h5) (Nm R' m' (by lia) (kt _ _ hb5) (kt _ _ (s12 _ _ hr)) fun ks2 S2 A2 T2 x8 H3 kp3 kt3 R3 m3 hc=>.mk (fun c u e n=>kp3 _ _ (kp _ _ e n) n) (kt.trans kt3) R3 (m3.to fun b n a'=>?_) fun c hm=>(hc c hm).elim (hk' c) fun e=>?_)
  .rw[Pi,ex];constructor
   .rintro ((h|⟨p,h,e1,e2⟩)|⟨e1,e2,rfl⟩)
    .exact .inl h
    .exact .inr ⟨p,O5 _ h,e1,e2⟩
    .exact .inr ⟨pr,O0 _ Ox,e1,e2⟩
   .rintro (h|⟨p,h,e1,e2⟩)
    .exact .inl (.inl h)
    .rcases OX.mp h with h|h
     .exact .inl (.inr ⟨p,h,e1,e2⟩)
     .have e:(a',p)=(a,pr):=by simpa using h
      cases e;exact .inr ⟨e1,e2,rfl⟩
  .obtain⟨_,v,hv,_⟩:=mem_ldT.mp (OU ex);rw[e];exact hu _ hv
 .obtain @⟨H',ks',S',A',T',x6,x7,x8,kp,kt,R',m',hk'⟩:=z;rw[<- al.len,PV]at m';exact k ks' S' A' T' x6 x7 x8 H' (fun c u e n=>kp _ _ (s12 _ _ e) n) ((KT.of s12).trans kt) R' m' hk'
inductive Bb:Sp
 |mk {B H:Hp} {ld sm:Addr} {t:Pz.TD} {ks1:List eV} {RA:eV->Addr} {ks U:List Int} {S:Int->Int} {A:Int->Option Pz.Arr} {T:Int->Addr} {sign:Int} {Q:VK} {E:XK} (G:Gr sr B H ld ks1 (qE t) RA) (R:Row H sm ks S A T) (hu:∀ x∈t,x.1.2.2∈U) (hz:U.length<1000)
  (k:∀ ah ks' S' A' T' H',Same H H'->H ah=none->Row H' ah ks' S' A' T'->oo (GZ t sign S ks) ks' S' A'->(∀ b∈ks',b∈U)->Q (.ref ah) H'):Bb [.ref ld,.ref sm,.int sign] H Q E
theorem zV (h:Bb vs H Q E):vs.length=3:=by cases h;rfl
inductive MU (ld sm ah:Addr) (sign:Int) (t:Pz.TD) (S0:Int->Int) (ks0 U:List Int) (H1:Hp) (i:Nat):L2.St->Hp->Prop
 |mk {H':Hp} {ks:List Int} {S:Int->Int} {A:Int->Option Pz.Arr} {T:Int->Addr} {x4 x5 x6 x7 x8:Option V}:Kp ah H1 H'->KT H1 H'->Row H' ah ks S A T->oo (GZ t sign S0 (ks0.take i)) ks S A->(∀ b∈ks,b∈U)->MU ld sm ah sign t S0 ks0 U H1 i (qi ld sm sign ah x4 x5 x6 x7 x8) H'
theorem C4 (h:Bb vs H Q E):Nl X (eQ Q) (bj (nS 9) vs) H:=by
 obtain @⟨B,H,ld,sm,t,ks1,RA,ks0,U,S0,A0,T0,sign,Q,E,G,R,hu,hz,k⟩:=h;intro ah ha;have s1:=az (o:=.dK []) ha;have h1:upd H ah (.dK []) ah=some (.dK []):=ao;generalize upd H ah (.dK [])=H1 at s1 h1;have G1:=G.more fj s1;have R1:=R.more s1;have nl:ld≠ah:=fun z=>by rw[<- z,G.r]at ha;cases ha
 have ns:sm≠ah:=fun z=>by rw[<- z,R.r]at ha;cases ha
 have nls:ld≠sm:=fun z=>by have:=G.r;rw[z,R.r]at this;cases this
 refine⟨_,rfl,sm,_,_,rfl,.inl rfl,.inr ⟨R1.r,fun o ho=>?_⟩⟩;have hf:upd H1 sm (.cm o (.dK (qh ks0 fun k=>.ref (T0 k)))) sm=some (.cm o (.dK (qh ks0 fun k=>.ref (T0 k)))):=ao;have k0:Kp sm H1 (upd H1 sm (.cm o (.dK (qh ks0 fun k=>.ref (T0 k))))):=fun c u e n=>by rw[aA n];exact e
 have t0:KT H1 (upd H1 sm (.cm o (.dK (qh ks0 fun k=>.ref (T0 k))))):=.upd R1.r fun _ z=>(nomatch z);generalize upd H1 sm (.cm o (.dK (qh ks0 fun k=>.ref (T0 k))))=H2 at hf k0 t0;refine qe (n:=(qh ks0 fun k=>V.ref (T0 k)).length) (MU ld sm ah sign t S0 ks0 U H2) (.mk (ks:=[]) (S:=fun _=>0) (A:=fun _=>none) (T:=fun _=>0) (fun _ _ e _=>e) (fun _ _ e=>e) ⟨k0 _ _ h1 (Pw ns),fun _ z=>(nomatch z)⟩ ⟨O_,fun _ _ _ ⟨_,z,_⟩=>(nomatch z),fun _ z=>(nomatch z)⟩ fun _ z=>(nomatch z)) (fun i σ' H' p hi=>?_) (fun σ' H' p=>?_) (fun i σ' H' x H'' D' hi p y k'=>?_) fun σ' H' p=>?_
 .obtain @⟨H',ks',S',A',T',x4,x5,x6,x7,x8,kp,kt,R',m',hk'⟩:=p;exact⟨kp _ _ hf ns,hi⟩
 .obtain @⟨H',ks',S',A',T',x4,x5,x6,x7,x8,kp,kt,R',m',hk'⟩:=p;exact⟨kp _ _ hf ns,Oq _⟩
 .obtain @⟨H',ks',S',A',T',x4,x5,x6,x7,x8,kp,kt,R',m',hk'⟩:=p;obtain⟨p5,kk5,w,hp5,rfl,rfl,ei⟩:=y;rw[OD]at ei;obtain⟨st,es,e2⟩:=Pd.mp ei;cases e2;obtain⟨w5,h5,_⟩:=R1.t st (OU es);have s5:=az (o:=.tup [.int st,.ref (T0 st)]) hp5;refine ua ao ?_;have up:∀{c u},H1 c=some u->c≠sm->c≠ah->upd H' p5 (.tup [.int st,.ref (T0 st)]) c=some u:=fun e n n'=>s5 _ _ (kp _ _ (k0 _ _ e n) n');have G5:Gr sr (fun _=>none) (upd H' p5 (.tup [.int st,.ref (T0 st)])) ld ks1 (qE t) RA:=⟨(fun _ _ e=>nomatch e),up G1.r nls nl,rfl,fun k hk=>by obtain⟨_,vs,e,al⟩:=G1.v k hk;exact⟨rfl,vs,up e (fun z=>by rw[z,R1.r]at e;cases e) (fun z=>by rw[z,h1]at e;cases e),al.mono (fj ((t0.trans kt).trans (.of s5)))⟩,G1.i,G1.z⟩;have h5':=(kt.trans (.of s5)) _ _ (t0 _ _ h5);have k5:Kp ah H2 (upd H' p5 (.tup [.int st,.ref (T0 st)])):=fun c u e n=>s5 _ _ (kp _ _ e n);have kt5:=kt.trans (.of s5);have R5:=R'.more s5;show FS X D' (qi ld sm sign ah (some (.int st)) (some (.ref (T0 st))) x6 x7 x8) (upd H' p5 (.tup [.int st,.ref (T0 st)]));generalize upd H' p5 (.tup [.int st,.ref (T0 st)])=H5 at G5 h5' k5 kt5 R5;refine Nn G5 R5 m' nl h5' hu hk' hz fun ks2 S2 A2 T2 x6 x7 x8 H6 kp6 kt6 R6 m6 hk6=>k' _ _ (.mk (fun c u e n=>kp6 _ _ (k5 _ _ e n) n) (kt5.trans kt6) R6 (m6.to fun b n a=>?_) hk6);unfold GZ;rw[Pi,es];constructor
  .rintro (⟨s,hs,h⟩|⟨p,h⟩)
   .exact⟨s,O5 _ hs,h⟩
   .exact⟨st,O0 _ Ox,p,h⟩
  .rintro⟨s,hs,h⟩;rcases OX.mp hs with hs|hs
   .exact .inl ⟨s,hs,h⟩
   .have e:s=st:=by simpa using hs
    rw[e]at h;exact .inr h
 .obtain @⟨H',ks',S',A',T',x4,x5,x6,x7,x8,kp,kt,R',m',hk'⟩:=p;rw[Ot,PV]at m';have th:Same H (upd H' sm (.dK (qh ks0 fun k=>.ref (T0 k)))):=fun c u e=>by
   by_cases z:c=sm
   .rw[z,ao];rw[z,R.r]at e;exact e
   .rw[aA z];exact kp _ _ (k0 _ _ (s1 _ _ e) z) (aB e ha)
  exact .inr ⟨sm,o,_,kp _ _ hf ns,True.intro,ho,_,rfl,k ah ks' S' A' T' _ th ha (R'.keep (.upd (kp _ _ hf ns) fun _ z=>(nomatch z)) (by rw[aA (Pw ns)];exact R'.r)) m' hk'⟩
end
structure iV where
 ks:List Int
 S:Int->Int
 A:Int->Option Pz.Arr
def RsmAt (H:Hp)(r:iV)(v:V):Prop:=∃ d T,v=.ref d/\Row H d r.ks r.S r.A T
structure jQ (t:Pz.TD) (room:Int) (stk:List Int) (L:List iV):Prop where
 z:L[0]?=some ⟨[room],fun _=>0,fun _=>none⟩
 s:∀(j:Nat) r r' s,L[j]?=some r->L[j+1]?=some r'->stk[j]?=some s->oo (GZ t s r.S r.ks) r'.ks r'.S r'.A
section
variable {X:Cx}{K:SG}{H H':Hp}{ld ah d:Addr}{t:Pz.TD}{vs:List V}{Q:VK}{E:XK}{L:List iV}{room:Int}{stk:List Int}
theorem RsmAt.more {r:iV}{v:V}(s:Same H H')(h:RsmAt H r v):RsmAt H' r v:=let ⟨d,T,e,R⟩:=h;⟨d,T,e,R.more s⟩
def K_:TE:=L6 (rU fun i=>.int (-i)) (tC (.int 1))
def La (K:SG):TE:=cf (aj (tC (.int 0)) (aj (tC .bC) aG))
def Lb (K:SG):TS:=cw (xS K "list" dD (au 3) (aj (bJ Bb [] E0 (aj (au 2) (aj (aZ (kO K) (au 3) K_) (aj (au 4) aG)))) aG))
def Np (X:Cx):TS:=aP (bh (bJ AN [] E0 (aj (au 0) aG)) (aE 2)) (aP (bh (cJ (aj (DN [(tI X.K 1 0,La X.K)]) aG)) (aE 3)) (aP (f6 (cU X.K (tI X.K 1 1)) (aE 4) (Lb X.K)) (bU (au 3))))
inductive xP:Sp
 |mk {H:Hp} {d:Addr} {u:HO} {kvs:List (List bG×V)} {t:Pz.TD} {sp sl:Addr} {room:Int} {stk U:List Int} {Q:VK} {E:XK} (hd:H d=some u) (hu:u=.dT kvs\/(u=.dK []/\kvs=[])) (al:bc (IsTo H) t kvs) (hz:t.length<1000000) (hp:H sp=some (.tup [.int room,.ref sl])) (hl:Rd H sl (.lst (stk.map .int))) (hs:stk.length<1000) (hU:∀ x∈t,x.1.2.2∈U) (zU:U.length<1000)
  (k:∀ rl L vs H',Same H H'->H rl=none->H' rl=some (.lst vs)->bc (RsmAt H') L vs->L.length=stk.length+1->jQ t room stk L->Q (.ref rl) H'):xP [.ref d,.ref sp] H Q E
theorem zW (h:xP vs H Q E):vs.length=2:=by cases h;rfl
inductive MC (d sp ld rl:Addr) (H3:Hp) (t:Pz.TD) (room:Int) (stk:List Int) (i:Nat):L2.St->Hp->Prop
 |mk {H':Hp} {L:List iV} {vs:List V} {x4:Option V}:Kp rl H3 H'->H' rl=some (.lst vs)->bc (RsmAt H') L vs->L.length=i+1->jQ t room stk L->MC d sp ld rl H3 t room stk i [some (.ref d),some (.ref sp),some (.ref ld),some (.ref rl),x4] H'
theorem C5 (h:xP vs H Q E):Np X (eQ Q) (bj (nS 5) vs) H:=by
 obtain @⟨H,d,u,kvs,t,sp,sl,room,stk,U,Q,E,hd,hu,al,hz,hp,hl,hs,hU,zU,k⟩:=h;refine⟨_,rfl,.mk hd hu al hz fun ld ks1 RA H1 G=>fun rd hrd=>?_⟩;have s1:=G.s;have s2:=az (o:=.dK []) hrd;have h2:upd H1 rd (.dK []) rd=some (.dK []):=ao;generalize upd H1 rd (.dK [])=H2 at s2 h2;refine Reads.ix (n:=0) (.va (i:=1) rfl) (s2 _ _ (s1 _ _ hp)) (v:=.int room) rfl _ (jg (ws:=[.int 0,.bC]) (.c .k (.c .k .ni)) rfl fun q hq=>?_);have s3:=az (o:=.tup [.int 0,.bC]) hq;have h3:upd H2 q (.tup [.int 0,.bC]) q=some (.tup [.int 0,.bC]):=ao;generalize upd H2 q (.tup [.int 0,.bC])=H3 at s3 h3;refine⟨s3 _ _ h2,[(.inl room,.ref q)],rfl,by show 1<=15;decide,by show 1<=_;rw[OG];lia,fun rl hrl=>?_⟩;have s4:Same H1 (upd H3 rd (.dK (hG [] [((.inl room:bG),V.ref q)]))):=fun c u e=>by rw[aA (aB e hrd)];exact s3 _ _ (s2 _ _ e)
 have R4:Row (upd H3 rd (.dK (hG [] [((.inl room:bG),V.ref q)]))) rd [room] (fun _=>0) (fun _=>none) fun _=>q:=⟨ao,fun k _=>⟨.bC,by rw[aA fun z=>by rw[z,s3 _ _ h2]at h3;cases h3];exact h3,rfl⟩⟩;generalize upd H3 rd (.dK (hG [] [((.inl room:bG),V.ref q)]))=H4 at s4 R4 hrl;have s5:=az (o:=.lst [.ref rd]) hrl;have h5:upd H4 rl (.lst [.ref rd]) rl=some (.lst [.ref rd]):=ao;generalize upd H4 rl (.lst [.ref rd])=H5 at s5 h5;have s15:=s4.trans s5;have s05:=s1.trans s15;have nrl:H1 rl=none:=s4.free hrl;refine Reads.ix (n:=1) (.va (i:=1) rfl) (s05 _ _ hp) (v:=.ref sl) rfl _ ⟨sl,rfl,⟨_,.inl (bb s05 hl)⟩,?_⟩;have hl5:=bb s05 hl;have nsl:∀{H'},Kp rl H5 H'->Rd H' sl (.lst (stk.map .int)):=fun kp=>by
  have n:sl≠rl:=fun z=>by have nr:H rl=none:=s1.free nrl;rcases hl with e|⟨o,e⟩<;>(rw[z,nr]at e;cases e)
  exact hl5.imp (fun e=>kp _ _ e n) fun⟨o,e⟩=>⟨o,kp _ _ e n⟩
 refine f7 (K:=X.K) (a:=sl) (xs:=stk.map .int) (MC d sp ld rl H5 t room stk) (.mk (fun _ _ e _=>e) h5 (.cons ⟨rd,_,rfl,R4.more s5⟩ .nil) rfl ⟨rfl,fun j r r' s _ e _=>by simp at e⟩) (fun i σ' H' _ z=>by cases z with|mk kp _ _ _ _=>exact .inl (nsl kp)) (fun i v σ' H' hi z=>?_) fun σ' H' z=>?_
 .obtain @⟨H',L,us,x4,kp,hr,al',ll,ok⟩:=z;rw[OD]at hi;obtain⟨s,es,rfl⟩:=Pd.mp hi;obtain⟨us,w,rfl⟩ : ∃ a b,us=a++[b]:=by
   rcases RP us with rfl|⟨a,b,rfl⟩
   .have:=al'.len;rw[ll]at this;cases this
   .exact⟨a,b,by simp⟩
  have ul:=al'.len;rw[OF]at ul;obtain⟨r,er,rd',T',rfl,R'⟩:=al'.get (i:=us.length) (y:=w) (by simp);have li:=(Ov.mp es).1;have ei:us.length=i:=by simp at ul;lia
  have G':Gr sr (fun _=>none) H' ld ks1 (qE t) RA:=by
   have G5:=G.more fj s15;have kt5:KT H5 H':=fun c w e=>kp _ _ e fun z=>by rw[z,h5]at e;cases e
   exact⟨(fun _ _ e=>nomatch e),kp _ _ G5.r (fun z=>by have:=G5.r;rw[z,h5]at this;cases this),rfl,fun k hk=>by obtain⟨_,vs,e,al⟩:=G.v k hk;exact⟨rfl,vs,kp _ _ (s15 _ _ e) (aB e nrl),al.mono (fj ((KT.of s15).trans kt5))⟩,G.i,G.z⟩
  refine⟨_,rfl,.inl ⟨rfl,_,SqL.of hr⟩,_,rfl,Reads.op (.va rfl) (fun Q q=>⟨1,rfl,q⟩) (fun _ q=>⟨rl,_,_,_,rfl,rfl,SqL.of hr,sk us _,q⟩) _ ⟨_,rfl,.mk (sign:=s) G' R' hU zU fun ah ks' S' A' T'' H6 s6 nah R6 m6 hk6=>?_⟩⟩;have hr6:=s6 _ _ hr;refine⟨rl,_,_,rfl,rfl,hr6,xq (by rw[OF];simp;lia),?_⟩;have nar:ah≠rl:=fun z=>by rw[z,hr]at nah;cases nah
  have kt:KT H6 (upd H6 rl (.lst ((us++[.ref rd'])++[.ref ah]))):=.upd hr6 fun _ z=>(nomatch z);have keepR:∀{r v},RsmAt H6 r v->RsmAt (upd H6 rl (.lst ((us++[.ref rd'])++[.ref ah]))) r v:=fun⟨d,T,e,R⟩=>⟨d,T,e,R.keep kt (by rw[aA fun z=>by have:=R.r;rw[z,hr6]at this;cases this];exact R.r)⟩;refine .mk (L:=L++[⟨ks',S',A'⟩]) (fun c u e n=>by rw[aA n];exact s6 _ _ (kp _ _ e n)) ao (.snoc (al'.mono fun r v h=>keepR (h.more s6)) (keepR ⟨ah,T'',rfl,R6⟩)) (by rw[OF,ll];rfl) ⟨?_,fun j r1 r2 s' e1 e2 e3=>?_⟩
  .rw[Qg (by lia)];exact ok.z
  .by_cases hj:j+1<L.length
   .rw[Qg (by lia)]at e1 e2;exact ok.s j r1 r2 s' e1 e2 e3
   .have lt:=(Ov.mp e2).1;rw[OF]at lt;have ej:j=i:=by simp at lt;lia
    rw[ej,es]at e3;cases e3;rw[Qg (by lia),ej,<- ei,er]at e1;cases e1;rw[Qa (by lia),show j+1-L.length=0 by lia]at e2;cases e2;exact m6
 .obtain @⟨H',L,us,x4,kp,hr,al',ll,ok⟩:=z;rw[Ot]at ll;exact⟨_,rfl,k rl L us H' (fun c u e=>kp _ _ (s05 _ _ e) (aB (s1 _ _ e) nrl)) (s1.free nrl) hr al' ll ok⟩
end
noncomputable def zX (r:iV)(ends:List Int):Option (Int×Int)->Prop
 |none=>∀ e∈ends,e∉r.ks
 |some (v,e)=>e∈ends/\e∈r.ks/\v=r.S e/\∀ e'∈ends,e'∈r.ks->v<=r.S e'
noncomputable def FT (H:Hp):Option (Int×Int)->V->Prop
 |none,w=>w=.bC
 |some x,w=>IsSet H x w
theorem zY (bt:Nat->Nat->Bool)(num:Nat->Int)(n:Nat)(h:∀ i j,i<=n->j<=n->if bt i j=true then num i<=num j else num j<=num i)(k:Nat)(hk:k<=n):∀ j,j<=k->num (argBest bt k)<=num j:=by
 induction k with
 |zero=>intro j hj;rw[Nat.le_zero.mp hj];exact QX _
 |succ k ih=>
  intro j hj;have h:=h (k+1) (argBest bt k) hk (by have:=qd bt k;lia);unfold argBest;by_cases b:bt (k+1) (argBest bt k)=true
  .rw[OK b]at h ⊢;by_cases e:j=k+1
   .rw[e];exact QX _
   .exact Qr h (ih (by lia) j (by lia))
  .rw[OL b]at h ⊢;by_cases e:j=k+1
   .rw[e];exact h
   .exact ih (by lia) j (by lia)
section
variable {X:Cx}{K:SG}{H H':Hp}{sm el p:Addr}{t:Pz.TD}{vs:List V}{Q:VK}{E:XK}{r:iV}{ends:List Int}{T:Int->Addr}
inductive uD:Sp
 |mk {H:Hp} {p el sm:Addr} {a b:V} {r:iV} {ends:List Int} {T:Int->Addr} {Q:VK} {E:XK} (hp:H p=some (.tup [a,b,.ref el])) (he:Rd H el (.lst (ends.map .int))) (R:Row H sm r.ks r.S r.A T) (hz:ends.length<1000) (k:∀ o v H',Same H H'->zX r ends o->FT H' o v->Q v H'):uD [.ref p,.ref sm] H Q E
theorem zZ (h:uD vs H Q E):vs.length=2:=by cases h;rfl
def Lc:TT:=br (aZ (HK false) (au 0) (au 1))
def IG (K:SG):TE:=cf (aj (aZ (jq K) (qT (au 1) (au 0)) (tC (.int 0))) (aj (au 0) aG))
def Nq (X:Cx)(scope:Scope)(tg elt:Expr)(tN capN:List Str)(caps:List Nat)(ifs:List Expr):TS:=bU (D9 X.K (mC X scope tg tN capN caps elt ifs (cU X.K (tI X.K 0 2))))
structure N0 (X:Cx) (scope:Scope) (tg elt:Expr) (tN capN:List Str) (caps:List Nat) (ifs:List Expr):Prop where
 h:tN.length=1
 c:caps=[1]
 g:∀ cl C s3 H3 fp,PG (bw X scope (tN++capN) cl C s3 H3 fp) tg (aE 0)
 t:∀ cl C s3 H3 fp,Bg (bw X scope (tN++capN) cl C s3 H3 fp) ifs Lc
 e:∀ cl C s3 H3 fp,PE (bw X scope (tN++capN) cl C s3 H3 fp) elt (IG X.K)
theorem IH {es:List Int}{acc:List V}(al:bc (IsSet H) ((es.filter fun e=>decide (e∈r.ks)).map fun e=>(r.S e,e)) acc)(k:∀ o v,zX r es o->FT H o v->Q v H)(hl:H p=some (.lst acc)) :
 ∃ p' vs ks,V.ref p=.ref p'/\SqL K H p' vs/\(qb K H vs ks\/qc vs ks)/\(vs=[]->Q .bC H)/\∀ v,vs[argBest (xm ks) (vs.length-1)]?=some v->Q v H:=by
 have ln:=al.len;refine⟨p,acc,((es.filter fun e=>decide (e∈r.ks)).map fun e=>[r.S e,e]),rfl,SqL.of hl,.inl ⟨by rw[<- ln];simp,fun i v ks ev ek=>?_⟩,fun e=>?_,fun v ev=>?_⟩
 .obtain⟨x,ex,q,rfl,hq⟩:=al.get ev;rw[OD]at ex ek;obtain⟨e,ee,rfl⟩:=Pd.mp ex;rw[ee]at ek;cases ek;exact⟨q,rfl,SqT.of hq⟩
 .subst e;refine k none _ (fun e he z=>?_) rfl;have:e∈es.filter fun e=>decide (e∈r.ks):=Pa.mpr ⟨he,OO z⟩;rw[Ot]at ln;rw[Pn.mp ln]at this;cases this
 .obtain⟨x,ex,hx⟩:=al.get ev;rw[OD]at ex;obtain⟨e,ee,rfl⟩:=Pd.mp ex;obtain⟨m1,m2⟩:=Pa.mp (OU ee);refine k (some (r.S e,e)) v ⟨m1,O2 m2,rfl,fun e' h1 h2=>?_⟩ hx;obtain⟨j,hj⟩:=OS.mp (Pa.mpr ⟨h1,OO h2⟩ : e'∈es.filter fun e=>decide (e∈r.ks));have lj:=(Ov.mp hj).1;rw[Ot]at ln;generalize es.filter (fun e=>decide (e∈r.ks))=fs at *;have key:=zY (xm (fs.map fun e=>[r.S e,e])) (fun i=>(fs[i]?.map r.S).getD 0) (acc.length-1) (fun a b ha hb=>?_) (acc.length-1) (Oq _) j (by lia)
  .rw[ee,hj]at key;exact key
  .unfold xm;rw[OD,OD,Ou (by lia:a<fs.length),Ou (by lia:b<fs.length)];simp[HT.lexLt];split<;>split<;>lia
theorem C6 {scope:Scope}{tg elt:Expr}{tN capN:List Str}{caps:List Nat}{ifs:List Expr}(c:N0 X scope tg elt tN capN caps ifs)(h:uD vs H Q E):Nq X scope tg elt tN capN caps ifs (eQ Q) (bj (nS 2) vs) H:=by
 obtain @⟨H,p,el,sm,a,b,r,ends,T,Q,E,hp,he,R,hz,k⟩:=h;refine Reads.ix (n:=2) (.va (i:=0) rfl) hp (v:=.ref el) rfl _ ⟨el,rfl,⟨_,.inl he⟩,?_⟩;refine mR (n:=ends.length) c.g c.t c.e (fun Dl i acc H'=>Same H H'/\H' Dl=some (.lst acc)/\bc (IsSet H') (((ends.take i).filter fun e=>decide (e∈r.ks)).map fun e=>(r.S e,e)) acc/\H Dl=none) (fun Dl hD=>⟨az hD,ao,.nil,hD⟩) (fun h=>h.2.1) (fun Dl i acc H' ⟨sm,_⟩ hi=>⟨ends.map .int,V.int ends[i],.inl (bb sm he),by rw[OD,Ou hi];rfl⟩) (fun Dl acc H' ⟨sm,_⟩=>⟨ends.map .int,.inl (bb sm he),by rw[Ot];exact Oq _⟩) (fun Dl i acc H' xv H'' ol hi ⟨sm',hD,al,nD⟩ y hol=>?_) fun Dl acc H' hD ⟨sm',hD',al,_⟩=>?_
 .obtain⟨rfl,y⟩:=y;have y:=y _ (.inl (bb sm' he));rw[OD,Ou hi]at y;cases y;rw[c.h]at hol;obtain⟨u0,rfl⟩:=PP.mp hol;rw[c.c];have R':=R.more sm';have et:ends.take (i+1)=ends.take i++[ends[i]]:=by rw[Pi,Ou hi];rfl
  refine⟨fun j hj=>?_,_,rfl,_,rfl,sm,_,rfl,.inl (DGet.k (k:=.inl ends[i]) R'.r),_,rfl,?_⟩
  .rw[c.h]at hj;obtain⟨j,rfl⟩:=Pf hj;rfl
  rw[o6];have ll:=al.len;have lf:=Qi (fun e=>decide (e∈r.ks)) (ends.take i);rw[Ot]at ll;rw[Py]at lf;by_cases m:ends[i]∈r.ks
  .rw[OK m];obtain⟨w,hw,_⟩:=R'.t _ m;refine d8 ?_;show IG X.K [some (.int ends[i]),some (.ref sm)] H'' _;refine jg (ws:=[.int (r.S ends[i]),.int ends[i]]) (.c (.ix (n:=0) (b:=T ends[i]) (fun Q q=>⟨_,rfl,_,rfl,sm,_,rfl,by have:=DGet.k (k:=.inl ends[i]) R'.r;rwa [o6,OK m]at this,q⟩) hw (v:=.int (r.S ends[i])) rfl) (.c (.va rfl) .ni)) rfl fun q hq=>?_;have s1:=az (o:=.tup [.int (r.S ends[i]),.int ends[i]]) hq;have hq1:upd H'' q (.tup [.int (r.S ends[i]),.int ends[i]]) q=some (.tup [.int (r.S ends[i]),.int ends[i]]):=ao;have hD1:=s1 _ _ hD;generalize upd H'' q (.tup [.int (r.S ends[i]),.int ends[i]])=H1 at s1 hq1 hD1;have kt:KT H1 (upd H1 Dl (.lst (acc++[.ref q]))):=.upd hD1 fun _ z=>(nomatch z);refine⟨hD1,xq (by lia),fun c u e=>by rw[aA (aB e nD)];exact s1 _ _ (sm' _ _ e),ao,?_,nD⟩;rw[et,QB,QO (by exact OO m),O3];exact(al.mono (Iu ((KT.of s1).trans kt))).snoc ⟨q,rfl,kt _ _ hq1⟩
  .rw[OL m];refine cM ⟨sm',hD,?_,nD⟩;rw[et,QB,QN (by simpa using m)];simpa using al
 .rw[PV]at al;exact IH al (fun o v h1 h2=>k o v H' sm' h1 h2) hD'
end
structure qy (Fr:jk) (H:Hp) (p mp sp:Addr) (t:Pz.TD) (room:Int) (stk ends U:List Int):Prop where
 pr:∃ hD mD,Is H Tr hD (.ref p)/\Is H Tr mD (.ref mp)/\Fr [hD,mD]=.ok (.DB (oY t))
 m:∃ a b el,H mp=some (.tup [a,b,.ref el])/\Rd H el (.lst (ends.map .int))
 s:∃ sl,H sp=some (.tup [.int room,.ref sl])/\Rd H sl (.lst (stk.map .int))
 z:t.length<1000000
 zs:stk.length<1000
 ze:ends.length<1000
 u:∀ x∈t,x.1.2.2∈U
 zu:U.length<1000
inductive fz (t:Pz.TD) (room:Int) (stk ends:List Int) (L:List iV) (r:iV) (o:Option (Int×Int)):Prop
 |mk (n:L.length=stk.length+1) (ok:jQ t room stk L) (l:L[stk.length]?=some r) (e:zX r ends o):fz t room stk ends L r o
noncomputable def Bi (o:Option (Int×Int)):V:=o.elim .bC fun x=>.int x.1
section
variable {K:SG}{mg:Str->Option SI}{Fr:jk}{H H':Hp}{p mp sp:Addr}{t:Pz.TD}{room:Int}{stk ends U:List Int}{σ:L2.St}{vs:List V}{Q:VK}{E:XK}
theorem qy.more (h:qy Fr H p mp sp t room stk ends U)(s:Same H H'):qy Fr H' p mp sp t room stk ends U:=⟨let ⟨a,b,c,d,e⟩:=h.pr;⟨a,b,FN c s,FN d s,e⟩,let ⟨a,b,c,d,e⟩:=h.m;⟨a,b,c,s _ _ d,bb s e⟩,let ⟨a,b,c⟩:=h.s;⟨a,s _ _ b,bb s c⟩,h.z,h.zs,h.ze,h.u,h.zu⟩
theorem z0 {ta:TA}(h:qy Fr H p mp sp t room stk ends U)(ha:ReadsA ta σ H [.ref p,.ref mp])(k:∀ d kvs u H',Same H H'->H d=none->H' d=some u->(u=.dT kvs\/(u=.dK []/\kvs=[]))->bc (IsTo H') t kvs->Q (.ref d) H'):bJ (y9 mg 2 Fr) [] E0 ta σ H Q:=by obtain⟨hD,mD,i1,i2,hF⟩:=h.pr;refine ha _ ⟨rfl,[hD,mD],Tr,⟨_,_,rfl,i1,_,_,rfl,i2,rfl⟩,?_⟩;rw[hF];intro v H4 s4 r4;obtain⟨d,kvs,u,rfl,n4,e4,hu,al⟩:=zQ r4;exact k d kvs u H4 s4 n4 e4 hu al
theorem z4 {rl:Addr}{L:List iV}{vs:List V}(h:qy Fr H p mp sp t room stk ends U)(hr:H rl=some (.lst vs))(al:bc (RsmAt H) L vs)(n:L.length=stk.length+1)(ok:jQ t room stk L)(k:∀ r o v H',Same H H'->fz t room stk ends L r o->FT H' o v->Q v H'):kO K (.ref rl) (.int (-1)) H fun x H1=>uD [.ref mp,x] H1 Q E:=by
 obtain⟨us,w,rfl⟩ : ∃ a b,vs=a++[b]:=by
  rcases RP vs with rfl|⟨a,b,rfl⟩
  .have:=al.len;rw[n]at this;cases this
  .exact⟨a,b,by simp⟩
 have ul:us.length=stk.length:=by have:=al.len;rw[OF,n]at this;simpa using this.symm
 obtain⟨r,er,rd,T,rfl,R⟩:=al.get (i:=us.length) (y:=w) (by simp);obtain⟨a,b,el,hm,he⟩:=h.m;exact⟨rl,_,_,_,rfl,rfl,SqL.of hr,sk us _,.mk hm he R h.ze fun o v H' s lo io=>k r o v H' s ⟨n,ok,ul▸er,lo⟩ io⟩
inductive xM (Fr:jk):Sp
 |mk {H:Hp} {p mp sp:Addr} {t:Pz.TD} {room:Int} {stk ends U:List Int} {Q:VK} {E:XK} (i:qy Fr H p mp sp t room stk ends U) (k:∀ L r o H',Same H H'->fz t room stk ends L r o->Q (Bi o) H'):xM Fr [.ref p,.ref mp,.ref sp] H Q E
theorem z5 (h:xM Fr vs H Q E):vs.length=3:=by cases h;rfl
def Ld (mg:Str->Option SI)(Fr:jk):TE:=bJ xP [] E0 (aj (bJ (y9 mg 2 Fr) [] E0 (aj (au 0) (aj (au 1) aG))) (aj (au 2) aG))
def Nr (K:SG)(mg:Str->Option SI)(Fr:jk):TS:=aP (bh (bJ uD [] E0 (aj (au 1) (aj (aZ (kO K) (Ld mg Fr) K_) aG))) (aE 3)) (bU (L5 (br (aZ nX (au 3) (tC .bC))) (tC .bC) (tI K 3 0)))
theorem C7 (h:xM Fr vs H Q E):Nr K mg Fr (eQ Q) (bj (nS 4) vs) H:=by
 obtain @⟨H,p,mp,sp,t,room,stk,ends,U,Q,E,i,k⟩:=h;refine⟨_,rfl,z0 (σ:=[some (.ref p),some (.ref mp),some (.ref sp),none]) i (.c (.va rfl) (.c (.va rfl) .ni)) fun d kvs u H1 s1 nd hd hu al=>⟨_,rfl,?_⟩⟩;have i1:=i.more s1;obtain⟨sl,hp,hl⟩:=i1.s;refine .mk hd hu al i.z hp hl i.zs i.u i.zu fun rl L ws H2 s2 nr hr al2 n ok=>?_;have i2:=i1.more s2;refine⟨1,rfl,z4 i2 hr al2 n ok fun r o v H3 s3 lt io=>?_⟩;have fin:=k L r o H3 ((s1.trans s2).trans s3) lt;cases o with
 |none=>cases (show v=.bC from io);exact⟨_,rfl,rfl,_,rfl,d8 fin⟩
 |some x=>obtain⟨q,rfl,hq⟩:=io;exact⟨_,rfl,rfl,_,rfl,cM (Reads.ix (n:=0) (.va rfl) hq (v:=.int x.1) rfl _ fin)⟩
end
inductive eS (t:Pz.TD):Int->List Pz.Arr->Int->Int->Prop
 |nil {s:Int}:eS t s [] s 0
 |cons {a:Pz.Arr} {v:Pz.mG} {as:List Pz.Arr} {e c:Int}:(a,v)∈t->eS t a.2.2 as e c->eS t a.1 (a::as) e (v.1+c)
section
variable {K:SG}{H H':Hp}{rl ar:Addr}{t:Pz.TD}{room e:Int}{stk:List Int}{vs:List V}{Q:VK}{E:XK}{L:List iV}{r:iV}
inductive AZ:Sp
 |mk {H:Hp} {rl:Addr} {vs:List V} {L:List iV} {t:Pz.TD} {room e:Int} {stk:List Int} {r:iV} {Q:VK} {E:XK} (hr:H rl=some (.lst vs)) (al:bc (RsmAt H) L vs) (n:L.length=stk.length+1) (ok:jQ t room stk L) (hl:L[stk.length]?=some r) (he:e∈r.ks) (zs:stk.length<1000)
  (k:∀ ar us as H',Same H H'->H ar=none->H' ar=some (.lst us)->bc (IsArr H') as.reverse us->eS t room as e (r.S e)->as.map (·.2.1)=stk->Q (.ref ar) H'):AZ [.ref rl,.int e] H Q E
theorem z6 (h:AZ vs H Q E):vs.length=2:=by cases h;rfl
def Le (K:SG):TS:=aP (bh (aZ (jq K) (qT (au 3) (au 1)) (tC (.int 1))) (aE 4)) (aP (cw (xS K "list" dD (au 2) (aj (au 4) aG))) (bh (tI K 4 0) (aE 1)))
def Nt (K:SG):TS:=aP (bh (cJ aG) (aE 2)) (aP (f6 (Hx K (aj (EG (sZ K) (au 0) (jn (tC (.int 1))) jm) aG)) (aE 3) (Le K)) (bU (au 2)))
inductive MO (rl ar:Addr) (H3:Hp) (t:Pz.TD) (stk:List Int) (L:List iV) (e c0:Int) (i:Nat):L2.St->Hp->Prop
 |mk {H':Hp} {us:List V} {as:List Pz.Arr} {st c:Int} {r:iV} {x3 x4:Option V}:Kp ar H3 H'->H' ar=some (.lst us)->bc (IsArr H') as.reverse us->eS t st as e c->as.map (·.2.1)=stk.drop (stk.length-i)->L[stk.length-i]?=some r->st∈r.ks->r.S st+c=c0->MO rl ar H3 t stk L e c0 i [some (.ref rl),some (.int st),some (.ref ar),x3,x4] H'
theorem C8 (h:AZ vs H Q E):Nt K (eQ Q) (bj (nS 5) vs) H:=by
 obtain @⟨H,rl,vs,L,t,room,e,stk,r,Q,E,hr,al,n,ok,hl,he,zs,k⟩:=h;refine⟨OP _,fun ar har=>?_⟩;have s1:=az (o:=.lst []) har;have h1:upd H ar (.lst []) ar=some (.lst []):=ao;generalize upd H ar (.lst [])=H1 at s1 h1;refine⟨_,rfl,1,rfl,rl,vs,rfl,SqL.of (s1 _ _ hr),fun q hq=>?_⟩;rw[show(some (1:Int))=some ((1:Nat):Int) from rfl,o5];have s2:=az (o:=.lst (vs.drop 1)) hq;have h2:upd H1 q (.lst (vs.drop 1)) q=some (.lst (vs.drop 1)):=ao;have har2:=s2 _ _ h1;generalize upd H1 q (.lst (vs.drop 1))=H2 at s2 h2 har2;have nqa:q≠ar:=fun z=>by rw[z,h1]at hq;cases hq
 have s12:=s1.trans s2;have lv:=al.len;have ld:(vs.drop 1).length=stk.length:=by rw[Qw];lia
 refine⟨q,_,rfl,SqL.of h2,?_⟩;rw[ld];have al2:bc (RsmAt H2) L vs:=al.mono fun _ _ h=>h.more s12;refine qe (n:=stk.length) (MO rl ar H2 t stk L e (r.S e)) (.mk (as:=[]) (fun _ _ e _=>e) har2 .nil .nil (by simp) (by rw[Nat.sub_zero];exact hl) he (by lia)) (fun i σ' H' p hi=>?_) (fun σ' H' p=>Oq _) (fun i σ' H' x H'' D' hi p y k'=>?_) fun σ' H' p=>?_
 .cases p with|mk kp _ _ _ _ _ _ _=>exact⟨_,SqL.of (kp _ _ h2 nqa),ld,hi⟩
 .obtain @⟨H',us,as,st,c,r1,x3,x4,kp,ha,aa,pt,sg,hr1,hs,sm⟩:=p;obtain⟨rfl,y⟩:=y;have y:=y _ (SqL.of (kp _ _ h2 nqa));rw[List.getElem?_drop]at y;obtain⟨r2,e2,d,T,rfl,R⟩:=al2.get y;have ei:1+(stk.length-1-i)=stk.length-i:=by lia
  rw[ei,hr1]at e2;cases e2;obtain⟨r0,hr0⟩ : ∃ r0,L[stk.length-(i+1)]?=some r0:=⟨_,Ou (by lia)⟩;obtain⟨s,es⟩ : ∃ s,stk[stk.length-(i+1)]?=some s:=⟨_,Ou (by lia)⟩;have m:=ok.s _ r0 r1 s hr0 (by rw[show stk.length-(i+1)+1=stk.length-i by lia];exact hr1) es;obtain⟨a,ea,s',hs',p,hp,eb,en⟩:=m.v st hs;obtain⟨ek,v,hv,rfl⟩:=mem_ldT.mp hp;injection ek with ek1 ek2;subst ek1 ek2;have xI:H2 d=some (.dK (qh r1.ks fun k=>.ref (T k))):=R.r;have nda:d≠ar:=fun z=>by rw[z,har2]at xI;cases xI
  obtain⟨w,hw,io⟩:=R.t st hs;rw[ea]at io;obtain⟨b,rfl,hb⟩:=io;have kt:KT H2 H'':=fun c w e=>kp _ _ e fun z=>by rw[z,har2]at e;cases e
  refine⟨_,rfl,_,rfl,d,_,rfl,by have:=DGet.k (k:=.inl st) (kp _ _ xI nda);rwa [o6,OK hs]at this,T st,_,1,_,rfl,rfl,SqT.of (kt _ _ hw),rfl,_,rfl,.inl ⟨rfl,_,SqL.of ha⟩,_,rfl,_,_,_,rfl,rfl,ha,?_,?_⟩
  .have:=aa.len;have l2:=PJ List.length sg;rw[Ot,Qw]at l2;rw[List.length_reverse]at this;exact xq (by lia)
  have kt2:KT H'' (upd H'' ar (.lst (us++[.ref b]))):=.upd ha fun _ z=>(nomatch z);refine Reads.ix (n:=0) (.va rfl) (kt2 _ _ (kt _ _ hb)) (v:=.int a.1) rfl _ (k' _ _ (.mk (as:=a::as) (fun c u e n=>by rw[aA n];exact kp _ _ e n) ao ?_ (.cons hv (eb▸pt)) ?_ hr0 hs' ?_))
  .rw[List.reverse_cons];exact(aa.mono fun x v ⟨p,e,h⟩=>⟨p,e,kt2 _ _ h⟩).snoc ⟨b,rfl,kt2 _ _ (kt _ _ hb)⟩
  .rw[OE,sg];have:=Q_ (l:=stk) (i:=stk.length-(i+1)) (by lia);rw[this,show stk.length-(i+1)+1=stk.length-i by lia];rw[Ou (by lia)]at es;rw[OW es]
  .rw[en]at sm;lia
 .obtain @⟨H',us,as,st,c,r1,x3,x4,kp,ha,aa,pt,sg,hr1,hs,sm⟩:=p;rw[Nat.sub_self,ok.z]at hr1;cases hr1;obtain rfl:st=room:=by simpa using hs
  have sm:(0:Int)+c=r.S e:=sm;rw[RQ]at sm;subst sm;rw[Nat.sub_self]at sg;exact⟨_,rfl,k ar us as H' (fun c u e=>kp _ _ (s12 _ _ e) (aB e har)) har ha aa pt sg⟩
end
inductive nI (r:Pz.Rule) (mid:Option Int) (st:Int):List Pz.Arr->Prop
 |p0:r.2.2.2=[]->nI r mid st []
 |p1 {x:Int}:r.2.2.2=[x]->nI r mid st [(r.2.2.1,x,st)]
 |p2 {x y m:Int}:r.2.2.2=[x,y]->mid=some m->nI r mid st [(r.2.2.1,x,m),(m,y,st)]
section
variable {K:SG}{H H':Hp}{t:Pz.TD}{σ:L2.St}{vs:List V}{Q:VK}{E:XK}
inductive Bd:Sp
 |mk {H:Hp} {r:Pz.Rule} {v:V} {mid:Option Int} {st:Int} {ps:List Pz.Arr} {Q:VK} {E:XK} (hr:IsRule H r v) (pp:nI r mid st ps) (k:∀ l us H',Same H H'->H l=none->H' l=some (.lst us)->bc (IsArr H') ps.reverse us->Q (.ref l) H'):Bd [v,vO mid,.int st] H Q E
theorem z7 (h:Bd vs H Q E):vs.length=3:=by cases h;rfl
abbrev z8 (K:SG)(n:Int):TE:=aZ (jq K) (tI K 0 3) (tC (.int n))
def II (K:SG)(n:Int):TT:=br (aZ ou (gS (gn K) (aj (tI K 0 3) aG)) (tC (.int n)))
def uu (a b c:TE):TE:=cf (aj a (aj b (aj c aG)))
def Nu (K:SG):TS:=aP (cI (II K 0) (bU (cJ aG)) bY) (aP (cI (II K 1) (bU (cJ (aj (uu (tI K 0 2) (z8 K 0) (au 2)) aG))) bY) (bU (cJ (aj (uu (au 1) (z8 K 1) (au 2)) (aj (uu (tI K 0 2) (z8 K 0) (au 1)) aG)))))
theorem C9 (h:Bd vs H Q E):Nu K (eQ Q) (bj (nS 3) vs) H:=by
 obtain @⟨H,r,v,mid,st,ps,Q,E,⟨p,q,rfl,hp,hq⟩,pp,k⟩:=h;have r3:∀{H'},Same H H'->Reads (tI K 0 3) [some (.ref p),some (vO mid),some (.int st)] H' (.ref q):=fun s=>.ix (n:=3) (.va rfl) (s _ _ hp) (v:=.ref q) rfl;have r2:∀{H'},Same H H'->Reads (tI K 0 2) [some (.ref p),some (vO mid),some (.int st)] H' (.int r.2.2.1):=fun s=>.ix (n:=2) (.va rfl) (s _ _ hp) (v:=.int r.2.2.1) rfl;have s0:Same H H:=fun _ _ e=>e;have len:∀ n,Reads (aZ ou (gS (gn K) (aj (tI K 0 3) aG)) (tC (.int n))) [some (.ref p),some (vO mid),some (.int st)] H (.bl (decide (((r.2.2.2.map V.int).length:Int)=n))):=fun n=>.AO (.len (r3 s0) hq) .k;have len':∀ n,((r.2.2.2.map V.int).length:Int)=n↔(r.2.2.2.length:Int)=n:=fun n=>by rw[Ot]
 cases pp with
 |p0 e=>exact len 0 _ ⟨_,rfl,by rw[OO ((len' 0).mpr (by rw[e];rfl))];exact d8 ⟨OP _,fun l hl=>k l [] _ (az hl) hl ao .nil⟩⟩
 | @p1 x e=>
  refine len 0 _ ⟨_,rfl,?_⟩;rw[OZ (fun z=>by rw[len',e]at z;cases z)];refine cM (len 1 _ ⟨_,rfl,?_⟩);rw[OO ((len' 1).mpr (by rw[e];rfl))];rw[e]at hq;refine d8 ?_
  delta bU cJ aj uu
  refine jg (σ:=[some (.ref p),some (vO mid),some (.int st)]) (ws:=[.int r.2.2.1,.int x,.int st]) (.c (r2 s0) (.c (.ix (n:=0) (r3 s0) hq (v:=.int x) rfl) (.c (.va rfl) .ni))) rfl fun a ha=>⟨by show 1<=_;rw[OG];lia,fun l hl=>?_⟩;have s1:=az (o:=.tup [.int r.2.2.1,.int x,.int st]) ha;exact k l _ _ (s1.trans (az hl)) (s1.free hl) ao (.cons ⟨a,rfl,az hl _ _ ao⟩ .nil)
 | @p2 x y m e em=>
  refine len 0 _ ⟨_,rfl,?_⟩;rw[OZ (fun z=>by rw[len',e]at z;cases z)];refine cM (len 1 _ ⟨_,rfl,?_⟩);rw[OZ (fun z=>by rw[len',e]at z;cases z)];rw[e]at hq;subst em;refine cM (?_:bU (cJ (aj (uu (au 1) (z8 K 1) (au 2)) (aj (uu (tI K 0 2) (z8 K 0) (au 1)) aG))) (eQ Q) [some (.ref p),some (.int m),some (.int st)] H)
  delta bU cJ aj uu
  refine jg (σ:=[some (.ref p),some (.int m),some (.int st)]) (ws:=[.int m,.int y,.int st]) (.c (.va (i:=1) rfl) (.c (.ix (n:=1) (r3 s0) hq (v:=.int y) rfl) (.c (.va (i:=2) rfl) .ni))) rfl fun a ha=>?_;have s1:=az (o:=.tup [.int m,.int y,.int st]) ha;have h1:upd H a (.tup [.int m,.int y,.int st]) a=some (.tup [.int m,.int y,.int st]):=ao;generalize upd H a (.tup [.int m,.int y,.int st])=H1 at s1 h1;refine jg (σ:=[some (.ref p),some (.int m),some (.int st)]) (ws:=[.int r.2.2.1,.int x,.int m]) (.c (r2 s1) (.c (.ix (n:=0) (r3 s1) (s1 _ _ hq) (v:=.int x) rfl) (.c (.va (i:=1) rfl) .ni))) rfl fun b hb=>⟨by show 2<=_;rw[OG];lia,fun l hl=>?_⟩;have s2:=az (o:=.tup [.int r.2.2.1,.int x,.int m]) hb;exact k l _ _ ((s1.trans s2).trans (az hl)) ((s1.trans s2).free hl) ao (.cons ⟨a,rfl,az hl _ _ (s2 _ _ h1)⟩ (.cons ⟨b,rfl,az hl _ _ ao⟩ .nil))
inductive iz (RL:List Pz.Rule) (t:Pz.TD):Nat->List Pz.Arr->List Int->Prop
 |nil:iz RL t 0 [] []
 |none {a:Pz.Arr} {v:Pz.mG} {as:List Pz.Arr} {ns:List Int} {n:Nat}:(a,v)∈t->v.2.1=none->iz RL t n as ns->iz RL t (n+1) (a::as) ns
 |rule {a:Pz.Arr} {v:Pz.mG} {as ps:List Pz.Arr} {ns:List Int} {n j:Nat} {r:Pz.Rule}:(a,v)∈t->v.2.1=some (j:Nat)->RL[j]?=some r->nI r v.2.2 a.2.2 ps->iz RL t n (ps++as) ns->iz RL t (n+1) (a::as) ((j:Nat)::ns)
theorem iz.len {RL:List Pz.Rule}{n:Nat}{as:List Pz.Arr}{ns:List Int}(h:iz RL t n as ns):as.length<=n/\ns.length<=n:=by
 induction h with
 |nil=>exact⟨Oq _,Oq _⟩
 |none _ _ _ ih=>simp only[OJ];lia
 |rule _ _ _ _ _ ih=>rw[OF]at ih;simp only[OJ];lia
theorem z9 {kvs:List (List bG×V)}{a:Pz.Arr}{v:Pz.mG}(al:bc (IsTo H) t kvs)(nd:(t.map (·.1)).Nodup)(h:(a,v)∈t):∃ p,cz kvs (ak a)=some (.ref p)/\H p=some (.tup [.int v.1,vO v.2.1,vO v.2.2]):=by
 induction al with
 |nil=>cases h
 | @cons x kv xs ys hx _ ih=>
  rw[OE,Pk]at nd;obtain⟨ek,p,ep,hp⟩:=hx;rcases OC.mp h with rfl|h
  .exact⟨p,by rw[dL ek,ep],hp⟩
  .rw[dM fun z=>?_]
   .exact ih nd.2 h
   .rw[ek]at z;exact nd.1 (by rw[ub _ _ z];exact OB.mpr ⟨(a,v),h,rfl⟩)
inductive A9:Sp
 |mk {H:Hp} {p rl d ar:Addr} {a b:V} {ws us:List V} {RL:List Pz.Rule} {t:Pz.TD} {u:HO} {kvs:List (List bG×V)} {as:List Pz.Arr} {ns:List Int} {n:Nat} {Q:VK} {E:XK} (hp:H p=some (.tup [a,b,.ref rl])) (hl:Rd H rl (.lst ws)) (ir:bc (IsRule H) RL ws) (hd:H d=some u) (hu:u=.dT kvs\/(u=.dK []/\kvs=[])) (al:bc (IsTo H) t kvs) (nd:(t.map (·.1)).Nodup) (ha:H ar=some (.lst us)) (aa:bc (IsArr H) as.reverse us) (w:iz RL t n as ns) (hn:n<1000000)
  (k:∀ l H',Same H H'->H l=none->H' l=some (.lst (ns.map .int))->Q (.ref l) H'):A9 [.ref p,.ref d,.ref ar] H Q E
theorem z_ (h:A9 vs H Q E):vs.length=3:=by cases h;rfl
def Aa (K:SG)(n:Int):TE:=aZ (jq K) (qT (au 1) (au 5)) (tC (.int n))
def IJ (K:SG):TS:=cw (xS K "list" uN (au 3) (aj (bJ Bd [] E0 (aj (aZ (kO K) (tI K 0 2) (au 6)) (aj (Aa K 2) (aj (tI K 5 2) aG)))) aG))
def FU (K:SG):TS:=cI (br (aZ (fun x y H Q=>y=.bC/\Q (.bl (!decide (x=.bC))) H) (au 6) (tC .bC))) (aP (cw (xS K "list" dD (au 4) (aj (au 6) aG))) (IJ K)) bY
def IK (K:SG):TS:=aP (bh (B0 K "list" Hq (au 3)) (aE 5)) (aP (bh (Aa K 1) (aE 6)) (FU K))
def Nv (K:SG):TS:=aP (bh (gS (km K) (aj (au 2) aG)) (aE 3)) (aP (bh (cJ aG) (aE 4)) (aP (ph (IA K (au 3)) (IK K)) (bU (au 4))))
def ss (p d ar dl nl:Addr)(x5 x6:Option V):L2.St:=[some (.ref p),some (.ref d),some (.ref ar),some (.ref dl),some (.ref nl),x5,x6]
inductive Kc (p d ar dl nl:Addr) (H2:Hp) (RL:List Pz.Rule) (t:Pz.TD) (ns:List Int) (n:Nat):L2.St->Hp->Prop
 |mk {H':Hp} {us:List V} {as:List Pz.Arr} {dn rs:List Int} {x5 x6:Option V}:(∀ c u,H2 c=some u->c≠dl->c≠nl->H' c=some u)->H' dl=some (.lst us)->bc (IsArr H') as.reverse us->H' nl=some (.lst (dn.map .int))->ns=dn++rs->n<1000000->iz RL t n as rs->Kc p d ar dl nl H2 RL t ns n (ss p d ar dl nl x5 x6) H'
theorem Ab {d b:Addr}{u:HO}{kvs:List (List bG×V)}{a:Pz.Arr}{v:Pz.mG}{x:V}{n:Int}(hd:H d=some u)(hu:u=.dT kvs\/(u=.dK []/\kvs=[]))(al:bc (IsTo H) t kvs)(nd:(t.map (·.1)).Nodup)(h:(a,v)∈t)(hb:H b=some (.tup (gk a)))(h1:σ[1]?=some (some (.ref d)))(h5:σ[5]?=some (some (.ref b)))(e:uL [.int v.1,vO v.2.1,vO v.2.2] n=some x):Reads (Aa K n) σ H x:=by
 obtain⟨p,ep,hp⟩:=z9 al nd h;obtain rfl:u=.dT kvs:=hu.resolve_right fun z=>by rw[z.2]at ep;cases ep
 exact .ix (b:=p) (fun Q q=>⟨_,h1,_,h5,d,_,rfl,by have:=DGet.t (k:=ak a) hd hb;rwa [ep]at this,q⟩) hp e
theorem C_ (h:A9 vs H Q E):Nv K (eQ Q) (bj (nS 7) vs) H:=by
 obtain @⟨H,p,rl,d,ar,a0,b0,ws,us,RL,t,u,kvs,as,ns,n,Q,E,hp,hl,ir,hd,hu,al,nd,ha,aa,w,hn,k⟩:=h;refine⟨_,rfl,ar,us,rfl,.inl (.inl (.inl ha)),fun dl hdl=>⟨OP _,fun nl hnl=>?_⟩⟩;have s1:=az (o:=.lst us) hdl;have h1:upd H dl (.lst us) dl=some (.lst us):=ao;generalize upd H dl (.lst us)=H1 at s1 h1 hnl;have s2:=az (o:=.lst []) hnl;have h2:upd H1 nl (.lst []) nl=some (.lst []):=ao;have hdl2:=s2 _ _ h1;generalize upd H1 nl (.lst [])=H2 at s2 h2 hdl2;have s12:=s1.trans s2;have ndn:dl≠nl:=fun z=>by rw[z]at h1;rw[h1]at hnl;cases hnl
 have n1:∀{c u},H c=some u->c≠dl/\c≠nl:=fun e=>⟨aB e hdl,aB (s1 _ _ e) hnl⟩;show ph (IA K (au 3)) (IK K) { nx:=bU (au 4) (eQ Q),rt:=Q } (ss p d ar dl nl none none) H2;refine⟨Kc p d ar dl nl H2 RL t ns,⟨n,.mk (dn:=[]) (fun _ _ e _ _=>e) hdl2 (aa.mono fun x v ⟨p,e,h⟩=>⟨p,e,s12 _ _ h⟩) h2 rfl hn w⟩,?_⟩;have lw0:=w.len;rintro m σ H' @⟨H',us,as,dn,rs,x5,x6,kp,hdl,aa,hnl',ens,hm,w⟩;have up:∀{c u},H c=some u->H' c=some u:=fun e=>kp _ _ (s12 _ _ e) (n1 e).1 (n1 e).2;refine⟨_,rfl,_,.inl ⟨_,SqL.of hdl,rfl⟩,?_⟩;have al':bc (IsTo H') t kvs:=al.mono fun x kv h=>h.keep fun _ _ e=>up e;have step:∀{a as'},as=a::as'->∃ b zs,us=zs++[.ref b]/\H' b=some (.tup (gk a))/\bc (IsArr H') as'.reverse zs:=fun e=>by rw[e,List.reverse_cons]at aa;obtain⟨zs,y,rfl,a1,b,rfl,hb⟩:=aa.GR;exact⟨b,zs,rfl,hb,a1⟩
 have lw:=w.len;cases w with
 |nil=>cases aa;rw[Rn]at ens;subst ens;exact cM ⟨_,rfl,k nl H' (fun c u e=>up e) (s1.free hnl) hnl'⟩
 | @none a v as' _ m' hv e0 w'=>
  obtain⟨b,zs,rfl,hb,a1⟩:=step rfl;rw[show(!(zs++[V.ref b]).isEmpty)=true by simp];refine d8 ⟨fun σ' H''=>Kc p d ar dl nl H2 RL t ns m' σ' H'',fun σ' H'' z=>⟨m',P_ _,z⟩,_,rfl,.inl ⟨rfl,_,SqL.of hdl⟩,dl,zs++[.ref b],.ref b,rfl,rfl,hdl,by simp,?_⟩;rw[List.dropLast_concat];have kt:KT H' (upd H' dl (.lst zs)):=.upd hdl fun _ z=>(nomatch z);have k3:∀ c u,H' c=some u->c≠dl->upd H' dl (.lst zs) c=some u:=fun c u e n=>by rw[aA n];exact e
  have h3:upd H' dl (.lst zs) dl=some (.lst zs):=ao;generalize upd H' dl (.lst zs)=H3 at kt k3 h3;show aP (bh (Aa K 1) (aE 6)) (FU K) _ (ss p d ar dl nl (some (.ref b)) x6) H3;refine Ab (σ:=ss p d ar dl nl (some (.ref b)) x6) (k3 _ _ (up hd) (n1 hd).1) hu (al'.mono fun x kv h=>h.keep kt) nd hv (kt _ _ hb) rfl rfl (x:=.bC) (by rw[e0];rfl) _ ⟨_,rfl,rfl,_,rfl,cM (.mk (fun c u e n n'=>k3 _ _ (kp _ _ e n n') n) h3 (a1.mono fun x v ⟨p,e,h⟩=>⟨p,e,kt _ _ h⟩) (k3 _ _ hnl' (Pw ndn)) ens (by lia) w')⟩
 | @rule a v as' ps rs' m' j r hv e0 hr pp w'=>
  obtain⟨b,zs,rfl,hb,a1⟩:=step rfl;rw[show(!(zs++[V.ref b]).isEmpty)=true by simp];refine d8 ⟨fun σ' H''=>Kc p d ar dl nl H2 RL t ns m' σ' H'',fun σ' H'' z=>⟨m',P_ _,z⟩,_,rfl,.inl ⟨rfl,_,SqL.of hdl⟩,dl,zs++[.ref b],.ref b,rfl,rfl,hdl,by simp,?_⟩;rw[List.dropLast_concat];have kt:KT H' (upd H' dl (.lst zs)):=.upd hdl fun _ z=>(nomatch z);have k3:∀ c u,H' c=some u->c≠dl->upd H' dl (.lst zs) c=some u:=fun c u e n=>by rw[aA n];exact e
  have h3:upd H' dl (.lst zs) dl=some (.lst zs):=ao;generalize upd H' dl (.lst zs)=H3 at kt k3 h3;have a3:=a1.mono fun x v (⟨p,e,h⟩ : IsArr H' x v)=>(⟨p,e,kt _ _ h⟩ : IsArr H3 x v);have hn3:=k3 _ _ hnl' (Pw ndn);show aP (bh (Aa K 1) (aE 6)) (FU K) _ (ss p d ar dl nl (some (.ref b)) x6) H3;have al3:=al'.mono fun x kv (h:IsTo H' x kv)=>h.keep kt;refine Ab (σ:=ss p d ar dl nl (some (.ref b)) x6) (k3 _ _ (up hd) (n1 hd).1) hu al3 nd hv (kt _ _ hb) rfl rfl (x:=.int j) (by rw[e0];rfl) _ ⟨_,rfl,rfl,_,rfl,d8 ⟨_,rfl,.inl ⟨rfl,_,SqL.of hn3⟩,_,rfl,nl,_,_,rfl,rfl,hn3,?_,?_⟩⟩
  .have:=PJ List.length ens;rw[OF,OJ]at this;exact xq (by rw[Ot];lia)
  have kt4:KT H3 (upd H3 nl (.lst (dn.map .int++[.int j]))):=.upd hn3 fun _ z=>(nomatch z);have k4:∀ c u,H3 c=some u->c≠nl->upd H3 nl (.lst (dn.map .int++[.int j])) c=some u:=fun c u e n=>by rw[aA n];exact e
  have h4:upd H3 nl (.lst (dn.map .int++[.int j])) nl=some (.lst ((dn++[(j:Int)]).map .int)):=by rw[ao,O3];rfl
  have hd4:=k4 _ _ h3 ndn;generalize upd H3 nl (.lst (dn.map .int++[.int j]))=H4 at kt4 k4 h4 hd4;have up4:∀{c u},H c=some u->H4 c=some u:=fun e=>k4 _ _ (k3 _ _ (up e) (n1 e).1) (n1 e).2;obtain⟨wv,ewv⟩ : ∃ wv,ws[j]?=some wv:=⟨_,Ou (by rw[<- ir.len];exact(Ov.mp hr).1)⟩;obtain⟨r',er',hr'⟩:=ir.get ewv;rw[hr]at er';cases er';show IJ K _ (ss p d ar dl nl (some (.ref b)) (some (.int j))) H4;have hl4:Rd H4 rl (.lst ws):=hl.imp (fun e=>up4 e) fun⟨o,e⟩=>⟨o,up4 e⟩;have kt04:KT H H4:=fun c w e=>up4 e;refine⟨_,rfl,.inl ⟨rfl,_,SqL.of hd4⟩,Reads.G_ (j:=j) (.ix (n:=2) (.va (i:=0) rfl) (up4 hp) (v:=.ref rl) rfl) (.va (i:=6) rfl) hl4 ewv rfl _ (Ab (σ:=ss p d ar dl nl (some (.ref b)) (some (.int j))) (up4 hd) hu (al3.mono fun x kv h=>h.keep kt4) nd hv (kt4 _ _ (kt _ _ hb)) rfl rfl (n:=2) (x:=vO v.2.2) rfl _ (Reads.ix (n:=2) (.va (i:=5) rfl) (kt4 _ _ (kt _ _ hb)) (v:=.int a.2.2) rfl _ (.mk (IsRule.keep kt04 _ _ hr') pp fun l ls H5 s5 nl5 hl5 a5=>?_)))⟩;have hd5:=s5 _ _ hd4;have l1:=a1.len;have l5:=a5.len;have w2:=w'.len;rw[OF]at w2;rw[List.length_reverse]at l1 l5;refine⟨dl,l,zs,ls,rfl,rfl,hd5,hl5,by rw[OG];lia,?_⟩;have kt6:KT H5 (upd H5 dl (.lst (zs++ls))):=.upd hd5 fun _ z=>(nomatch z);refine .mk (as:=ps++as') (dn:=dn++[(j:Int)]) (fun c u e n n'=>by rw[aA n];exact s5 _ _ (k4 _ _ (k3 _ _ (kp _ _ e n n') n) n')) ao ?_ (by rw[aA (Pw ndn)];exact s5 _ _ h4) (by rw[ens,Q1];rfl) (by lia) w';rw[List.reverse_append];exact(a3.mono fun x v ⟨p,e,h⟩=>⟨p,e,kt6 _ _ (s5 _ _ (kt4 _ _ h))⟩).app (a5.mono fun x v ⟨p,e,h⟩=>⟨p,e,kt6 _ _ h⟩)
end
end L4
namespace L2
open PySem PySem.Spec PyProof.Rows
section
variable {X:Cx}
theorem Inv.xe {af:List (Addr×Obj)}{σ:St}{H:Hp}{s:SF}(I:Inv X af σ H s)(xe:SI->SF->Prop):Inv { X with xe:=xe } af σ H s:=⟨⟨I.ok.mod,I.ok.kind,I.ok.glob,I.ok.blt,I.ok.above,I.ok.inj,I.ok.has,I.ok.Bu,I.ok.hd,I.ok.frames,I.ok.stk,I.ok.GD,I.ok.bs,I.ok.vK,I.ok.om,I.ok.qr,I.ok.iA,I.ok.xW,I.ok.kt⟩,I.os,I.bare,I.base,I.loc,I.cell,I.free,I.dj,I.pin,I.aX,I.len⟩
theorem Inv.LQ {xe:SI->SF->Prop}{af:List (Addr×Obj)}{σ:St}{H:Hp}{s:SF}(I:Inv { X with xe:=xe } af σ H s):Inv X af σ H s:=⟨⟨I.ok.mod,I.ok.kind,I.ok.glob,I.ok.blt,I.ok.above,I.ok.inj,I.ok.has,I.ok.Bu,I.ok.hd,I.ok.frames,I.ok.stk,I.ok.GD,I.ok.bs,I.ok.vK,I.ok.om,I.ok.qr,I.ok.iA,I.ok.xW,I.ok.kt⟩,I.os,I.bare,I.base,I.loc,I.cell,I.free,I.dj,I.pin,I.aX,I.len⟩
end
end L2
namespace L4
open PySem PySem.Spec PyProof.Rows L2 L3
section
variable {K:SG}{mg:Str->Option SI}{Fr:jk}{CN CT:Addr}{H H':Hp}{p mp sp:Addr}{t:Pz.TD}{room most:Int}{stk ends U:List Int}{σ:L2.St}{vs:List V}{Q:VK}{E:XK}
def RlAt (H:Hp)(p:Addr)(RL:List Pz.Rule):Prop:=∃ a b rl ws,H p=some (.tup [a,b,.ref rl])/\Rd H rl (.lst ws)/\bc (IsRule H) RL ws
theorem RlAt.more {RL:List Pz.Rule}(h:RlAt H p RL)(s:Same H H'):RlAt H' p RL:=let ⟨a,b,rl,ws,h1,h2,h3⟩:=h;⟨a,b,rl,ws,s _ _ h1,bb s h2,h3.mono (IsRule.keep (.of s))⟩
inductive xR (Fr:jk) (CN CT:Addr):Sp
 |mk {H:Hp} {p mp sp:Addr} {t:Pz.TD} {room most:Int} {stk ends U:List Int} {RL:List Pz.Rule} {Q:VK} {E:XK} (i:qy Fr H p mp sp t room stk ends U) (hr:RlAt H p RL) (nd:(t.map (·.1)).Nodup) (al:∀ as e c,eS t room as e c->as.map (·.2.1)=stk->c<=most->∃ n ns,iz RL t n as ns/\n<1000000)
  (k:∀ L r v e as n ns l H',Same H H'->fz t room stk ends L r (some (v,e))->v<=most->eS t room as e v->as.map (·.2.1)=stk->iz RL t n as ns->H l=none->H' l=some (.lst (ns.map .int))->Q (.ref l) H')
  (xn:∀ L r,fz t room stk ends L r none->∀ H',Same H H'->E (.ref CN) none H') (xt:∀ L r v e,fz t room stk ends L r (some (v,e))->most<v->∀ H',Same H H'->E (.ref CT) none H'):xR Fr CN CT [.ref p,.ref mp,.ref sp,.int most] H Q E
theorem Ac (h:xR Fr CN CT vs H Q E):vs.length=4:=by cases h;rfl
def Lf:TS:=bU (bJ A9 [] E0 (aj (au 0) (aj (au 4) (aj (bJ AZ [] E0 (aj (au 5) (aj (tI K 6 1) aG))) aG))))
def Lg (K:SG)(CT:Addr)(E:XK)(m2:Str):TS:=aP (cI (br (aZ Bh (tI K 6 0) (au 3))) (tz (aj (tC (.str m2)) aG) (fun H=>E (.ref CT) none H)) bY) (Lf (K:=K))
def Lh (K:SG)(CN CT:Addr)(E:XK)(m1 m2:Str):TS:=aP (cI (br (aZ nX (au 6) (tC .bC))) (tz (aj (tC (.str m1)) aG) (fun H=>E (.ref CN) none H)) bY) (Lg K CT E m2)
def Nw (K:SG)(mg:Str->Option SI)(Fr:jk)(CN CT:Addr)(E:XK)(m1 m2:Str):TS:=aP (bh (bJ (y9 mg 2 Fr) [] E0 (aj (au 0) (aj (au 1) aG))) (aE 4)) (aP (bh (bJ xP [] E0 (aj (au 4) (aj (au 2) aG))) (aE 5)) (aP (bh (bJ uD [] E0 (aj (au 1) (aj (aZ (kO K) (au 5) K_) aG))) (aE 6)) (Lh K CN CT E m1 m2)))
theorem Da {m1 m2:Str}(h:xR Fr CN CT vs H Q E):Nw K mg Fr CN CT E m1 m2 (eQ Q) (bj (nS 7) vs) H:=by
 obtain @⟨H,p,mp,sp,t,room,most,stk,ends,U,RL,Q,E,i,hr,nd,wk,k,xn,xt⟩:=h;refine z0 (σ:=[some (.ref p),some (.ref mp),some (.ref sp),some (.int most),none,none,none]) i (.c (.va rfl) (.c (.va rfl) .ni)) fun d kvs u H1 s1 _ hd hu al=>?_;have i1:=i.more s1;obtain⟨sl,hp,hl⟩:=i1.s;refine⟨_,rfl,_,rfl,.mk hd hu al i.z hp hl i.zs i.u i.zu fun rl L ws H2 s2 nr hrl al2 n ok=>⟨_,rfl,_,rfl,1,rfl,z4 (i1.more s2) hrl al2 n ok fun r o v H3 s3 lt io=>?_⟩⟩;have s13:=(s1.trans s2).trans s3;have l1:∀{m:Str},[V.str m].length<=sizeLine:=fun{m}=>by show 1<=_;rw[OG];lia
 cases o with
 |none=>cases (show v=.bC from io);exact⟨_,rfl,rfl,_,rfl,d8 ⟨l1,xn L r lt H3 s13⟩⟩
 |some x=>
  obtain⟨q,rfl,hq⟩:=io;obtain⟨lv,e⟩:=x;refine⟨_,rfl,rfl,_,rfl,cM (fI (Reads.op (.ix (n:=0) (.va (i:=6) rfl) hq (v:=.int lv) rfl) (.va (i:=3) rfl) fun _ q=>⟨_,_,rfl,rfl,q⟩) (fun c=>⟨l1,xt L r lv e lt (by have:=O2 c;lia) H3 s13⟩) fun c=>?_)⟩;have c:lv<=most:=by have:¬ most<lv:=fun z=>c (OO (by lia));lia
  obtain⟨n',ok',hl',le1,le2,le3,le4⟩:=id lt;have al3:=al2.mono fun r v (h:RsmAt H2 r v)=>h.more s3;refine⟨_,rfl,_,rfl,_,rfl,Reads.ix (n:=1) (.va (i:=6) rfl) hq (v:=.int e) rfl _ (.mk (s3 _ _ hrl) al3 n ok hl' le2 i.zs fun ar us as H4 s4 _ ha aa pt sg=>?_)⟩;rw[<- le3]at pt;obtain⟨nn,ns,ag,hn⟩:=wk as e lv pt sg c;have s34:=s3.trans s4;obtain⟨a0,b0,r0,ws0,h1,h2,h3⟩:=hr.more (s13.trans s4);exact .mk h1 h2 h3 ((s2.trans s34) _ _ hd) hu (al.mono fun x kv h=>h.keep (.of (s2.trans s34))) nd ha aa ag hn fun l H5 s5 nl hl5=>k L r lv e as nn ns l H5 ((s13.trans s4).trans s5) lt c pt sg ag ((s13.trans s4).free nl) hl5
end
end L4
namespace L2
open PySem PySem.Spec PySem.Calls PyProof.Rows
end L2
namespace L4
open PySem PySem.Spec PyProof.Rows L2 L3
noncomputable def IL (c:Int):Int:=(c % 2147483647+11)*48271*69621 % 2147483629
section
variable {X:Cx}{H:Hp}{σ:L2.St}{vs:List V}{Q:VK}{E:XK}
def FV (sc:List Int)(k:Nat):Int:=IL (sc[k]?.getD 0)
inductive jW:Sp
 |mk {H:Hp} {l:Addr} {sc:List Int} {k:Nat} {Q:VK} {E:XK} (hl:Rd H l (.lst (sc.map .int))) (q:Q (.int (FV sc k)) H):jW [.ref l,.int k] H Q E
theorem Ad (h:jW vs H Q E):vs.length=2:=by cases h;rfl
def IM:R2:=fun x y H Q=>∃ a b xs,x=.ref a/\y=.ref b/\Rd H a (.lst xs)/\H b=some (.lst [])/\Q (.bl (decide (xs=[]))) H
theorem qj {P:SH}{w:World}{s:SF}(ok:HOk P w H s.heap){a:Addr}{xs:List V}(h:Rd H a (.lst xs)):∃ its:List SI,Vals xs its/\s.heap.IsList a its.toArray:=mB (m:=Tr) ok (h.imp (fun e=>⟨e,True.intro⟩) fun⟨o,e⟩=>⟨o,e,True.intro⟩)
theorem FW (hu:X.A.units+64<cLine):iN X (compareOp .Eq) IM:=by
 intro af s σ H x y v u Q I rx ry h;obtain⟨a,b,xs,rfl,rfl,ha,hb,q⟩:=h;cases rx;cases ry;obtain⟨us,y,p⟩:=qj I.aX ha;obtain⟨us',y',p'⟩:=qj I.aX (.inl hb);cases y'.zero;have ln:=y.length;by_cases e:xs=[]
 .subst e;cases y.zero;have z:=SeqAt.RcAt.lists (A:=X.A) (e:=fun _=>true) p p' rfl (by lia) fun j h1 _=>absurd h1 (by simp);exact z X.prog X.w X.xe _ ⟨.bl _,H,I,rfl,q⟩
 .rw[OZ e]at q;exact SeqAt.RcAt.lists_lengths (A:=X.A) p p' (by cases us with|nil=>(rw[Pn.mp ln]at e;exact(e rfl).elim)|cons _ _=>rfl) (by lia) X.prog X.w X.xe _ ⟨.bl _,H,I,rfl,q⟩
def IN:R2:=fun x y H Q=>∃ a b xs,x=.ref a/\y=.ref b/\Rd H a (.lst xs)/\H b=some (.lst [])/\Q (.bl (!decide (xs=[]))) H
theorem FX (hu:X.A.units+64<cLine):iN X (compareOp .NotEq) IN:=by
 intro af s σ H x y v u Q I rx ry h;obtain⟨a,b,xs,rfl,rfl,ha,hb,q⟩:=h;cases rx;cases ry;obtain⟨us,y,p⟩:=qj I.aX ha;obtain⟨us',y',p'⟩:=qj I.aX (.inl hb);cases y'.zero;have ln:=y.length;by_cases e:xs=[]
 .subst e;cases y.zero;have z:=SeqAt.RcNeAt.lists (A:=X.A) (e:=fun _=>true) p p' rfl (by lia) fun j h1 _=>absurd h1 (by simp);exact z X.prog X.w X.xe _ ⟨.bl _,H,I,rfl,q⟩
 .rw[OZ e]at q;exact SeqAt.RcNeAt.lists_lengths (A:=X.A) p p' (by cases us with|nil=>(rw[Pn.mp ln]at e;exact(e rfl).elim)|cons _ _=>rfl) (by lia) X.prog X.w X.xe _ ⟨.bl _,H,I,rfl,q⟩
end
structure Dp (room last:Int) (RL:List Pz.Rule):Prop where
 l:0<=last
 a:∀ r∈RL,r.1=room/\r.2.2.1=room/\0<=r.2.1/\r.2.1<=last/\r.2.2.2.length<=2/\∀ x∈r.2.2.2,r.2.1<x/\x<=last
 e:∀ r∈RL,r.2.2.2=[]->r.2.1=last
 s:∀ g,0<=g->g<=last->∃ r∈RL,r.2.1=g
 o:RL.Pairwise fun r r'=>r.2.1<=r'.2.1
section
variable {H:Hp}{Q:VK}
def IQ:List V->Hp->VK->Prop:=fun xs H Q=>∃ i j,xs=[.int i,.int j]/\Q (.int (if j<i then j else i)) H
theorem map_nil {S:List Int}:decide (S.map V.int=[])=decide (S=[]):=by cases S<;>rfl
end
structure N_ (P:List Pz.Rule) (ks:List Int) (S:Int->Int):Prop where
 nd:ks.Nodup
 m:∀ g,g∈ks↔∃ r∈P,r.2.1=g
 lo:∀ r∈P,S r.2.1<=1+(r.2.2.2.map S).sum
 ex:∀ g∈ks,∃ r∈P,r.2.1=g/\S g=1+(r.2.2.2.map S).sum
inductive vL (RL:List Pz.Rule):List Int->Rw->Rw->Prop
 |nil {x:Rw}:vL RL [] x x
 |cons {j:Nat} {r:Pz.Rule} {w:List Int} {ns:List Int} {y:Rw}:RL[j]?=some r->vL RL ns (r.2.2.1,r.2.2.2++w) y->vL RL ((j:Int)::ns) (r.1,r.2.1::w) y
section
variable {K:SG}{Fr:jk}{CN CT:Addr}{H H':Hp}{σ:L2.St}{vs:List V}{Q:VK}{E:XK}
inductive A5:Sp
 |mk {H:Hp} {x:Int} {Q:VK} {E:XK} (k:Q (.bl true) H):A5 [.int x] H Q E
theorem Ae (h:A5 vs H Q E):vs.length=1:=by cases h;rfl
theorem Dc (h:A5 vs H Q E):Nj K (eQ Q) (bj (nS 1) vs) H:=by obtain @⟨H,x,Q,E,k⟩:=h;exact Reads.LX (dd:=.int x) (.va rfl) (.inl (.int x)) zf _ ⟨true,rfl,d8 (Reads.LX (dd:=.int x) (.va rfl) (.inl (.int x)) wD _ ⟨false,rfl,k⟩)⟩
inductive xQ:Sp
 |mk {H:Hp} {p sp sl nl:Addr} {RL:List Pz.Rule} {x y:Rw} {ns:List Int} {Q:VK} {E:XK} (hr:RlAt H p RL) (hs:H sp=some (.tup [.int x.1,.ref sl])) (hl:Rd H sl (.lst (x.2.map .int))) (hn:Rd H nl (.lst (ns.map .int))) (w:vL RL ns x y) (z1:ns.length<=1000) (z2:x.2.length<=1000) (hp:∀ r∈RL,r.2.2.2.length<=2) (k:∀ q l H',Same H H'->H' q=some (.tup [.int y.1,.ref l])->H' l=some (.lst (y.2.map .int))->Q (.ref q) H'):xQ [.ref p,.ref sp,.ref nl] H Q E
theorem Af (h:xQ vs H Q E):vs.length=3:=by cases h;rfl
def Li (K:SG):TE:=gS (gn K) (aj (tI K 0 2) aG)
def Lj (K:SG):TT:=Be (sM (tB (bJ A5 [] E0 (aj (au 5) aG)))) (sM (br (yf (qC fun i j=>.bl (decide (i<=j))) J3 (tC (.int 0)) (au 5) (Li K))))
def Ll (K:SG):TT:=Be (br (aZ IM (au 4) (cJ aG))) (br (aZ CZ (cf (aj (au 3) (aj (aZ (kO K) (au 4) (tC (.int 0))) aG))) (cf (aj (tI K 6 0) (aj (tI K 6 1) aG)))))
def IR (K:SG):TS:=aP (bh (tI K 6 2) (aE 3)) (bh (aZ EK (gS (km K) (aj (tI K 6 3) aG)) (EG (sZ K) (au 4) (jn (tC (.int 1))) jm)) (aE 4))
def Lm (K:SG):TS:=aP (cI (Lj K) (bU (tC .bC)) bY) (aP (bh (aZ (kO K) (tI K 0 2) (au 5)) (aE 6)) (aP (cI (Ll K) (bU (tC .bC)) bY) (IR K)))
def Nx (K:SG):TS:=aP (bh (tI K 1 0) (aE 3)) (aP (bh (gS (km K) (aj (tI K 1 1) aG)) (aE 4)) (aP (f6 (cU K (au 2)) (aE 5) (Lm K)) (bU (cf (aj (au 3) (aj (au 4) aG))))))
theorem FY {Q:Bool->Hp->Prop}{ta tb:TE}{x y:Int}(ha:Makes ta σ H [.int x,.int y])(hb:∀ H',Same H H'->Makes tb σ H' [.int x,.int y])(k:∀ H',Same H H'->Q false H'):br (aZ CZ ta tb) σ H Q:=ha _ fun u hu=>hb _ (az hu) _ fun u' hu'=>⟨[.int x,.int y],Tr,Tr,⟨u,_,rfl,az hu' _ _ ao,_,_,rfl,rfl,_,_,rfl,rfl,rfl⟩,⟨u',_,rfl,ao,_,_,rfl,rfl,_,_,rfl,rfl,rfl⟩,OP _,_,rfl,k _ ((az hu).trans (az hu'))⟩
inductive MR (p sp nl:Addr) (H1:Hp) (RL:List Pz.Rule) (ns:List Int) (y:Rw) (i:Nat):L2.St->Hp->Prop
 |mk {H':Hp} {x:Rw} {l:Addr} {x5 x6:Option V}:Same H1 H'->H' l=some (.lst (x.2.map .int))->vL RL (ns.drop i) x y->x.2.length<=1000+i->MR p sp nl H1 RL ns y i [some (.ref p),some (.ref sp),some (.ref nl),some (.int x.1),some (.ref l),x5,x6] H'
theorem Dd (h:xQ vs H Q E):Nx K (eQ Q) (bj (nS 7) vs) H:=by
 obtain @⟨H,p,sp,sl,nl,RL,x,y,ns,Q,E,⟨a0,b0,rl,ws,hp,hrl,ir⟩,hs,hl,hn,w,z1,z2,hp2,k⟩:=h;refine Reads.ix (n:=0) (.va (i:=1) rfl) hs (v:=.int x.1) rfl _ (Reads.ix (n:=1) (.va (i:=1) rfl) hs (v:=.ref sl) rfl _ ⟨sl,_,rfl,.inl (.inl hl),fun l hl'=>?_⟩);have s1:=az (o:=.lst (x.2.map .int)) hl';have h1:upd H l (.lst (x.2.map .int)) l=some (.lst (x.2.map .int)):=ao;generalize upd H l (.lst (x.2.map .int))=H1 at s1 h1;refine eU (tl:=au 2) ⟨_,rfl,nl,rfl,⟨_,.inl (bb s1 hn)⟩,?_⟩;refine f7 (K:=K) (a:=nl) (xs:=ns.map .int) (MR p sp nl H1 RL ns y) (.mk (fun _ _ e=>e) h1 w (by lia)) (fun i σ' H' _ z=>by cases z with|mk s _ _ _=>exact .inl (bb (s1.trans s) hn)) (fun i v σ' H' hi z=>?_) fun σ' H' z=>?_
 .obtain @⟨H',x,l,x5,x6,s,hl,w,z⟩:=z;have li:=(Ov.mp hi).1;rw[Ot]at li;rw[OD,Ou li]at hi;cases hi;rw[Q_ li]at w;generalize ns[i]=n at w;generalize hd:ns.drop (i+1)=rs at w;cases w with
  | @cons j r w rs y hj w'=>
  have s01:=s1.trans s;obtain⟨wv,ewv⟩ : ∃ wv,ws[j]?=some wv:=⟨_,Ou (by rw[<- ir.len];exact(Ov.mp hj).1)⟩;have lj:=(Ov.mp ewv).1;obtain⟨r',er',hr'⟩:=ir.get ewv;rw[hj]at er';cases er';obtain⟨b,q,rfl,hb,hq⟩:=IsRule.keep (.of s01) _ _ hr';have r02:∀{σ:L2.St}{H'},Same H H'->σ[0]?=some (some (.ref p))->Reads (tI K 0 2) σ H' (.ref rl):=fun s e=>.ix (n:=2) (.va e) (s _ _ hp) (v:=.ref rl) rfl;refine⟨_,rfl,.mk ⟨_,rfl,cM ⟨_,rfl,_,_,rfl,rfl,_,rfl,?_⟩⟩⟩;rw[OO (R_ j)];refine d8 (Reads.DD (r02 s01 rfl) (bb s01 hrl) _ ⟨_,_,rfl,rfl,_,rfl,?_⟩);rw[OO (by lia)];refine cM (Reads.G_ (j:=j) (r02 s01 rfl) (.va rfl) (bb s01 hrl) ewv rfl _ ?_);refine⟨_,rfl,OP _,fun e he=>?_⟩;have t1:=az (o:=.lst []) he;have e1:upd H' e (.lst []) e=some (.lst []):=ao;generalize upd H' e (.lst [])=G1 at t1 e1;refine⟨l,e,_,rfl,rfl,.inl (t1 _ _ hl),e1,_,rfl,cM ?_⟩;refine FY (x:=r.1) (y:=r.2.1) (.t (.c (.va rfl) (.c (.G_ (j:=0) (v:=.int r.2.1) (.va rfl) .k (.inl (t1 _ _ hl)) rfl rfl) .ni)) rfl) (fun G2 t2=>.t (.c (.ix (n:=0) (.va rfl) (t2 _ _ (t1 _ _ hb)) (v:=.int r.1) rfl) (.c (.ix (n:=1) (.va rfl) (t2 _ _ (t1 _ _ hb)) (v:=.int r.2.1) rfl) .ni)) rfl) fun G3 t3=>cM ?_;have t13:=t1.trans t3;have b3:=t13 _ _ hb;have q3:=t13 _ _ hq;have l3:=t13 _ _ hl;show IR K _ [some (.ref p),some (.ref sp),some (.ref nl),some (.int r.1),some (.ref l),some (.int j),some (.ref b)] G3;refine Reads.ix (n:=2) (.va (i:=6) rfl) b3 (v:=.int r.2.2.1) rfl _ (Reads.ix (n:=3) (.va (i:=6) rfl) b3 (v:=.ref q) rfl _ ⟨q,_,rfl,.inr (SqT.of q3),fun m1 hm1=>⟨_,rfl,1,rfl,l,_,rfl,SqL.of (az hm1 _ _ l3),fun m2 hm2=>?_⟩⟩);have ec:j3 ((r.2.1::w).map V.int) (some 1) none=w.map .int:=o5 _ 1;rw[ec];have v1:=az (o:=.lst (r.2.2.2.map .int)) hm1;have c1:upd G3 m1 (.lst (r.2.2.2.map .int)) m1=some (.lst (r.2.2.2.map .int)):=ao;generalize upd G3 m1 (.lst (r.2.2.2.map .int))=G4 at v1 c1 hm2;have v2:=az (o:=.lst (w.map .int)) hm2;have c2:upd G4 m2 (.lst (w.map .int)) m2=some (.lst (w.map .int)):=ao;have c12:=v2 _ _ c1;generalize upd G4 m2 (.lst (w.map .int))=G5 at v2 c2 c12;have hpr:=hp2 r (OU hj);have zw:w.length+1<=1000+i:=z;refine⟨m1,m2,_,_,rfl,rfl,c12,c2,Rf (xq (by simp;lia)),fun m3 hm3=>?_⟩;have v3:=az (o:=.lst (r.2.2.2.map V.int++w.map .int)) hm3;exact .mk (x:=(r.2.2.1,r.2.2.2++w)) (((s.trans t13).trans (v1.trans v2)).trans v3) (by rw[ao,O3]) (by rw[hd];exact w') (by show(r.2.2.2++w).length<=_;rw[OF];lia)
 .obtain @⟨H',x,l,x5,x6,s,hl,w,z⟩:=z;rw[Ot,List.drop_length]at w;cases w;refine jg (σ:=[some (.ref p),some (.ref sp),some (.ref nl),some (.int y.1),some (.ref l),x5,x6]) (ws:=[.int y.1,.ref l]) (.c (.va (i:=3) rfl) (.c (.va (i:=4) rfl) .ni)) rfl fun q hq=>k q l _ ((s1.trans s).trans (az hq)) ao (az hq _ _ hl)
def dw (o:Option Int):Int:=o.getD 60
def IS (Fr:jk)(CN CT:Addr)(ta:TA)(dv:List V):TX:=fun σ H Q EX=>ta σ H fun vs H1=>xR Fr CN CT (vs++dv) H1 Q EX
end
end L4
namespace L2
open PySem PySem.Spec PySem.Calls PyProof.Rows
end L2
namespace L4
open PySem PySem.Spec PyProof.Rows L2 L3
theorem o7 (xs:List V)(j:Nat):j3 xs none (some (j:Nat))=xs.take j:=by
 unfold j3;have e0:HT.sIx xs.length 0 none=0:=rfl;have e:HT.sIx xs.length xs.length (some ((j:Nat):Int))=min j xs.length:=by unfold HT.sIx;simp only;split<;>lia
 rw[e0,e,List.drop_zero,Nat.sub_zero];by_cases h:j<=xs.length
 .rw[Nat.min_eq_left h]
 .rw[SC (by lia),PV,Pe (by lia)]
theorem o8 (l:List Int)(a b:Option Int):∃ cs:List Int,j3 (l.map V.int) a b=cs.map .int:=by unfold j3;rw[<- List.map_drop,<- List.map_take];exact⟨_,rfl⟩
structure ME (K:SG) (mg:Str->Option SI) (x:Str) (st:Stmt) (ps:List Str) (n:Int) where
 f:Addr
 fd:FuncData
 tk:Tok
 h:MH K mg x st ps (.int n tk) f fd
section
variable {K KK:SG}{x:Str}{st:Stmt}{f T:Addr}{oc tc:SI}{od an td:Option Addr}{osl tsl:Array (Option SI)}{kV doc pm cdv ct:SI}{tk:Tok}{m:Nat}{i:Int}
abbrev J7 (x:Str)(st:Stmt)(T:Addr)(kV doc pm:SI)(an:Option Addr)(cdv ct:SI):FuncData:=PySem.W.fnOf x x (b9 st) (bR st) (aC st) (.ref T) kV doc pm an cdv ct
def Lo (K KK:SG)(x:Str)(st:Stmt)(i:Int):Prop:=∃ f T oc tc od an td osl tsl kV doc pm cdv ct tk m,PySem.W.nsIn K mainGlobals x=some (some (.ref f))/\KK.lookup f=some ⟨oc,od,.func (J7 x st T kV doc pm an cdv ct),osl⟩/\KK.lookup T=some ⟨tc,td,.seq #[.int i tk] m,tsl⟩/\PySem.W.codeIn KK cdv x=true/\PySem.W.keepIn KK (.ref f)=true
theorem Ny (a:PySem.W.nsIn K mainGlobals x=some (some (.ref f)))(l:KK.lookup f=some ⟨oc,od,.func (J7 x st T kV doc pm an cdv ct),osl⟩)(lT:KK.lookup T=some ⟨tc,td,.seq #[.int i tk] m,tsl⟩)(c:PySem.W.codeIn KK cdv x=true)(k:PySem.W.keepIn KK (.ref f)=true):Lo K KK x st i:=⟨_,_,_,_,_,_,_,_,_,_,_,_,_,_,_,_,a,l,lT,c,k⟩
variable {mg:Str->Option SI}{ps:List Str}{h:Heap}
theorem Nz (n:Nat)(hn:ps.length=n+1)(X:K.In h)(G:h.Ns mainGlobals mg)(k:Lo K KK x st i)
 (h0:∀(T:Addr)(kV doc pm:SI)(an:Option Addr)(cdv ct:SI)(tk:Tok),AllN (n+1) fun us=>∃ k,bindArgs (J7 x st T kV doc pm an cdv ct) ⟨us,[]⟩=seqItems? (.ref T) >>= k/\k (some #[.int i tk])=pure (ps.zip us):=by (repeat intro _);exact⟨_,rfl,rfl⟩)
 (h1:∀(T:Addr)(kV doc pm:SI)(an:Option Addr)(cdv ct:SI)(tk:Tok),AllN n fun us=>∃ k,bindArgs (J7 x st T kV doc pm an cdv ct) ⟨us,[]⟩=seqItems? (.ref T) >>= k/\k (some #[.int i tk])=pure (ps.zip (us++[.int i tk])):=by (repeat intro _);exact⟨_,rfl,rfl⟩):Nonempty (ME KK mg x st ps i):=by
 obtain⟨f,T,oc,tc,od,an,td,osl,tsl,kV,doc,pm,cdv,ct,tk,m,a,l,lT,c,kp⟩:=k;exact⟨f,_,tk,FH l lT c kp (QP X G a) (fun us e=>(h0 T kV doc pm an cdv ct tk).of us (e.trans hn)) fun us e=>(h1 T kV doc pm an cdv ct tk).of us (Nat.succ.inj (e.trans hn))⟩
end
section
variable {P:SH}{w:World}{K:SG}{mg:Str->Option SI}{base:Heap}
theorem IT {x qual:Str}{st:Stmt}{f:Addr}{fd:FuncData}{N ps:List Str}{k:Nat}{sp:Sp}(F:JI K x qual st f fd)(S:aT N ps (aC st))(len:∀ vs H Q E,sp vs H Q E->vs.length=ps.length)
 (body:∀(cdv:SI)(A:SJ)(outer:List Env)(s:SF)(H:Hp)(vs:List V)(Q:VK)(E:XK),cT k (A.deeper (envOfC qual (aC st) s.heap.objs.size f cdv))->sp vs H Q E->
   ∃ t,PSs (qZ P w K mg base N qual (aC st) f cdv A outer s H E) (bR st) t/\t (eQ Q) (bj N vs) H):bF P w K mg base (uP P w) (k+1) f fd ps sp:=by
 obtain⟨oc,od,dV,kV,doc,pm,an,cdv,ct,osl,rfl,lk,hcd⟩:=F.ex;exact ym lk hcd S len fun A outer s H vs Q E hr hsp=>body cdv A outer s H vs Q E hr hsp
end
structure MM (room last:Int) (RL:List Pz.Rule) (ks:List Int) (S:Int->Int) (TL:List Pz.Rule) (t:Pz.TD):Prop where
 dp:Dp room last RL
 z:RL.length<=61
 sm:N_ RL ks S
 m:∀ r,r∈TL↔r∈RL
 g:Pz.Good TL [] (ks.map fun g=>(room,g,room)) t
section
variable {room last:Int}{RL TL:List Pz.Rule}{ks:List Int}{S:Int->Int}{t:Pz.TD}
variable (A:MM room last RL ks S TL t)
include A
omit A in
theorem eS.app {a b c:List Pz.Arr}{s e f p q:Int}(h:eS t s a e p)(k:eS t e b f q):eS t s (a++b) f (p+q):=by
 induction h with
 |nil=>rw[RQ];exact k
 |cons m _ ih=>rw[Int.add_assoc];exact .cons m (ih k)
omit A in
theorem nI.det {r:Pz.Rule}{mid:Option Int}{st:Int}{a b:List Pz.Arr}(h:nI r mid st a)(k:nI r mid st b):a=b:=by cases h<;>cases k<;>grind
end
section
variable {room last:Int}{RL TL:List Pz.Rule}{ks:List Int}{S:Int->Int}{t:Pz.TD}
variable (A:MM room last RL ks S TL t)
include A
omit A in
end
end L4
namespace L4
open PySem PySem.Spec PyProof.Rows L2 L3 ST
section
variable {X:Cx}{H:Hp}{σ:L2.St}{Q:VK}{hs:List Pz.Arr}{vs:List V}{l:Addr}
noncomputable def aL (x:Pz.Arr):List Int:=[x.1,x.2.1,x.2.2]
theorem mT {x y:Pz.Arr}(h:aL x=aL y):x=y:=by unfold aL at h;injection h with a b;injection b with b c;injection c with c _;exact SE a (SE b c)
theorem vD:∀{hs:List Pz.Arr}{vs:List V},bc (IsArr H) hs vs->∃ its:List gf,TupsIn H vs its/\its.map (·.1)=hs.map aL:=by
 intro hs vs h;induction h with
 |nil=>exact⟨[],.nil,rfl⟩
 | @cons x v hs vs q _ ih=>obtain⟨its,t1,t2⟩:=ih;obtain⟨p,rfl,hp⟩:=q;exact⟨(aL x,p)::its,.cons ⟨rfl,hp⟩ t1,by rw[OE,OE,t2]⟩
def SrtA (ms:List Pz.Arr):Prop:=ms.Pairwise fun x y=>dk (aL x) (aL y)=true
theorem Ag (x:Pz.Arr):dk (aL x) (aL x)=false:=by unfold aL;simp[dk]
theorem SrtA.nd {ms:List Pz.Arr}(h:SrtA ms):ms.Nodup:=h.imp fun{x y} h e=>by rw[e,Ag]at h;cases h
theorem FZ {ta:TE}(h:Reads ta σ H (.ref l))(hl:Rd H l (.lst vs))(a:bc (IsArr H) hs vs)(hz:hs.length<=300)(kN:∀ m:List Pz.Arr,m.Nodup->(∀ x∈m,x∈hs)->m.length<=63)
 (k:∀ l' ms ws H',Same H H'->H l'=none->H' l'=some (.lst ws)->bc (IsArr H') ms ws->(∀ x,x∈ms↔x∈hs)->SrtA ms->Q (.ref l') H'):gS (zL X) (aj (gS (zK X) (aj ta aG)) aG) σ H Q:=by
 obtain⟨its,t1,t2⟩:=vD a;have tat:=oU t1;have mem:∀ x∈its,∃ y∈hs,x.1=aL y:=fun x hx=>by
  have:x.1∈hs.map aL:=by rw[<- t2];exact OB.mpr ⟨x,hx,rfl⟩
  obtain⟨y,hy,e⟩:=OB.mp this;exact⟨y,hy,e.symm⟩
 refine h _ ⟨l,vs,its,rfl,hl,t1,by rw[<- a.len];exact hz,fun b es hb v=>?_⟩;have s1:=az (o:=.ext fun h=>SetAt X.w h b es) hb;refine⟨b,es,its,rfl,ao,v,fun x hx=>s1 _ _ (tat x hx),fun x hx z=>?_,fun m nd hm=>?_,fun l' ys hl' so=>?_⟩
 .obtain⟨y,_,e⟩:=mem x hx;rw[z]at e;cases e
 .have:∀ k∈m,∃ y:Pz.Arr,y∈hs/\aL y=k:=fun k hk=>by obtain⟨x,hx,e⟩:=hm k hk;obtain⟨y,hy,e2⟩:=mem x hx;exact⟨y,hy,e2.symm.trans e⟩
  have key:∀ m:List (List Int),(∀ k∈m,∃ y:Pz.Arr,y∈hs/\aL y=k)->∃ n:List Pz.Arr,n.map aL=m/\∀ y∈n,y∈hs:=fun m=>by
   induction m with
   |nil=>exact fun _=>⟨[],rfl,fun _ h=>nomatch h⟩
   |cons c m ih=>intro h;obtain⟨y,hy,e⟩:=h c Ox;obtain⟨n,e2,hn⟩:=ih fun k hk=>h k (Ow _ hk);exact⟨y::n,by rw[OE,e,e2],fun z hz=>(OC.mp hz).elim (fun e=>e▸hy) (hn z)⟩
  obtain⟨n,e,hn⟩:=key m this;subst e;rw[Ot];exact kN n (List.Pairwise.of_map aL (fun _ _ h e=>h (by rw[e])) nd) hn
 .have s2:=s1.trans (az (o:=.lst (ys.map fun y=>.ref y.2)) hl');have nb:H l'=none:=s1.free hl';have ysm:∀ y∈ys,y∈its:=so.sub;have ex:∃ ms:List Pz.Arr,ms.map aL=ys.map (·.1)/\bc (IsArr (upd (upd H b (.ext fun h=>SetAt X.w h b es)) l' (.lst (ys.map fun y=>.ref y.2)))) ms (ys.map fun y=>.ref y.2):=by
   generalize upd (upd H b (.ext fun h=>SetAt X.w h b es)) l' (.lst (ys.map fun y=>.ref y.2))=H9 at s2;clear so hl';induction ys with
   |nil=>exact⟨[],rfl,.nil⟩
   |cons y ys ih=>obtain⟨ms,e1,e2⟩:=ih fun z hz=>ysm z (Ow _ hz);obtain⟨z,_,e3⟩:=mem y (ysm y Ox);refine⟨z::ms,by rw[OE,OE,e1,e3],.cons ⟨y.2,rfl,?_⟩ e2⟩;have:=s2 _ _ (tat y (ysm y Ox));rw[e3]at this;exact this
  obtain⟨ms,e1,e2⟩:=ex;refine k l' ms _ _ s2 nb ao e2 (fun x=>⟨fun hx=>?_,fun hx=>?_⟩) ?_
  .have:aL x∈ys.map (·.1):=by rw[<- e1];exact OB.mpr ⟨x,hx,rfl⟩
   obtain⟨y,hy,e⟩:=OB.mp this;obtain⟨z,hz,e3⟩:=mem y (so.sub y hy);rw[mT (e.symm.trans e3)];exact hz
  .have:aL x∈its.map (·.1):=by rw[t2];exact OB.mpr ⟨x,hx,rfl⟩
   obtain⟨z,hz,e⟩:=OB.mp this;obtain⟨y,hy,e3⟩:=so.all z hz;have:aL x∈ms.map aL:=by rw[e1];exact OB.mpr ⟨y,hy,e3.trans e⟩
   obtain⟨w,hw,e4⟩:=OB.mp this;rw[<- mT e4];exact hw
  .have:=so.pw;have pw:(ys.map (·.1)).Pairwise fun x y=>dk x y=true:=PD.mpr this;rw[<- e1]at pw;exact PD.mp pw
end
section
variable {X:Cx}{H':Hp}{vs:List V}{Q:VK}{σ:L2.St}
theorem Lp {scope:Scope}{tg elt:Expr}{tN capN:List Str}{caps:List Nat}{H1:Hp}{Fin:Addr->List V->Hp->Prop}{J:L2.It}{gt:TG}{te:TE}(L:List Pz.Arr)(hz:L.length<1000)(hg:∀ cl C s3 H3 fp,PG (bw X scope (tN++capN) cl C s3 H3 fp) tg gt)(he:∀ cl C s3 H3 fp,PE (bw X scope (tN++capN) cl C s3 H3 fp) elt te)
 (go:∀ i H',Same H1 H'->i<L.length->J.go i H') (st:∀ H',Same H1 H'->J.stop L.length H') (hb:∀ i H' x H'' o a,L[i]?=some a->Same H1 H'->J.vM i H' x H''->o.length=tN.length->H''=H'/\∃ σ2,(∀ Q:L2.St->Hp->Prop,Q σ2 H''->gt x (o++iP σ caps) H'' Q)/\(∀ j:Nat,tN.length<=j->σ2[j]?=(o++iP σ caps)[j]?)/\Makes te σ2 H'' (gk a))
 (k:∀ Dl vs H',H1 Dl=none->Same H1 H'->H' Dl=some (.lst vs)->bc (IsArr H') L vs->Fin Dl vs H'):cY X scope tg tN capN caps elt [] σ Fin J H1:=by
 refine mR (n:=L.length) hg (fun _ _ _ _ _=>lg) he (fun Dl i acc H'=>Same H1 H'/\H' Dl=some (.lst acc)/\bc (IsArr H') (L.take i) acc/\H1 Dl=none) (fun Dl hD=>⟨az hD,ao,.nil,hD⟩) (fun h=>h.2.1) (fun Dl i acc H' ⟨sm,_⟩ hi=>go i H' sm hi) (fun Dl acc H' ⟨sm,_⟩=>st H' sm) (fun Dl i acc H' xv H'' o hi ⟨sm,hD,a2,nD⟩ yy ho=>?_) fun Dl acc H' hD ⟨sm,hD',a2,_⟩=>k Dl acc H' hD sm hD' (by rw[PV]at a2;exact a2);have hx:=Ou hi;obtain⟨rfl,σ2,g1,g2,g3⟩:=hb i H' xv H'' o _ hx sm yy ho;refine g1 _ ⟨g2,d8 (g3 _ fun p hp=>?_)⟩;have np:Dl≠p:=aB hD hp;have s2:Same H'' (upd H'' p (.tup (gk L[i]))):=az hp;have k3:KT H'' (upd (upd H'' p (.tup (gk L[i]))) Dl (.lst (acc++[.ref p]))):=(KT.of s2).trans (.upd (s2 _ _ hD) fun _ z=>(nomatch z));have ll:=a2.len;rw[Py]at ll;refine⟨s2 _ _ hD,xq (by lia),fun c u e=>?_,ao,?_,nD⟩
 .rw[aA (aB e nD)];exact s2 _ _ (sm _ _ e)
 .rw[Pi,hx];exact(a2.mono fun a v ⟨q,e,h⟩=>⟨q,e,k3 _ _ h⟩).snoc ⟨p,rfl,by rw[aA (Pw np),ao]⟩
end
end L4
namespace L4
open PySem PySem.Spec PyProof.Rows L2 L3
noncomputable def NA (ro sg:Int)(es:List eV):List Pz.Arr:=(es.map fun h=>(h.1,h.2,ro))++(List.range sg.toNat).map fun g=>(ro,((g:Nat):Int),ro)
section
def IU:TE:=cf (aj (au 1) (aj (au 0) (aj (au 1) aG)))
end
theorem Dg {H:Hp}{m:Addr->Prop}{M:List Pz.Arr}{xs:List V}(h:IsAll H m (M.map gV) xs):bc (IsArr H) M xs:=vy (fun _ _=>D5) h
def Ml (ds:List L3.D):Prop:=∃(ro:Int)(h1 h2 m0 m2:L3.D)(M:List Pz.Arr),ds=[.tup [.int ro,h1,h2],.tup [m0,.lst (M.map gV),m2]]/\M.length<1000/\∀ a∈M,ro<=a.2.2
noncomputable def Ah (ds:List L3.D):Res R:=@ite _ (Ml ds) (Classical.propDecidable _) (.ok (.val .bC true [])) .stuck
section
variable {X:Cx}{K:SG}{mg:Str->Option SI}{H H':Hp}{vs:List V}{Q:VK}{E E1:XK}
inductive A4:Sp
 |mk {H:Hp} {p q l:Addr} {ro:Int} {rest us:List V} {a b:V} {M:List Pz.Arr} {Q:VK} {E:XK} (hp:H p=some (.tup (.int ro::rest))) (hq:H q=some (.tup [a,.ref l,b])) (hl:Rd H l (.lst us)) (al:bc (IsArr H) M us) (zm:M.length<1000) (ge:∀ a∈M,ro<=a.2.2) (k:∀ H',Same H H'->Q (.bl true) H'):A4 [.ref p,.ref q] H Q E
theorem Ai (h:A4 vs H Q E):vs.length=2:=by cases h;rfl
def Lq (K:SG):TE:=aZ Ni (tI K 0 2) (tI K 1 0)
structure NY (X:Cx) (scope:Scope) (tg elt:Expr) (tN capN:List Str) (caps:List Nat):Prop where
 h:tN.length=1
 c:caps=[0]
 g:∀ cl C s3 H3 fp,PG (bw X scope (tN++capN) cl C s3 H3 fp) tg (aE 0)
 e:∀ cl C s3 H3 fp,PE (bw X scope (tN++capN) cl C s3 H3 fp) elt (Lq X.K)
def NB (X:Cx)(scope:Scope)(tg elt:Expr)(tN capN:List Str)(caps:List Nat):TS:=bU (gS (Iy X.K) (aj (mC X scope tg tN capN caps elt [] (cU X.K (tI X.K 1 1))) aG))
theorem Dh {scope:Scope}{tg elt:Expr}{tN capN:List Str}{caps:List Nat}(c:NY X scope tg elt tN capN caps)(h:A4 vs H Q E):NB X scope tg elt tN capN caps (eQ Q) (bj (nS 2) vs) H:=by
 obtain @⟨H,p,q,l,ro,rest,us,a,b,M,Q,E,hp,hq,hl,al,zm,ge,k⟩:=h;have ln:=al.len;refine Reads.ix (n:=1) (.va (i:=1) rfl) hq (v:=.ref l) (jo (j:=1) rfl) _ ⟨l,rfl,⟨_,.inl hl⟩,?_⟩;refine mR (n:=M.length) c.g (fun _ _ _ _ _=>lg) c.e (fun Dl i acc H'=>Same H H'/\H' Dl=some (.lst acc)/\acc=(List.replicate i true).map V.bl/\H Dl=none) (fun Dl hD=>⟨az hD,ao,rfl,hD⟩) (fun h=>h.2.1) (fun Dl i acc H' ⟨sm,_⟩ hi=>⟨us,us[i]'(by lia),.inl (bb sm hl),Ou _⟩) (fun Dl acc H' ⟨sm,_⟩=>⟨us,.inl (bb sm hl),by lia⟩) (fun Dl i acc H' xv H'' o hi ⟨sm,hD,ea,nD⟩ yy ho=>?_) fun Dl acc H' hD ⟨sm,hD',ea,_⟩=>⟨Dl,acc,_,rfl,SqL.of hD',ea,?_⟩
 .obtain⟨rfl,yy⟩:=yy;obtain⟨x,hx,b0,rfl,hb⟩:=al.get (yy _ (.inl (bb sm hl)));have hb:=sm _ _ hb;rw[c.h]at ho;obtain⟨u0,rfl⟩:=PP.mp ho;rw[c.c];refine⟨fun j hj=>?_,d8 (Reads.ix (n:=2) (.va (i:=0) rfl) hb (v:=.int x.2.2) rfl _ (Reads.ix (n:=0) (.va (i:=1) rfl) (sm _ _ hp) (v:=.int ro) (jo (j:=0) rfl) _ ⟨_,_,rfl,rfl,hD,xq (by rw[ea,Ot,RM];lia),fun c u e=>by rw[aA (aB e nD)];exact sm _ _ e,ao,?_,nD⟩))⟩
  .rw[c.h]at hj;obtain⟨j,rfl⟩:=Pf hj;rfl
  .show acc++[V.bl (decide (ro<=x.2.2))]=_;rw[OO (ge x (OU hx)),List.replicate_succ',O3,ea];rfl
 .rw[show(List.replicate M.length true).all id=true by rw[QQ];intro x hx;exact List.eq_of_mem_replicate hx];exact k H' sm
def Lr (E:XK):TS:=cI (sM (tB (bJ A4 [] E (aj (au 0) (aj (au 1) aG))))) IB bY
theorem Aj (h:y9 mg 2 Ah vs H Q E):Lr E1 (eQ Q) (bj (nS 2) vs) H:=by
 obtain⟨hl,ds,Ma,is,post⟩:=h;unfold Ah at post;by_cases c:Ml ds
 .rw[OK c]at post;obtain⟨ro,h1,h2,m0,m2,M,rfl,zm,ge⟩:=c;obtain⟨v0,r0,rfl,⟨p,ps,rfl,hp,w5,t5,rfl,j5,w6,t6,rfl,j6,w7,t7,rfl,j7,rfl⟩,v1,r1,rfl,⟨q,ws,rfl,hq,w0,t0,rfl,j0,w1,t1,rfl,⟨l,xs,rfl,hx,ex⟩,w2,t2,rfl,j2,rfl⟩,rfl⟩:=is;cases (show w5=.int ro from j5);exact⟨_,rfl,_,rfl,.mk hp hq (hx.imp (·.1) fun⟨o,h⟩=>⟨o,h.1⟩) (Dg ex) zm ge fun H' s=>⟨true,rfl,cM (post _ _ s rfl)⟩⟩
 .rw[OL c]at post;exact post.elim
theorem Ak {H:Hp}:∀{RL:List Pz.Rule}{ws:List V},bc (IsRule H) RL ws->IsAll H Tr (RL.map fJ) ws:=by
 intro RL ws h;induction h with
 |nil=>rfl
 |cons h _ ih=>exact⟨_,_,rfl,Iz h,ih⟩
theorem Di {H:Hp}:∀{M:List Pz.Arr}{ws:List V},bc (IsArr H) M ws->IsAll H Tr (M.map gV) ws:=by
 intro M ws h;induction h with
 |nil=>rfl
 |cons h _ ih=>exact⟨_,_,rfl,⟨_,_,h.choose_spec.1,h.choose_spec.2,_,_,rfl,rfl,_,_,rfl,rfl,_,_,rfl,rfl,rfl⟩,ih⟩
theorem IV {H:Hp}{q l:Addr}{ro sg:Int}{us:List V}{RL:List Pz.Rule}(hq:H q=some (.tup [.int ro,.int sg,.ref l]))(hl:H l=some (.lst us))(ir:bc (IsRule H) RL us):Is H Tr (ig ro sg RL) (.ref q):=⟨q,_,rfl,hq,_,_,rfl,rfl,_,_,rfl,rfl,_,_,rfl,⟨l,_,rfl,.inl ⟨hl,trivial⟩,Ak ir⟩,rfl⟩
end
section
variable {t:Pz.TD}{room:Int}{stk ends:List Int}
structure LL (r r':iV):Prop where
 k:∀ b,b∈r.ks↔b∈r'.ks
 s:∀ b∈r.ks,r.S b=r'.S b
theorem oo.det {P P':Int->Int->Pz.Arr->Prop}{r r':iV}(hP:∀ b n a,P b n a↔P' b n a)(h:oo P r.ks r.S r.A)(h':oo P' r'.ks r'.S r'.A):LL r r':=by
 have le:∀ b∈r.ks,b∈r'.ks/\r'.S b<=r.S b:=fun b hb=>by obtain⟨a,_,p⟩:=h.v b hb;exact h'.k b _ a ((hP _ _ _).mp p)
 have ge:∀ b∈r'.ks,b∈r.ks/\r.S b<=r'.S b:=fun b hb=>by obtain⟨a,_,p⟩:=h'.v b hb;exact h.k b _ a ((hP _ _ _).mpr p)
 refine⟨fun b=>⟨fun hb=>(le b hb).1,fun hb=>(ge b hb).1⟩,fun b hb=>?_⟩;have a1:=le b hb;have a2:=ge b a1.1;lia
theorem Dj {sign:Int}{r r':iV}(e:LL r r')(b n:Int)(a:Pz.Arr):GZ t sign r.S r.ks b n a↔GZ t sign r'.S r'.ks b n a:=by
 constructor
 .rintro⟨s,hs,p,h1,h2,h3⟩;exact⟨s,(e.k s).mp hs,p,h1,h2,by rw[h3,e.s s hs]⟩
 .rintro⟨s,hs,p,h1,h2,h3⟩;have hs':=(e.k s).mpr hs;exact⟨s,hs',p,h1,h2,by rw[h3,e.s s hs']⟩
theorem Al {L L':List iV}(n:L.length=stk.length+1)(n':L'.length=stk.length+1)(ok:jQ t room stk L)(ok':jQ t room stk L'):∀(j:Nat) r r',L[j]?=some r->L'[j]?=some r'->LL r r':=by
 intro j;induction j with
 |zero=>intro r r' h h';rw[ok.z]at h;rw[ok'.z]at h';obtain rfl:=OW h;obtain rfl:=OW h';exact⟨fun _=>Iff.rfl,fun _ _=>rfl⟩
 |succ j ih=>intro r r' h h';have hj:=(Ov.mp h).1;have h0:L[j]?=some L[j]:=Ou (by lia);have h0':L'[j]?=some L'[j]:=Ou (by lia);have hk:stk[j]?=some stk[j]:=Ou (by lia);exact(ok.s j _ r _ h0 h hk).det (Dj (ih _ _ h0 h0')) (ok'.s j _ r' _ h0' h' hk)
theorem fz.det {L L':List iV}{r r':iV}{o o':Option (Int×Int)}(h:fz t room stk ends L r o)(h':fz t room stk ends L' r' o'):Bi o=Bi o':=by
 obtain⟨n,ok,l,e⟩:=h;obtain⟨n',ok',l',e'⟩:=h';have d:=Al n n' ok ok' _ r r' l l';cases o with
 |none=>
  cases o' with
  |none=>rfl
  |some x=>obtain⟨v,e1⟩:=x;exact(e e1 e'.1 ((d.k _).mpr e'.2.1)).elim
 |some x=>
  obtain⟨v,e1⟩:=x;cases o' with
  |none=>exact(e' e1 e.1 ((d.k _).mp e.2.1)).elim
  |some y=>obtain⟨v',e2⟩:=y;obtain⟨h1,h2,h3,h4⟩:=e;obtain⟨g1,g2,g3,g4⟩:=e';have a1:=h4 e2 g1 ((d.k _).mpr g2);have a2:=g4 e1 h1 ((d.k _).mp h2);have a3:=d.s e1 h2;have a4:=d.s e2 ((d.k _).mpr g2);show V.int v=V.int v';rw[show v=v' by lia]
end
structure Gz (RL:List Pz.Rule) (M U:List Pz.Arr) (t:Pz.TD):Prop where
 g:Pz.Good RL M U t
 p:∀ r∈RL,r.2.2.2.length<=2
section
variable {RL:List Pz.Rule}{M U:List Pz.Arr}{t:Pz.TD}(A:Gz RL M U t)
include A
theorem Gz.tg {a:Pz.Arr}{v:Pz.mG}(h:(a,v)∈t):Pz.bM t a=some v:=Pz.jE A.g.nd h
theorem Gz.why {a:Pz.Arr}{v:Pz.mG}(h:(a,v)∈t):(v.2.1=none/\v.1=0/\a∈M)\/∃(j:Nat)(r:Pz.Rule)(ps:List Pz.Arr),v.2.1=some (j:Nat)/\RL[j]?=some r/\a.1=r.1/\a.2.1=r.2.1/\nI r v.2.2 a.2.2 ps/\eS t r.2.2.1 ps a.2.2 (v.1-1)/\ps.map (·.2.1)=r.2.2.2:=by
 have ju:=A.g.ju a v (A.tg h);obtain⟨a1,a2,a3⟩:=a;obtain⟨p,n,mid⟩:=v;cases n with
 |none=>exact .inl ⟨rfl,ju.2.1,ju.2.2⟩
 |some i=>
  obtain⟨j,r,rfl,hj,e1,e2,jp⟩:=ju;dsimp only at e1 e2 jp;have fin:∀ ps,nI r mid a3 ps->eS t r.2.2.1 ps a3 (p-1)->ps.map (·.2.1)=r.2.2.2->∃(j':Nat)(r:Pz.Rule)(ps:List Pz.Arr),some (j:Int)=some (j':Int)/\RL[j']?=some r/\a1=r.1/\a2=r.2.1/\nI r mid a3 ps/\eS t r.2.2.1 ps a3 (p-1)/\ps.map (·.2.1)=r.2.2.2:=fun ps h1 h2 h3=>⟨j,r,ps,rfl,hj,e1,e2,h1,h2,h3⟩;refine .inr ?_;generalize hp:r.2.2.2=put at jp;rw[hp]at fin
  match put,jp with
  | [],⟨e,q,e3⟩=>exact fin [] (.p0 hp) (by rw[q,e3];exact .nil) rfl
  | [x],⟨e,q,⟨w,s1,s2⟩,e3⟩=>refine fin [(r.2.2.1,x,a3)] (.p1 hp) ?_ rfl;have:=eS.cons (Pz.ff s1) (eS.nil (t:=t));rw[show p-1=w.1+0 by lia];exact this
  | [x,y],⟨d,q1,q2,e,⟨w1,s1,s2⟩,⟨w2,s3,s4⟩,e3⟩=>refine fin [(r.2.2.1,x,d),(d,y,a3)] (.p2 hp e) ?_ rfl;have:=eS.cons (Pz.ff s1) (eS.cons (Pz.ff s3) (eS.nil (t:=t)));rw[show p-1=w1.1+(w2.1+0) by lia];exact this
theorem Gz.pos {s e c:Int}{as:List Pz.Arr}(h:eS t s as e c):0<=c:=by
 induction h with
 |nil=>exact QX _
 |cons m _ ih=>have:=A.g.ps _ _ (A.tg m);lia
theorem Gz.al:∀(n k:Nat)(as:List Pz.Arr)(s e c:Int),c.toNat*2+as.length=n->eS t s as e c->(as.length=k->∃ ns m,iz RL t m as ns/\m<=c.toNat*2+as.length):=by
 intro n;induction n using Nat.strongRecOn with
 |ind n ih=>
  intro k as s e c hn h hk;have p0:=A.pos h;cases h with
  |nil=>exact⟨[],0,.nil,OP _⟩
  | @cons a v as e c m k1=>
   have pc:=A.pos k1;rw[OJ]at hn;rcases A.why m with⟨q1,q2,_⟩|⟨j,r,ps,h1,h2,h3,h4,h5,h6,h7⟩
   .rw[q2,RQ]at hn ⊢;obtain⟨ns,m',w,le⟩:=ih _ (by lia) _ as _ _ c rfl k1 rfl;exact⟨ns,m'+1,.none m q1 w,by rw[OJ];lia⟩
   .have pv:=A.pos h6;have ap:=h6.app (c:=[]) k1;have lp:ps.length<=2:=by have:=PJ List.length h7;rw[Ot]at this;rw[this];exact A.p r (OU h2)
    have ln:(ps++as).length=ps.length+as.length:=OF;obtain⟨ns,m',w,le⟩:=ih _ (by rw[ln];lia) _ (ps++as) _ _ (v.1-1+c) rfl ap rfl;exact⟨_,m'+1,.rule m h1 h2 h5 w,by rw[OJ];lia⟩
end
section
variable {RL:List Pz.Rule}{M U:List Pz.Arr}{t:Pz.TD}{ro sg:Int}{ge:List eV}
structure LM (RL:List Pz.Rule) (M U:List Pz.Arr) (t:Pz.TD) (ro sg:Int) (ge:List eV):Prop where
 a:Gz RL M U t
 m:∀ x,x∈M↔x∈NA ro sg ge
 r:∀ r∈RL,Ke ro sg r
variable (A:LM RL M U t ro sg ge)
include A
end
section
variable {t:Pz.TD}
theorem eS.nil_inv {s e c:Int}(h:eS t s [] e c):e=s/\c=0:=by cases h;exact⟨rfl,rfl⟩
theorem eS.cons_inv {s e c:Int}{a:Pz.Arr}{as:List Pz.Arr}(h:eS t s (a::as) e c):s=a.1/\∃ v c',(a,v)∈t/\eS t a.2.2 as e c'/\c=v.1+c':=by
 cases h with
 |cons m k=>exact⟨rfl,_,_,m,k,rfl⟩
theorem eS.split {s e c:Int}{as:List Pz.Arr}(h:eS t s as e c):∀ xs w,as.map (·.2.1)=xs++w->∃ p q d c1 c2,eS t s p d c1/\eS t d q e c2/\p.map (·.2.1)=xs/\q.map (·.2.1)=w/\c=c1+c2:=by
 induction h with
 | @nil s=>intro xs w e;obtain⟨rfl,rfl⟩:=List.append_eq_nil_iff.mp e.symm;exact⟨[],[],s,0,0,.nil,.nil,rfl,rfl,rfl⟩
 | @cons a v as e c m k ih=>
  intro xs w eq;cases xs with
  |nil=>exact⟨[],a::as,a.1,0,v.1+c,.nil,.cons m k,rfl,eq,by lia⟩
  |cons x xs=>rw[OE,List.cons_append]at eq;injection eq with e1 e2;obtain⟨p,q,d,c1,c2,h1,h2,h3,h4,h5⟩:=ih xs w e2;exact⟨a::p,q,d,v.1+c1,c2,.cons m h1,h2,by rw[OE,e1,h3],h4,by lia⟩
end
section
variable {RL:List Pz.Rule}{M U:List Pz.Arr}{t:Pz.TD}{ro sg:Int}{ge:List eV}(A:LM RL M U t ro sg ge)
include A
end
section
variable {t:Pz.TD}{room:Int}{stk:List Int}
theorem eS.snoc_inv {as:List Pz.Arr}:∀{s e c:Int}{a:Pz.Arr},eS t s (as++[a]) e c->∃ v c',eS t s as a.1 c'/\(a,v)∈t/\e=a.2.2/\c=c'+v.1:=by
 induction as with
 |nil=>intro s e c a h;obtain⟨es,v,c',m,k,rfl⟩:=h.cons_inv;obtain⟨rfl,rfl⟩:=k.nil_inv;exact⟨v,0,by rw[es];exact .nil,m,rfl,by lia⟩
 |cons b as ih=>intro s e c a h;obtain⟨es,v,c',m,k,rfl⟩:=h.cons_inv;obtain⟨v2,c2,k2,m2,e2,rfl⟩:=ih k;exact⟨v2,v.1+c2,by rw[es];exact .cons m k2,m2,e2,by lia⟩
theorem F0 {L:List iV}(n:L.length=stk.length+1)(ok:jQ t room stk L):∀(j:Nat) r as b c,L[j]?=some r->eS t room as b c->as.map (·.2.1)=stk.take j->b∈r.ks/\r.S b<=c:=by
 intro j;induction j with
 |zero=>intro r as b c h p e;rw[ok.z]at h;obtain rfl:=OW h;rw[List.take_zero]at e;obtain rfl:=Re.mp e;obtain⟨rfl,rfl⟩:=p.nil_inv;exact⟨OI.mpr rfl,QX _⟩
 |succ j ih=>
  intro r as b c h p e;have hj:=(Ov.mp h).1;have h0:L[j]?=some L[j]:=Ou (by lia);have hk:stk[j]?=some stk[j]:=Ou (by lia);rw[List.take_succ,hk,Option.toList_some]at e;rcases RP as with rfl|⟨as',a,rfl⟩
  .have:=PJ List.length e;rw[OF,QW,QJ,P7]at this;lia
  .rw[List.concat_eq_append]at e p;rw[O3,List.map_singleton]at e;obtain⟨e1,e2⟩:=List.append_inj' e rfl;have e2:a.2.1=stk[j]:=List.singleton_inj.mp e2;obtain⟨v,c',k,m,rfl,rfl⟩:=p.snoc_inv;obtain⟨i1,i2⟩:=ih _ as' a.1 c' h0 k e1;have M:=ok.s j L[j] r stk[j] h0 h hk;obtain⟨m1,m2⟩:=M.k a.2.2 (L[j].S a.1+v.1) a ⟨a.1,i1,v.1,mem_ldT.mpr ⟨by rw[e2],v,m,rfl⟩,rfl,rfl⟩;exact⟨m1,by lia⟩
end
section
variable {RL:List Pz.Rule}{M U:List Pz.Arr}{t:Pz.TD}{ro sg:Int}{ge:List eV}
variable (A:LM RL M U t ro sg ge)
include A
end
section
variable {X:Cx}{H:Hp}
def F1:R2:=fun x y H Q=>∃ l m m',Is H m (.lst l) x/\Is H m' (.lst l) y/\D.fA l<=49/\Q (.bl false) H
theorem Am (hu:X.A.units+64<cLine):iN X (compareOp .NotEq) F1:=by intro af s σ H x y v u Q I rx ry h;obtain⟨l,m,m',⟨a,vs,rfl,g,q⟩,⟨a',vs',rfl,g',q'⟩,hd,k⟩:=h;cases rx;cases ry;obtain⟨us,y,p⟩:=mB I.aX g;obtain⟨us',y',p'⟩:=mB I.aX g';obtain⟨e,z⟩:=jG (fun d hm v w' u u' i1 i2 r1 r2=>by obtain⟨j,hj⟩:=OS.mp hm;exact vB I.aX 49 X.A.in1 (by show X.A.units+1+49<cLine;lia) (OR (lb hj) hd) (by lia) i1 i2 r1 r2) q q' y y';have z:=SeqAt.RcNeAt.lists p p' (by rw[OA,OA,e]) (by lia) z;rw[vA]at z;exact z X.prog X.w X.xe _ ⟨.bl _,H,I,rfl,k⟩
end
end L4
namespace L2
open PySem PySem.Spec PyProof.Rows
def J8 (i:Nat)(ts:Addr->Addr->TS)(D:Ends)(σ:St)(C:Addr)(H1:Hp):Prop:=∀(x:Addr)(o:Obj),o.cls=.ref C->H1 x=none->ts C x { nx:=fun σ' H'=>D.nx (σ'.set i none) H',rt:=fun _ _=>False,bk:=fun _ _=>False,ct:=fun _ _=>False } (σ.set i (some (.ref x))) H1
def jh (X:Cx) (Ch Ch2:Addr) (i:Nat) (ts ts2:Addr->Addr->TS) (D:Ends) (σ:St):XK:=fun cls _ H1=>∃ C,cls=.ref C/\PySem.W.excIn X.K C iO "ValueError.__new__"=true/\(((fQ X.K C).contains (.ref Ch)=true/\J8 i ts D σ C H1)\/((fQ X.K C).contains (.ref Ch)=false/\(fQ X.K C).contains (.ref Ch2)=true/\J8 i ts2 D σ C H1))
section
variable {X:Cx}{hc hc2:Str}{Ch Ch2:Addr}{np hpos np2 hpos2 pos:Pos}{b₀ c₀:Stmt}{suite suite2:List Stmt}{ts ts2:Addr->Addr->TS}{j:Nat}{n:Str}
theorem An {af:List (Addr×Obj)}{σ:St}{D:Ends}{ev:SI}{s':SF}(hN:X.N.Nodup)(hi:X.N[j]?=some n)(hk:X.env.scope.names.lookup n=some .local)(hst:X.stack=X.env::X.outer)(hf:X.env.frame=some X.env.locals)(hx:XC X.K X.mg hc Ch)(hg:Gl X hc)(hx2:XC X.K X.mg hc2 Ch2)(hg2:Gl X hc2)
 (hs:∀ C x o,o.cls=.ref C->PySem.W.excIn X.K C iO "ValueError.__new__"=true->PSs (X.bO x o) (b₀::suite) (ts C x)) (hs2:∀ C x o,o.cls=.ref C->PySem.W.excIn X.K C iO "ValueError.__new__"=true->PSs (X.bO x o) (c₀::suite2) (ts2 C x))
 (h:∃ H1 s1,Inv X af σ H1 s1/\uP X.prog X.w X.stack H1 s1 (jh X Ch Ch2 j ts ts2 D σ) ev s') (hdb:autoParam (dB hc) SK._auto_1) (hdb2:autoParam (dB hc2) SK._auto_1) :
 wX X (noteFrame ev X.env) (fun _ s2=>wX X (setFlight ev none) (fun _ s3=>wX X (handleBy ev X.env [.ExceptHandler (some (.Name hc np)) (some n) (b₀::suite) hpos,.ExceptHandler (some (.Name hc2 np2)) (some n) (c₀::suite2) hpos2]) (SP X af D) X.xe s3) X.xe s2) X.xe s':=by
 obtain⟨H1,s1,I1,x,C,t,B,H',rfl,os,bare,un,aX,fly,qI,unt,inB,hxn,C0,ec,hex,hmr⟩:=h;cases ec;have fly':Heap.FlyingW B (X.env::X.outer) x (.ref C) (.ref t) s'.heap:=hst▸fly;have fr:X.A.frames=some (X.env::X.outer):=hst▸I1.ok.frames;refine wpAny_looks_onW fr hf fly' fun h4 held up4=>?_;refine wpAny_landsW held fun h5 fly5 up5=>?_;have up45:=up4.trans up5;have I5:Inv X af σ H' { s' with heap:=h5 }:=I1.landed (l:=[]) (g6:=#[]) os bare un aX fly qI unt inB fly5.1 up45;obtain⟨bm,em,hC⟩:=jw I5.iW hex;obtain⟨bm',em',hC'⟩:=jw I5.iW hx.ex;obtain⟨bm2,em2,hC2⟩:=jw I5.iW hx2.ex;obtain⟨oe,he,hcls⟩:=fly5.there;have fin:∀{d₀:Stmt}{sui:List Stmt}{tu:Addr->Addr->TS}{hp:Pos},(∀ C x o,o.cls=.ref C->PySem.W.excIn X.K C iO "ValueError.__new__"=true->PSs (X.bO x o) (d₀::sui) (tu C x))->J8 j tu D σ C H'->codeAny (model X.prog X.w) (X.A.mark (some (.ref x))) (.handlers (.ref x) [.ExceptHandler none (some n) (d₀::sui) hp] X.env) (fun r s₂=>match r with
  | .ok f=>wX X (do bindName X.env n .none;unbindBehindTheSuite X.env n hp) (fun _ s₃=>SP X af D f s₃) X.xe s₂
  | .error y=>cameBackBy (model X.prog X.w) X.A X.env X.xe y s₂) { s' with heap:=h5 }:=by
  intro d₀ sui tu hp hs q;refine codeAny_handlers_suite_as ?_;refine lands_againW fly5 fun h6 fly6 up6=>?_;have I6:Inv X af σ H' { s' with heap:=h6 }:=I1.landed (l:=[]) (g6:=#[]) os bare un aX fly qI unt inB fly6.1 (up45.trans up6);obtain⟨oe6,vs6,T6,oT6,ts6,he6,⟨hcl6,_⟩,hd6,_⟩:=fly6.2.2.2;have nfr:x∉(X.env::X.outer).filterMap (·.frame):=fun hm=>by obtain⟨_,o,ho,hnf⟩:=fly6.2.2.1.mem hm;rw[he6]at ho;cases ho;exact hnf vs6 hd6
  have nl:x≠X.env.locals:=fun z=>nfr (P3.mpr ⟨X.env,Ox ..,by rw[hf,z]⟩);have nf:x∉X.fs:=fun z=>by obtain⟨en,a,b⟩:=P3.mp z;exact nfr (P3.mpr ⟨en,Ow _ a,b⟩)
  have I7:Inv (X.bO x oe6) af σ H' { s' with heap:=h6 }:=I6.bO he6 hxn nl nf (fun v z=>by rw[hd6]at z;cases z);refine g5 (X:=X.bO x oe6) (v:=.ref x) I7 hN hi (.inl hk) rfl (fun s8 I8=>?_) (.inr hk);refine Ps (hs C x oe6 hcl6 hex af _ _ H' _ I8 (q x oe6 hcl6 hxn)) (fun f s7 h7=>?_) fun _ _ z=>False.elim z;cases f with
  |next=>obtain⟨σ',H2,J,q2⟩:=h7;exact Cs (J.xK I6.ok) hN hi hk fun s9 J9=>⟨_,H2,J9,q2⟩
  |brk=>obtain⟨_,_,_,z⟩:=h7;exact z.elim
  |cont=>obtain⟨_,_,_,z⟩:=h7;exact z.elim
  |ret u=>obtain⟨_,_,_,_,_,z⟩:=h7;exact z.elim
 refine wpAny_handleBy_cons (codeAny_handlers_test (fB (X:=X.caught x) (I5.caught x) hg hx.gl ?_ hdb)) (by intro z;cases z);refine i7 hC hC' he hcls ?_;rw[em]at hmr;rcases hmr with⟨hm,q⟩|⟨hm,hm2,q⟩
 .rw[hm];exact fin hs q
 .rw[hm];refine wpAny_handleBy_cons (codeAny_handlers_test (fB (X:=X.caught x) (I5.caught x) hg2 hx2.gl ?_ hdb2)) (by intro z;cases z);refine i7 hC hC2 he hcls ?_;rw[hm2];exact fin hs2 q
theorem Ao {i:Nat}{y:Str}{c e1 e2:Expr}{p1 p2 q1 q2 ip:Pos}{tc:TT}{te1 te2:TX}(hN:X.N.Nodup)(hi:X.N[i]?=some y)(hy:GW X.env.scope y)(hj:X.N[j]?=some n)(hk:X.env.scope.names.lookup n=some .local)(hst:X.stack=X.env::X.outer)(hf:X.env.frame=some X.env.locals)(hx:XC X.K X.mg hc Ch)(hg:Gl X hc)(hx2:XC X.K X.mg hc2 Ch2)(hg2:Gl X hc2)(hcn:PT { X with xe:=fun _ _=>False } c tc)(he1:Ks X e1 te1)(he2:Ks X e2 te2)
 (hs:∀ C x o,o.cls=.ref C->PySem.W.excIn X.K C iO "ValueError.__new__"=true->PSs (X.bO x o) (b₀::suite) (ts C x)) (hs2:∀ C x o,o.cls=.ref C->PySem.W.excIn X.K C iO "ValueError.__new__"=true->PSs (X.bO x o) (c₀::suite2) (ts2 C x))
 (hsw1:autoParam (swapsWith e1 (some (.Name y p1)) q1.line X.env=pure false) SQ._auto_1) (hsw2:autoParam (swapsWith e2 (some (.Name y p2)) q2.line X.env=pure false) SQ._auto_1) (hdb:autoParam (dB hc) SK._auto_1) (hdb2:autoParam (dB hc2) SK._auto_1) (hfn:autoParam (X.fn y=true\/X.env.scope.names.lookup y=some .local) SL._auto_1) :
 PS X (.Try [.If c [.Assign [.Name y p1] e1 q1] [.Assign [.Name y p2] e2 q2] ip] [.ExceptHandler (some (.Name hc np)) (some n) (b₀::suite) hpos,.ExceptHandler (some (.Name hc2 np2)) (some n) (c₀::suite2) hpos2] [] [] pos) (fun D σ H=>tc σ H fun b H1=>if b=true then te1 σ H1 (fun v H2=>D.nx (σ.set i (some v)) H2) (jh X Ch Ch2 j ts ts2 D σ) else te2 σ H1 (fun v H2=>D.nx (σ.set i (some v)) H2) (jh X Ch Ch2 j ts ts2 D σ)):=by
 intro af s σ H D I h;refine wpAny_Try_except ?_;refine Ra (wpAny_If (Ps (hcn af s σ H (fun b H1=>if b=true then te1 σ H1 (fun v H2=>D.nx (σ.set i (some v)) H2) (jh X Ch Ch2 j ts ts2 D σ) else te2 σ H1 (fun v H2=>D.nx (σ.set i (some v)) H2) (jh X Ch Ch2 j ts ts2 D σ)) (I.xe _) h) (fun b s1 hh=>?_) fun _ _ z=>False.elim z));obtain⟨H1,I1,k1⟩:=hh;have I1:=I1.LQ;have ex:∀{ev:SI}{s':SF},(∃ H1 s1,Inv X af σ H1 s1/\uP X.prog X.w X.stack H1 s1 (jh X Ch Ch2 j ts ts2 D σ) ev s')->_:=fun{ev s'} z=>An (np:=np) (np2:=np2) (hpos:=hpos) (hpos2:=hpos2) (ev:=ev) (s':=s') hN hj hk hst hf hx hg hx2 hg2 hs hs2 z hdb hdb2;cases b with
 |true=>
  refine Ra (wpAny_Assign_Name (Ps (he1 af s1 σ H1 _ _ I1 k1) (fun v s2 ⟨z,H2,I2,r2,q2⟩=>?_) fun ev s' z=>?_) hsw1)
  .exact g5 I2 hN hi hy r2 (fun s3 I3=>P0 (P0 (P0 ⟨_,H2,I3,q2⟩))) hfn
  .exact ex z
 |false=>
  refine Ra (wpAny_Assign_Name (Ps (he2 af s1 σ H1 _ _ I1 k1) (fun v s2 ⟨z,H2,I2,r2,q2⟩=>?_) fun ev s' z=>?_) hsw2)
  .exact g5 I2 hN hi hy r2 (fun s3 I3=>P0 (P0 (P0 ⟨_,H2,I3,q2⟩))) hfn
  .exact ex z
end
end L2
namespace L4
open PySem PySem.Spec PyProof.Rows L2 L3
def Eb:List V->Hp->VK->Prop:=fun xs H Q=>∃ i j,xs=[.int i,.int j]/\BP i j/\∀ p,H p=none->Q (.ref p) (upd H p (.tup [.int (i / j),.int (i % j)]))
theorem cW {X:Cx}:bQ X (.builtin "divmod") Eb:=qN
def Ec (K:SG):List V->Hp->VK->Prop:=fun xs H Q=>∃ p ys,xs=[.ref p]/\((SqL K H p ys/\∀ l,H l=none->Q (.ref l) (upd H l (.tup ys)))\/(SqT K H p ys/\Q (.ref p) H))
theorem xC {X:Cx}:bQ X (.type "tuple") (Ec X.K):=nN
def Ed:R2:=rI Hj fun i j=>.int (i ^ j.toNat)
section
variable {K:SG}{H H':Hp}{D:Ends}{σ:L2.St}{vs ws:List V}{Q:VK}{E:XK}{ro sg own:Int}
def Dk (K:SG)(ta tb:TE)(a b:Nat):TS:=bh (gS Eb (aj ta (aj tb aG))) (dQ K 2 (be (aE a) (be (aE b) dP)))
theorem kJ {ta tb:TE}{a b:Nat}{x y:Int}(ha:Reads ta σ H (.int x))(hb:Reads tb σ H (.int y))(hy:0<y/\y<1073741824)(k:∀ H',Same H H'->D.nx ((σ.set a (some (.int (x / y)))).set b (some (.int (x % y)))) H'):Dk K ta tb a b D σ H:=ha _ (hb _ ⟨x,y,rfl,hy,fun p hp=>ua ao (k _ (az hp))⟩)
inductive AU:Sp
 |mk {H:Hp} {c ro sg:Int} {Q:VK} {E:XK} (hr:0<ro) (hs:0<sg) (k:∀ v r H',Same H H'->IsRule H' r v->Ke ro sg r->Q v H'):AU [.int c,.int ro,.int sg] H Q E
theorem Ap (h:AU vs H Q E):vs.length=3:=by cases h;rfl
def Ls (K:SG):TS:=bU (cf (aj (aZ bP (au 5) (au 1)) (aj (aZ bP (au 6) (au 2)) (aj (aZ bP (au 7) (au 1)) (aj (gS (Ec K) (aj (EG (sZ K) (au 9) jm (jn (au 4))) aG)) aG)))))
def F2 (K:SG):TS:=aP (bh (cJ (aj (aZ bP (au 8) (au 2)) (aj (aZ bP (au 3) (au 2)) aG))) (aE 9)) (Ls K)
def NC (K:SG):TS:=aP (bh (aZ bP (aZ jH (au 0) (tC (.int 48271))) (tC (.int 2147483647))) (aE 3)) (aP (Dk K (au 3) (tC (.int 3)) 3 4) (aP (Dk K (au 3) (tC (.int 6)) 3 5) (aP (Dk K (au 3) (tC (.int 60)) 3 6) (aP (Dk K (au 3) (tC (.int 6)) 3 7) (aP (Dk K (au 3) (tC (.int 60)) 3 8) (F2 K))))))
theorem Dm (h:AU vs H Q E):NC K (eQ Q) (bj (nS 10) vs) H:=by
 obtain @⟨H,c,ro,sg,Q,E,hr,hs,k⟩:=h;refine ii (.mod (.mul (.va rfl) .k (by decide)) .k (by decide)) ?_;generalize c*48271 % 2147483647=n0;have k3:=em (a:=n0) (b:=3) (by decide);refine kJ (.va rfl) .k ⟨by decide,by decide⟩ fun H1 s1=>kJ (.va rfl) .k ⟨by decide,by decide⟩ fun H2 s2=>kJ (.va rfl) .k ⟨by decide,by decide⟩ fun H3 s3=>kJ (.va rfl) .k ⟨by decide,by decide⟩ fun H4 s4=>kJ (.va rfl) .k ⟨by decide,by decide⟩ fun H5 s5=>?_;have s15:=(((s1.trans s2).trans s3).trans s4).trans s5;generalize n0 % 3=kd at k3;generalize n0 / 3=n1;generalize n1 % 6=r0;generalize n1 / 6=n2;generalize n2 % 60=g0;generalize n2 / 60=n3;generalize n3 % 6=t0;generalize n3 / 6=n4;generalize n4 % 60=o0;generalize n4 / 60=n5;have e1:=em (a:=o0) hs;have e2:=em (a:=n5) hs;have e3:=em (a:=r0) hr;have e4:=em (a:=g0) hs;have e5:=em (a:=t0) hr;show F2 K _ [some (.int c),some (.int ro),some (.int sg),some (.int n5),some (.int kd),some (.int r0),some (.int g0),some (.int t0),some (.int o0),none] H5
 delta F2 aP bh cJ
 refine(ReadsA.c (.mod (.va (i:=8) rfl) (.va (i:=2) rfl) hs) (.c (.mod (.va (i:=3) rfl) (.va (i:=2) rfl) hs) .ni):ReadsA (aj (aZ bP (au 8) (au 2)) (aj (aZ bP (au 3) (au 2)) aG)) [some (.int c),some (.int ro),some (.int sg),some (.int n5),some (.int kd),some (.int r0),some (.int g0),some (.int t0),some (.int o0),none] H5 [.int (o0 % sg),.int (n5 % sg)]) _ ⟨by show 2<=_;rw[OG];lia,fun l hl=>?_⟩;generalize o0 % sg=q1 at e1 hl;generalize n5 % sg=q2 at e2 hl;have t1:=az (o:=.lst [.int q1,.int q2]) hl;have c1:upd H5 l (.lst [.int q1,.int q2]) l=some (.lst ([q1,q2].map .int)):=ao;generalize upd H5 l (.lst [.int q1,.int q2])=H6 at t1 c1;refine Reads.mod (.va (i:=5) rfl) (.va (i:=1) rfl) hr _ (Reads.mod (.va (i:=6) rfl) (.va (i:=2) rfl) hs _ (Reads.mod (.va (i:=7) rfl) (.va (i:=1) rfl) hr _ ⟨_,rfl,_,rfl,_,rfl,l,_,rfl,SqL.of c1,fun l2 hl2=>?_⟩));obtain⟨n,rfl⟩:=Pu k3.1;rw[o7,<- List.map_take];have t2:=az (o:=.lst (([q1,q2].take n).map .int)) hl2;have c2:upd H6 l2 (.lst (([q1,q2].take n).map .int)) l2=some (.lst (([q1,q2].take n).map .int)):=ao;have lp:([q1,q2].take n).length<=2:=by rw[Py];exact Nat.min_le_right _ _
 have mp:∀ x∈[q1,q2].take n,0<=x/\x<sg:=fun x hx=>by
  have:=P9 hx;simp only[OC,OH,Sv]at this;rcases this with rfl|rfl
  .exact e1
  .exact e2
 generalize [q1,q2].take n=put at t2 c2 lp mp;generalize upd H6 l2 (.lst (put.map .int))=H7 at t2 c2;refine⟨l2,_,rfl,.inl ⟨SqL.of c2,fun q hq=>⟨by show 4<=_;rw[OG];lia,fun p hp=>?_⟩⟩⟩;have t3:=az (o:=.tup (put.map .int)) hq;have c3:upd H7 q (.tup (put.map .int)) q=some (.tup (put.map .int)):=ao;generalize upd H7 q (.tup (put.map .int))=H8 at t3 c3 hp;have t4:=az (o:=.tup [.int (r0 % ro),.int (g0 % sg),.int (t0 % ro),.ref q]) hp;exact k (.ref p) (r0 % ro,g0 % sg,t0 % ro,put) _ ((((s15.trans t1).trans t2).trans t3).trans t4) ⟨p,q,rfl,ao,t4 _ _ c3⟩ ⟨e3,e4,e5,lp,mp⟩
structure MB (ro own sg:Int) (x:Pz.Arr):Prop where
 a:0<=x.1/\x.1<ro+own
 s:0<=x.2.1/\x.2.1<sg
 t:ro<=x.2.2/\x.2.2<ro+own
inductive A_:Sp
 |mk {H:Hp} {c ro own sg:Int} {Q:VK} {E:XK} (hr:0<ro) (ho:0<own) (hs:0<sg) (k:∀ v x H',Same H H'->IsArr H' x v->MB ro own sg x->Q v H'):A_ [.int c,.int ro,.int own,.int sg] H Q E
theorem Aq (h:A_ vs H Q E):vs.length=4:=by cases h;rfl
def IW:TS:=bU (cf (aj (aZ bP (au 5) (aZ cA (au 1) (au 2))) (aj (aZ bP (au 6) (au 3)) (aj (aZ cA (au 1) (aZ bP (au 4) (au 2))) aG))))
def ND (K:SG):TS:=aP (bh (aZ bP (aZ jH (au 0) (tC (.int 69621))) (tC (.int 2147483629))) (aE 4)) (aP (Dk K (au 4) (tC (.int 60)) 4 5) (aP (Dk K (au 4) (tC (.int 60)) 4 6) IW))
theorem Dn (h:A_ vs H Q E):ND K (eQ Q) (bj (nS 7) vs) H:=by
 obtain @⟨H,c,ro,own,sg,Q,E,hr,ho,hs,k⟩:=h;refine ii (.mod (.mul (.va rfl) .k (by decide)) .k (by decide)) ?_;generalize c*69621 % 2147483629=n0;refine kJ (.va rfl) .k ⟨by decide,by decide⟩ fun H1 s1=>kJ (.va rfl) .k ⟨by decide,by decide⟩ fun H2 s2=>?_;generalize n0 % 60=a0;generalize n0 / 60=n1;generalize n1 % 60=g0;generalize n1 / 60=n2;have hro:0<ro+own:=by lia
 have e1:=em (a:=a0) hro;have e2:=em (a:=g0) hs;have e3:=em (a:=n2) ho;show IW _ [some (.int c),some (.int ro),some (.int own),some (.int sg),some (.int n2),some (.int a0),some (.int g0)] H2;refine jg (σ:=[some (.int c),some (.int ro),some (.int own),some (.int sg),some (.int n2),some (.int a0),some (.int g0)]) (ws:=[.int (a0 % (ro+own)),.int (g0 % sg),.int (ro+n2 % own)]) (.c (.mod (.va (i:=5) rfl) (.ad (.va (i:=1) rfl) (.va (i:=2) rfl)) hro) (.c (.mod (.va (i:=6) rfl) (.va (i:=3) rfl) hs) (.c (.ad (.va (i:=1) rfl) (.mod (.va (i:=4) rfl) (.va (i:=2) rfl) ho)) .ni))) rfl fun p hp=>?_;have t1:=az (o:=.tup [.int (a0 % (ro+own)),.int (g0 % sg),.int (ro+n2 % own)]) hp;exact k (.ref p) (a0 % (ro+own),g0 % sg,ro+n2 % own) _ ((s1.trans s2).trans t1) ⟨p,rfl,ao⟩ ⟨e1,e2,by show ro<=ro+_/\ro+_<_;lia⟩
inductive AS:Sp
 |mk {H:Hp} {c n sg:Int} {Q:VK} {E:XK} (hc:0<=c/\c<4294967296) (hn:0<=n/\n<=90) (hs:0<sg/\sg<=100) (k:∀ l (stk:List Int) H',Same H H'->H' l=some (.lst (stk.map .int))->stk.length<=90->(∀ x∈stk,0<=x/\x<sg)->Q (.ref l) H'):AS [.int c,.int n,.int sg] H Q E
theorem Ar (h:AS vs H Q E):vs.length=3:=by cases h;rfl
def Lu (K:SG):TS:=cw (xS K "list" dD (au 3) (aj (aZ bP (aZ cA (au 6) (aZ jH (aZ jH (au 5) (au 5)) (aZ fh (au 1) (tC (.int 30))))) (au 2)) aG))
def Lw (K:SG):TS:=aP (Dk K (au 4) (au 2) 4 6) (Lu K)
def NE (K:SG):TS:=aP (bh (cJ aG) (aE 3)) (aP (bh (aZ jH (aZ bP (au 0) (aZ Ed (tC (.int 10)) (tC (.int 20)))) (aZ Ed (tC (.int 1000003)) (tC (.int 4)))) (aE 4)) (aP (f6 (uF (aj (au 1) aG)) (aE 5) (Lw K)) (bU (au 3))))
inductive MQ (c n sg:Int) (l:Addr) (H1:Hp) (i:Nat):L2.St->Hp->Prop
 |mk {H':Hp} {num:Int} {stk:List Int} {x5 x6:Option V}:Same H1 H'->H' l=some (.lst (stk.map .int))->stk.length=i->(∀ x∈stk,0<=x/\x<sg)->MQ c n sg l H1 i [some (.int c),some (.int n),some (.int sg),some (.ref l),some (.int num),x5,x6] H'
theorem Do (h:AS vs H Q E):NE K (eQ Q) (bj (nS 7) vs) H:=by
 obtain @⟨H,c,n,sg,Q,E,hc,hn,hs,k⟩:=h;refine⟨OP _,fun l hl=>?_⟩;have m0:0<=c % 100000000000000000000/\c % 100000000000000000000<2 ^ 64:=by lia
 refine⟨_,rfl,⟨10,20,rfl,rfl,⟨by decide,by decide,by decide⟩,?_⟩⟩;refine⟨c,10 ^ (20:Int).toNat,rfl,rfl,by show(0:Int)<10 ^ (20:Int).toNat;decide,⟨1000003,4,rfl,rfl,⟨by decide,by decide,by decide⟩,?_⟩⟩;refine⟨_,_,rfl,rfl,.inl ⟨by have:c % 10 ^ (20:Int).toNat=c % 100000000000000000000:=rfl;rw[this];lia,by have:c % 10 ^ (20:Int).toNat=c % 100000000000000000000:=rfl;rw[this];exact m0.2⟩,?_⟩;generalize c % 10 ^ (20:Int).toNat*1000003 ^ (4:Int).toNat=num;refine⟨_,rfl,_,rfl,by lia,by lia,?_⟩;refine qe (n:=n.toNat) (MQ c n sg l H) (.mk (stk:=[]) (az hl) ao rfl (fun _ h=>nomatch h)) (fun i σ' H' p hi=>hi) (fun σ' H' p=>Oq _) (fun i σ' H' x H'' D' hi p y k'=>?_) fun σ' H' p=>?_
 .obtain @⟨H',num,stk,x5,x6,s,hl',ln,hb⟩:=p;obtain⟨rfl,rfl⟩:=y;rw[RQ];refine kJ (.va rfl) (.va (i:=2) rfl) ⟨hs.1,by lia⟩ fun H3 s3=>?_;have hl3:=s3 _ _ hl';generalize num % sg=g0;generalize num / sg=n2;have nz:n / 30<=90:=by lia
  have nz0:0<=n / 30:=by lia
  refine⟨_,rfl,.inl ⟨rfl,_,SqL.of hl3⟩,Reads.mod (.ad (.va (i:=6) rfl) (.mul (.mul (.va (i:=5) rfl) (.va (v:=.int (i:Nat)) rfl) ⟨by lia,by lia⟩) (.dv (.va (i:=1) rfl) .k ⟨by decide,by decide⟩) ⟨by lia,by lia⟩)) (.va (i:=2) rfl) hs.1 _ ⟨l,_,_,rfl,rfl,hl3,xq (by rw[Ot];lia),k' _ _ (.mk (stk:=stk++[_]) (fun c u e=>?_) (by rw[ao,O3];rfl) (by rw[OF,ln];rfl) fun x hx=>?_)⟩⟩
  .rw[aA (aB e hl)];exact s3 _ _ (s _ _ e)
  .rcases OX.mp hx with hx|hx
   .exact hb x hx
   .rw[OI.mp hx];exact em hs.1
 .obtain @⟨H',num,stk,x5,x6,s,hl',ln,hb⟩:=p;exact⟨_,rfl,k l stk H' s hl' (by lia) hb⟩
inductive Ba:Sp
 |mk {H:Hp} {c ro sg:Int} {Q:VK} {E:XK} (hc:0<=c/\c<4294967296) (hr:0<ro) (hs:0<sg/\sg<=100) (k:∀ p l room (stk:List Int) H',Same H H'->H' p=some (.tup [.int room,.ref l])->H' l=some (.lst (stk.map .int))->0<=room/\room<ro->stk.length<=90->(∀ x∈stk,0<=x/\x<sg)->Q (.ref p) H'):Ba [.int c,.int ro,.int sg] H Q E
theorem Au (h:Ba vs H Q E):vs.length=3:=by cases h;rfl
def IX:TS:=bU (cf (aj (aZ bP (aZ bP (au 0) (tC (.int 6))) (au 1)) (aj (bJ AS [] E0 (aj (aZ fh (au 0) (tC (.int 288))) (aj (au 3) (aj (au 2) aG)))) aG)))
def NF:TS:=aP (bh (aZ bP (aZ fh (au 0) (tC (.int 6))) (tC (.int 6))) (aE 3)) (aP (cI (br (aZ ou (aZ bP (aZ fh (au 0) (tC (.int 36))) (tC (.int 8))) (tC (.int 5)))) (bh (aZ cA (tC (.int 30)) (aZ bP (aZ fh (au 0) (tC (.int 288))) (tC (.int 61)))) (aE 3)) bY) IX)
theorem Mm {c ro sg n:Int}(hc:0<=c/\c<4294967296)(hr:0<ro)(hs:0<sg/\sg<=100)(hn:0<=n/\n<=90)(k:∀ p l room (stk:List Int) H',Same H H'->H' p=some (.tup [.int room,.ref l])->H' l=some (.lst (stk.map .int))->0<=room/\room<ro->stk.length<=90->(∀ x∈stk,0<=x/\x<sg)->Q (.ref p) H'):IX (eQ Q) [some (.int c),some (.int ro),some (.int sg),some (.int n)] H:=by refine Reads.mod (.mod (.va (i:=0) rfl) .k (by decide)) (.va (i:=1) rfl) hr _ (Reads.dv (.va (i:=0) rfl) .k ⟨by decide,by decide⟩ _ ⟨_,rfl,_,rfl,.mk ⟨by lia,by lia⟩ hn hs fun l stk H1 s1 hl z b=>⟨by show 2<=_;rw[OG];lia,fun p hp=>?_⟩⟩);have t1:=az (o:=.tup [.int (c % 6 % ro),.ref l]) hp;exact k p l _ stk _ (s1.trans t1) ao (t1 _ _ hl) (em hr) z b
theorem Dq (h:Ba vs H Q E):NF (eQ Q) (bj (nS 4) vs) H:=by obtain @⟨H,c,ro,sg,Q,E,hc,hr,hs,k⟩:=h;have h6:=em (a:=c / 6) (b:=6) (by decide);have h61:=em (a:=c / 288) (b:=61) (by decide);refine ii (.mod (.dv (.va rfl) .k ⟨by decide,by decide⟩) .k (by decide)) (fI (.AO (.mod (.dv (.va rfl) .k ⟨by decide,by decide⟩) .k (by decide)) .k) (fun _=>?_) fun _=>Mm hc hr hs ⟨by lia,by lia⟩ k);exact ii (.ad .k (.mod (.dv (.va rfl) .k ⟨by decide,by decide⟩) .k (by decide))) (Mm hc hr hs ⟨by lia,by lia⟩ k)
end
section
variable {X:Cx}{σ:L2.St}{scope:Scope}{tg elt:Expr}{tN capN:List Str}{caps:List Nat}{ifs:List Expr}{H H1:Hp}{Fin:Addr->List V->Hp->Prop}{J:L2.It}{gt:TG}{te:TE}{tt:TT}{Q:VK}
theorem IY {α:Type}{R:Hp->α->V->Prop}(P:α->Prop)(n:Nat)(hz:n<1000)(hg:∀ cl C s3 H3 fp,PG (bw X scope (tN++capN) cl C s3 H3 fp) tg gt)(he:∀ cl C s3 H3 fp,PE (bw X scope (tN++capN) cl C s3 H3 fp) elt te)(mono:∀{H H':Hp},KT H H'->∀ a v,R H a v->R H' a v)
 (go:∀ i H',Same H1 H'->i<n->J.go i H') (st:∀ H',Same H1 H'->J.stop n H') (hb:∀ i H' x H'' o,i<n->Same H1 H'->J.vM i H' x H''->o.length=tN.length->H''=H'/\∃ σ2,(∀ Q:L2.St->Hp->Prop,Q σ2 H''->gt x (o++iP σ caps) H'' Q)/\(∀ j:Nat,tN.length<=j->σ2[j]?=(o++iP σ caps)[j]?)/\∀ Q:VK,(∀ v a H3,Same H'' H3->R H3 a v->P a->Q v H3)->te σ2 H'' Q)
 (k:∀ Dl vs as H',H1 Dl=none->Same H1 H'->H' Dl=some (.lst vs)->bc (R H') as vs->(∀ a∈as,P a)->as.length=n->Fin Dl vs H'):cY X scope tg tN capN caps elt [] σ Fin J H1:=by
 refine mR (n:=n) hg (fun _ _ _ _ _=>lg) he (fun Dl i acc H'=>Same H1 H'/\H' Dl=some (.lst acc)/\(∃ as,bc (R H') as acc/\(∀ a∈as,P a)/\as.length=i)/\H1 Dl=none) (fun Dl hD=>⟨az hD,ao,⟨[],.nil,(fun _ h=>nomatch h),rfl⟩,hD⟩) (fun h=>h.2.1) (fun Dl i acc H' ⟨sm,_⟩ hi=>go i H' sm hi) (fun Dl acc H' ⟨sm,_⟩=>st H' sm) (fun Dl i acc H' xv H'' o hi ⟨sm,hD,⟨as,a2,pa,la⟩,nD⟩ yy ho=>?_) fun Dl acc H' hD ⟨sm,hD',⟨as,a2,pa,la⟩,_⟩=>k Dl acc as H' hD sm hD' a2 pa la;obtain⟨rfl,σ2,g1,g2,g3⟩:=hb i H' xv H'' o hi sm yy ho;refine g1 _ ⟨g2,d8 (g3 _ fun v a H3 s3 r3 p3=>?_)⟩;have hD3:=s3 _ _ hD;have kt:KT H3 (upd H3 Dl (.lst (acc++[v]))):=.upd hD3 fun _ z=>(nomatch z);have ln:=a2.len;refine⟨hD3,xq (by lia),fun c u e=>by rw[aA (aB e nD)];exact s3 _ _ (sm _ _ e),ao,⟨as++[a],(a2.mono (mono ((KT.of s3).trans kt))).snoc (mono kt _ _ r3),fun x hx=>?_,by rw[OF,la];rfl⟩,nD⟩;rcases OX.mp hx with hx|hx
 .exact pa x hx
 .rw[OI.mp hx];exact p3
theorem F3 {α:Type}(L:List α)(p:α->Bool)(f:α->Int)(hz:L.length<1000)(hg:∀ cl C s3 H3 fp,PG (bw X scope (tN++capN) cl C s3 H3 fp) tg gt)(ht:∀ cl C s3 H3 fp,Bg (bw X scope (tN++capN) cl C s3 H3 fp) ifs tt)(he:∀ cl C s3 H3 fp,PE (bw X scope (tN++capN) cl C s3 H3 fp) elt te)
 (go:∀ i H',Same H1 H'->i<L.length->J.go i H') (st:∀ H',Same H1 H'->J.stop L.length H') (hb:∀ i H' x H'' o a,L[i]?=some a->Same H1 H'->J.vM i H' x H''->o.length=tN.length->H''=H'/\∃ σ2,(∀ Q:L2.St->Hp->Prop,Q σ2 H''->gt x (o++iP σ caps) H'' Q)/\(∀ j:Nat,tN.length<=j->σ2[j]?=(o++iP σ caps)[j]?)/\(∀ Q:Bool->Hp->Prop,Q (p a) H''->tt σ2 H'' Q)/\Reads te σ2 H'' (.int (f a)))
 (k:∀ Dl H',H1 Dl=none->Same H1 H'->H' Dl=some (.lst (((L.filter p).map f).map .int))->Fin Dl (((L.filter p).map f).map .int) H'):cY X scope tg tN capN caps elt ifs σ Fin J H1:=by
 refine mR (n:=L.length) hg ht he (fun Dl i acc H'=>Same H1 H'/\H' Dl=some (.lst acc)/\acc=(((L.take i).filter p).map f).map .int/\H1 Dl=none) (fun Dl hD=>⟨az hD,ao,rfl,hD⟩) (fun h=>h.2.1) (fun Dl i acc H' ⟨sm,_⟩ hi=>go i H' sm hi) (fun Dl acc H' ⟨sm,_⟩=>st H' sm) (fun Dl i acc H' xv H'' o hi ⟨sm,hD,ea,nD⟩ yy ho=>?_) fun Dl acc H' hD ⟨sm,hD',ea,_⟩=>?_
 .have hx:=Ou hi;obtain⟨rfl,σ2,g1,g2,g3,g4⟩:=hb i H' xv H'' o _ hx sm yy ho;refine g1 _ ⟨g2,g3 _ ?_⟩;have et:L.take (i+1)=L.take i++[L[i]]:=by rw[Pi,hx];rfl
  have lf:(((L.take i).filter p).map f).length<=i:=by rw[Ot];exact OR (Qi _ _) (List.length_take_le i L)
  cases hp:p L[i] with
  |true=>refine d8 (g4 _ ⟨hD,xq (by rw[ea,Ot];lia),fun c u e=>by rw[aA (aB e nD)];exact sm _ _ e,ao,?_,nD⟩);rw[et,QB,QO hp,ea,O3,O3];rfl
  |false=>refine cM ⟨sm,hD,?_,nD⟩;rw[et,QB,QN (by rw[hp];decide),ea,List.filter_nil,Rn]
 .rw[PV]at ea;subst ea;exact k Dl H' hD sm hD'
def F4 (X:Cx):List V->Hp->VK->Prop:=fun xs H Q=>∃(l:Addr)(vs:List V)(its:List gf),xs=[.ref l]/\Rd H l (.lst vs)/\TupsIn H vs its/\its.length<=63/\(∀ x∈its,x.1≠[])/\(its.map (·.1)).Nodup/\
 ∀(l':Addr)(ys:List gf),H l'=none->ys.Perm its->ys.Pairwise (fun x y=>dk x.1 y.1=true)->Q (.ref l') (upd H l' (.lst (ys.map fun y=>.ref y.2)))
theorem Av:bQ X (.builtin "sorted") (F4 X):=nU (by decide) u_
theorem F5 {l:Addr}{vs:List V}{hs:List Pz.Arr}(hl:Rd H l (.lst vs))(a:bc (IsArr H) hs vs)(nd:hs.Nodup)(hz:hs.length<=63)(k:∀ l' ms ws H',Same H H'->H' l'=some (.lst ws)->bc (IsArr H') ms ws->(∀ x,x∈ms↔x∈hs)->ms.length=hs.length->Q (.ref l') H'):F4 X [.ref l] H Q:=by
 obtain⟨its,t1,t2⟩:=vD a;have tat:=oU t1;have li:its.length=hs.length:=by have:=PJ List.length t2;rwa [Ot,Ot]at this
 have mem:∀ x∈its,∃ y∈hs,x.1=aL y:=fun x hx=>by
  have:x.1∈hs.map aL:=by rw[<- t2];exact OB.mpr ⟨x,hx,rfl⟩
  obtain⟨y,hy,e⟩:=OB.mp this;exact⟨y,hy,e.symm⟩
 refine⟨l,vs,its,rfl,hl,t1,by lia,fun x hx z=>?_,by rw[t2];exact PD.mpr (nd.imp fun h e=>h (mT e)),fun l' ys hl' pm pw9=>?_⟩
 .obtain⟨y,_,e⟩:=mem x hx;rw[z]at e;cases e
 have s1:=az (o:=.lst (ys.map fun y=>.ref y.2)) hl';have ysm:∀ y∈ys,y∈its:=fun y hy=>pm.subset hy;have ex:∃ ms:List Pz.Arr,ms.map aL=ys.map (·.1)/\bc (IsArr (upd H l' (.lst (ys.map fun y=>.ref y.2)))) ms (ys.map fun y=>.ref y.2):=by
  generalize upd H l' (.lst (ys.map fun y=>.ref y.2))=H9 at s1;clear pm hl';clear pw9;induction ys with
  |nil=>exact⟨[],rfl,.nil⟩
  |cons y ys ih=>obtain⟨ms,e1,e2⟩:=ih fun z hz=>ysm z (Ow _ hz);obtain⟨z,_,e3⟩:=mem y (ysm y Ox);refine⟨z::ms,by rw[OE,OE,e1,e3],.cons ⟨y.2,rfl,?_⟩ e2⟩;have:=s1 _ _ (tat y (ysm y Ox));rw[e3]at this;exact this
 obtain⟨ms,e1,e2⟩:=ex;have mm:(ms.map aL).Perm (hs.map aL):=by rw[e1,<- t2];exact pm.map _
 refine k l' ms _ _ s1 ao e2 (fun x=>⟨fun hx=>?_,fun hx=>?_⟩) (by have:=mm.length_eq;rwa [Ot,Ot]at this)
 .obtain⟨y,hy,e⟩:=OB.mp (mm.subset (OB.mpr ⟨x,hx,rfl⟩));rw[<- mT e];exact hy
 .obtain⟨y,hy,e⟩:=OB.mp (mm.symm.subset (OB.mpr ⟨x,hx,rfl⟩));rw[<- mT e];exact hy
end
def IZ:R2:=rI (fun _ j=>0<=j) fun i j=>.int (i / 2 ^ j.toNat)
def I0:R2:=qC fun i j=>.int (Builtin.bitAnd i j)
structure Oa (ro sg:Int) (x:Pz.Arr):Prop where
 a:0<=x.1/\x.1<5
 s:0<=x.2.1/\x.2.1<sg
 t:ro<=x.2.2/\x.2.2<5
structure Kd (ro sg:Int) (ms:List Pz.Arr) (ends:List Int):Prop where
 a:∀ x∈ms,Oa ro sg x
 z:ms.length<=10
 e:∀ e∈ends,0<=e/\e<5
 ze:ends.length<=5
structure sJ (H:Hp) (mp la le:Addr) (n:Int) (ms:List Pz.Arr) (mv:List V) (ends:List Int):Prop where
 p:H mp=some (.tup [.int n,.ref la,.ref le])
 a:H la=some (.lst mv)
 i:bc (IsArr H) ms mv
 e:H le=some (.lst (ends.map .int))
theorem ji {H H':Hp}(k:KT H H')(a:Pz.Arr)(v:V)(h:IsArr H a v):IsArr H' a v:=let ⟨p,e,h⟩:=h;⟨p,e,k _ _ h⟩
theorem sJ.more {H H':Hp}{mp la le:Addr}{n:Int}{ms:List Pz.Arr}{mv:List V}{ends:List Int}(h:sJ H mp la le n ms mv ends)(s:Same H H'):sJ H' mp la le n ms mv ends:=⟨s _ _ h.p,s _ _ h.a,h.i.mono (ji (.of s)),s _ _ h.e⟩
section
variable {X:Cx}{K:SG}{H H':Hp}{D:Ends}{σ:L2.St}{vs ws:List V}{Q:VK}{E:XK}{ro sg own c:Int}{cl:Addr}{cs:List Int}
inductive AQ:Sp
 |mk {H:Hp} {c ro own sg:Int} {cl:Addr} {cs:List Int} {Q:VK} {E:XK} (hl:Rd H cl (.lst (cs.map .int))) (zc:cs.length<=9) (h0:own=0->cs.length=0) (hr:0<ro/\ro<=3) (ho:0<=own/\own<=2) (hs:0<sg/\sg<=5) (k:∀ mp la le n ms mv ends H',Same H H'->sJ H' mp la le n ms mv ends->Kd ro sg ms ends->Q (.ref mp) H'):AQ [.int c,.ref cl,.int ro,.int own,.int sg] H Q E
theorem Aw (h:AQ vs H Q E):vs.length=5:=by cases h;rfl
structure N4 (X:Cx) (scope:Scope) (tg elt:Expr) (tN capN:List Str) (caps:List Nat):Prop where
 h:tN.length=1
 c:caps=[2]
 g:∀ cl C s3 H3 fp,PG (bw X scope (tN++capN) cl C s3 H3 fp) tg (aE 0)
 e:∀ cl C s3 H3 fp,PE (bw X scope (tN++capN) cl C s3 H3 fp) elt IU
def Lx:TE:=bJ A_ [] E0 (aj (au 0) (aj (au 1) (aj (au 2) (aj (au 3) aG))))
structure Ob (X:Cx) (scope:Scope) (tg elt:Expr) (tN capN:List Str) (caps:List Nat):Prop where
 h:tN.length=1
 c:caps=[2,3,4]
 g:∀ cl C s3 H3 fp,PG (bw X scope (tN++capN) cl C s3 H3 fp) tg (aE 0)
 e:∀ cl C s3 H3 fp,PE (bw X scope (tN++capN) cl C s3 H3 fp) elt Lx
def Ly:TT:=br (aZ ou (aZ I0 (aZ IZ (aZ bP (aZ fh (au 1) (tC (.int 10))) (tC (.int 32))) (au 0)) (tC (.int 1))) (tC (.int 1)))
structure N6 (X:Cx) (scope:Scope) (tg elt:Expr) (tN capN:List Str) (caps:List Nat) (ifs:List Expr):Prop where
 h:tN.length=1
 c:caps=[0]
 g:∀ cl C s3 H3 fp,PG (bw X scope (tN++capN) cl C s3 H3 fp) tg (aE 0)
 t:∀ cl C s3 H3 fp,Bg (bw X scope (tN++capN) cl C s3 H3 fp) ifs Ly
 e:∀ cl C s3 H3 fp,PE (bw X scope (tN++capN) cl C s3 H3 fp) elt (au 0)
structure Bw where
 (He Hd MY:Scope)
 (Hc JK G9 JM M0 MZ:Expr)
 (JQ JN JR Jz MW MT:List Str)
 (JC JF MF:List Nat)
 (MN:List Expr)
structure LO (X:Cx) (S:Bw):Prop where
 c1:N4 X S.He S.Hc S.JK S.JQ S.JN S.JC
 c2:Ob X S.Hd S.G9 S.JM S.JR S.Jz S.JF
 c3:N6 X S.MY S.M0 S.MZ S.MW S.MT S.MF S.MN
def F6 (X:Cx):TS:=bU (cf (aj (aZ cA (au 2) (au 3)) (aj (gS (zL X) (aj (gS (zK X) (aj (au 7) aG)) aG)) (aj (au 8) aG))))
def I_ (X:Cx)(S:Bw):TS:=aP (qg X S.MY S.M0 S.MZ S.MW S.MT S.MF S.MN 8 (uF (aj (aZ cA (au 2) (au 3)) aG))) (F6 X)
def Ja (X:Cx)(S:Bw):TS:=aP (qg X S.Hd S.G9 S.JM S.JR S.Jz S.JF [] 7 (cU X.K (au 1))) (I_ X S)
def Lz:TS:=bU (cf (aj (au 2) (aj (cJ aG) (aj (L2.vd (aj (au 2) aG)) aG))))
def LA (X:Cx)(S:Bw):TE:=aZ EK (cJ (aj (au 6) aG)) (mC X S.He S.Hc S.JQ S.JN S.JC S.JK [] (uF (aj (au 4) aG)))
def Jb (X:Cx)(S:Bw):TS:=bU (cf (aj (aZ cA (au 2) (tC (.int 1))) (aj (gS (F4 X) (aj (LA X S) aG)) (aj (cJ (aj (au 2) aG)) aG))))
def F7 (X:Cx)(S:Bw):TS:=aP (bh (cf (aj (aZ bP (aZ fh (au 0) (tC (.int 1280))) (au 2)) (aj (aZ bP (aZ fh (au 0) (tC (.int 7680))) (au 4)) (aj (au 2) aG)))) (aE 6)) (Jb X S)
def NG (X:Cx)(S:Bw):TS:=aP (bh (aZ bP (aZ fh (au 0) (tC (.int 320))) (tC (.int 4))) (aE 5)) (aP (cI (br (aZ ou (au 5) (tC (.int 2)))) (F7 X S) bY) (aP (cI (br (aZ ou (au 5) (tC (.int 3)))) Lz bY) (Ja X S)))
noncomputable def uv (c:Int)(cl:Addr)(ro own sg form:Int)(x6 x7 x8:Option V):L2.St:=[some (.int c),some (.ref cl),some (.int ro),some (.int own),some (.int sg),some (.int form),x6,x7,x8]
theorem NH {S:Bw}{form:Int}{x6 x7 x8:Option V}(C:LO X S)(hr:0<ro/\ro<=3)(hs:0<sg/\sg<=5)(k:∀ mp la le n ms mv ends H',Same H H'->sJ H' mp la le n ms mv ends->Kd ro sg ms ends->D.rt (.ref mp) H'):F7 X S D (uv c cl ro own sg form x6 x7 x8) H:=by
 have e1:=em (a:=c / 1280) hr.1;have e2:=em (a:=c / 7680) hs.1
 delta F7 aP bh
 refine jg (σ:=uv c cl ro own sg form x6 x7 x8) (ws:=[.int (c / 1280 % ro),.int (c / 7680 % sg),.int ro]) (.c (.mod (.dv (.va (i:=0) rfl) .k ⟨by decide,by decide⟩) (.va (i:=2) rfl) hr.1) (.c (.mod (.dv (.va (i:=0) rfl) .k ⟨by decide,by decide⟩) (.va (i:=4) rfl) hs.1) (.c (.va (i:=2) rfl) .ni))) rfl fun hd hhd=>?_;generalize c / 1280 % ro=r0 at e1 hhd;generalize c / 7680 % sg=g0 at e2 hhd;have t1:=az (o:=.tup [.int r0,.int g0,.int ro]) hhd;have c1:upd H hd (.tup [.int r0,.int g0,.int ro]) hd=some (.tup [.int r0,.int g0,.int ro]):=ao;show Jb X S D (uv c cl ro own sg form (some (.ref hd)) x7 x8) (upd H hd (.tup [.int r0,.int g0,.int ro]));generalize upd H hd (.tup [.int r0,.int g0,.int ro])=H1 at t1 c1;refine Reads.ad (.va (i:=2) rfl) .k _ ⟨_,rfl,by show 1<=_;rw[OG];lia,fun l1 hl1=>?_⟩;have t2:=az (o:=.lst [.ref hd]) hl1;have c2:upd H1 l1 (.lst [.ref hd]) l1=some (.lst [.ref hd]):=ao;have c12:=t2 _ _ c1;generalize upd H1 l1 (.lst [.ref hd])=H2 at t2 c2 c12;refine⟨_,rfl,sg,rfl,by lia,by lia,?_⟩;refine Lp ((List.range sg.toNat).map fun g=>(ro,((g:Nat):Int),ro)) (by rw[Ot,Pj];lia) C.c1.g C.c1.e (fun i H' sm hi=>by rwa [Ot,Pj]at hi) (fun H' sm=>by rw[Ot,Pj];exact Oq _) (fun i H' x H'' o a hx sm y ho=>?_) fun l4 v4 H3 n4 s3 h4 a4=>?_
 .obtain⟨rfl,rfl⟩:=y;rw[OD]at hx;obtain⟨e0,he0,rfl⟩:=Pd.mp hx;obtain rfl:i=e0:=by obtain⟨_,e⟩:=Ov.mp he0;rw[List.getElem_range]at e;exact e
  rw[C.c1.h]at ho;obtain⟨u0,rfl⟩:=PP.mp ho;rw[C.c1.c,RQ];refine⟨rfl,[some (.int i),some (.int ro)],fun Q q=>q,fun j hj=>?_,.t (.c (.va rfl) (.c (.va rfl) (.c (.va rfl) .ni))) rfl⟩;rw[C.c1.h]at hj;obtain⟨j,rfl⟩:=Pf hj;rfl
 have lv:=a4.len;rw[Ot,Pj]at lv;refine⟨l1,l4,_,_,rfl,rfl,s3 _ _ c2,h4,by show 1+_<=_;rw[OG];lia,fun l5 hl5=>?_⟩;have t5:=az (o:=.lst ([.ref hd]++v4)) hl5;have c5:upd H3 l5 (.lst ([.ref hd]++v4)) l5=some (.lst ([.ref hd]++v4)):=ao;have a5:bc (IsArr (upd H3 l5 (.lst ([.ref hd]++v4)))) ((r0,g0,ro)::(List.range sg.toNat).map fun g=>(ro,((g:Nat):Int),ro)) ([.ref hd]++v4):=.cons ⟨hd,rfl,t5 _ _ (s3 _ _ c12)⟩ (a4.mono (ji (.of t5)));generalize upd H3 l5 (.lst ([.ref hd]++v4))=H5 at t5 c5 a5;have nd:((r0,g0,ro)::(List.range sg.toNat).map fun g=>((ro,((g:Nat):Int),ro):Pz.Arr)).Nodup:=by
  refine Pk.mpr ⟨fun z=>?_,?_⟩
  .obtain⟨g,_,e⟩:=OB.mp z;injection e with e _;lia
  .refine PD.mpr (Rb.imp fun h e=>h ?_);injection e with _ e;injection e with e _;lia
 delta aG aj
 dsimp only;refine F5 (X:=X) (.inl c5) a5 nd (by rw[OJ,Ot,Pj];lia) fun la ms mv H6 s6 hla am mm lm=>⟨_,rfl,by show 1<=_;rw[OG];lia,fun le hle=>⟨by show 3<=_;rw[OG];lia,fun mp hmp=>?_⟩⟩;have t7:=az (o:=.lst [.int ro]) hle;have c7:upd H6 le (.lst [.int ro]) le=some (.lst ([ro].map .int)):=ao;generalize upd H6 le (.lst [.int ro])=H7 at t7 c7 hmp;have t8:=az (o:=.tup [.int (ro+1),.ref la,.ref le]) hmp;refine k mp la le (ro+1) ms mv [ro] _ ((((((t1.trans t2).trans s3).trans t5).trans s6).trans t7).trans t8) ⟨ao,t8 _ _ (t7 _ _ hla),am.mono (ji (.of (t7.trans t8))),t8 _ _ c7⟩ ⟨fun x hx=>?_,?_,fun e he=>?_,by show 1<=5;decide⟩
 .rcases OC.mp ((mm x).mp hx) with e|h
  .rw[e];exact⟨by show 0<=r0/\r0<5;lia,e2,by show ro<=ro/\ro<5;lia⟩
  .obtain⟨g,hg,rfl⟩:=OB.mp h;have:=O9.mp hg;exact⟨by show 0<=ro/\ro<5;lia,by show 0<=((g:Nat):Int)/\((g:Nat):Int)<sg;lia,by show ro<=ro/\ro<5;lia⟩
 .rw[lm,OJ,Ot,Pj];lia
 .rw[OI.mp he];lia
theorem NI {S:Bw}{form:Int}{x6 x7 x8:Option V}(C:LO X S)(hl:Rd H cl (.lst (cs.map .int)))(zc:cs.length<=9)(h0:own=0->cs.length=0)(hr:0<ro/\ro<=3)(ho:0<=own/\own<=2)(hs:0<sg/\sg<=5)(k:∀ mp la le n ms mv ends H',Same H H'->sJ H' mp la le n ms mv ends->Kd ro sg ms ends->D.rt (.ref mp) H'):Ja X S D (uv c cl ro own sg form x6 x7 x8) H:=by
 refine⟨_,rfl,cl,rfl,⟨_,.inl hl⟩,?_⟩;refine IY (R:=IsArr) (MB ro own sg) cs.length (by lia) C.c2.g C.c2.e ji (fun i H' sm hi=>⟨_,.int cs[i],.inl (bb sm hl),by rw[OD,Ou hi];rfl⟩) (fun H' sm=>⟨_,.inl (bb sm hl),by rw[Ot];exact Oq _⟩) (fun i H' x H'' o hi sm y ho'=>?_) fun lv av as H1 nv s1 hlv aa pa la=>?_
 .obtain⟨rfl,y⟩:=y;have y:=y _ (.inl (bb sm hl));rw[OD,Ou hi]at y;cases y;rw[C.c2.h]at ho';obtain⟨u0,rfl⟩:=PP.mp ho';rw[C.c2.c];refine⟨rfl,[some (.int cs[i]),some (.int ro),some (.int own),some (.int sg)],fun Q q=>q,fun j hj=>?_,fun Q q=>⟨_,rfl,_,rfl,_,rfl,_,rfl,.mk hr.1 (by lia) hs.1 fun v x H3 s3 ir ai=>q v x H3 s3 ir ai⟩⟩;rw[C.c2.h]at hj;obtain⟨j,rfl⟩:=Pf hj;rfl
 show I_ X S D (uv c cl ro own sg form x6 (some (.ref lv)) x8) H1;refine Reads.ad (.va (i:=2) rfl) (.va (i:=3) rfl) _ ⟨_,rfl,by lia,by lia,?_⟩;refine F3 (List.range (ro+own).toNat) (fun k=>decide ((Builtin.bitAnd (c / 10 % 32 / 2 ^ ((k:Nat):Int).toNat) 1)=1)) (fun k=>((k:Nat):Int)) (by rw[Pj];lia) C.c3.g C.c3.t C.c3.e (fun i H' sm hi=>by rwa [Pj]at hi) (fun H' sm=>by rw[Pj];exact Oq _) (fun i H' x H'' o a hx sm y ho'=>?_) fun le H2 ne s2 hle=>?_
 .obtain⟨rfl,rfl⟩:=y;obtain rfl:i=a:=by obtain⟨_,e⟩:=Ov.mp hx;rw[List.getElem_range]at e;exact e
  rw[C.c3.h]at ho';obtain⟨u0,rfl⟩:=PP.mp ho';rw[C.c3.c,RQ];refine⟨rfl,[some (.int i),some (.int c)],fun Q q=>q,fun j hj=>?_,fun Q q=>?_,.va rfl⟩
  .rw[C.c3.h]at hj;obtain⟨j,rfl⟩:=Pf hj;rfl
  .exact(Reads.AO (Reads.op (Reads.op (.mod (.dv (.va (i:=1) rfl) .k ⟨by decide,by decide⟩) .k (by decide)) (.va (i:=0) (v:=.int (i:Nat)) rfl) fun _ q=>⟨_,_,rfl,rfl,R_ i,q⟩) .k fun _ q=>⟨_,_,rfl,rfl,q⟩) .k) _ ⟨_,rfl,q⟩
 have s12:=s1.trans s2;have aa2:=aa.mono (ji (.of s2));show F6 X D (uv c cl ro own sg form x6 (some (.ref lv)) (some (.ref le))) H2
 delta F6 bU cf aj
 refine Reads.ad (.va (i:=2) rfl) (.va (i:=3) rfl) _ ?_;refine FZ (X:=X) (σ:=uv c cl ro own sg form x6 (some (.ref lv)) (some (.ref le))) (hs:=as) (.va (i:=7) rfl) (.inl (s2 _ _ hlv)) aa2 (by lia) (fun m nd hm=>OR (Sp.nodup_sub nd (U:=as) hm) (by lia)) fun l3 ms mv H3 s3 _ hl3 am mm sd=>⟨_,rfl,by show 3<=_;rw[OG];lia,fun mp hmp=>?_⟩;have t4:=az (o:=.tup [.int (ro+own),.ref l3,.ref le]) hmp;refine k mp l3 le (ro+own) ms mv _ _ ((s12.trans s3).trans t4) ⟨ao,t4 _ _ hl3,am.mono (ji (.of t4)),t4 _ _ (s3 _ _ hle)⟩ ⟨fun x hx=>?_,?_,fun e he=>?_,?_⟩
 .have:=pa x ((mm x).mp hx);have h1:=this.a;have h2:=this.t;exact⟨by lia,this.s,by lia⟩
 .exact OR (Sp.nodup_sub sd.nd (U:=as) fun x hx=>(mm x).mp hx) (by lia)
 .obtain⟨k,hk,rfl⟩:=OB.mp he;have:=O9.mp (Pa.mp hk).1;lia
 .rw[Ot];refine OR (Qi _ _) ?_;rw[Pj];lia
theorem Ds {S:Bw}(C:LO X S)(h:AQ vs H Q E):NG X S (eQ Q) (bj (nS 9) vs) H:=by
 obtain @⟨H,c,ro,own,sg,cl,cs,Q,E,hl,zc,h0,hr,ho,hs,k⟩:=h;refine ii (.mod (.dv (.va rfl) .k ⟨by decide,by decide⟩) .k (by decide)) ?_;generalize c / 320 % 4=form;refine fI (.AO (.va (i:=5) rfl) .k) (fun _=>NH C hr hs k) fun _=>fI (.AO (.va (i:=5) rfl) .k) (fun _=>?_) fun _=>NI C hl zc h0 hr ho hs k;refine⟨_,rfl,OP _,fun la hla=>⟨_,rfl,ro,rfl,by lia,by lia,fun le hle=>⟨by show 3<=_;rw[OG];lia,fun mp hmp=>?_⟩⟩⟩;have t1:=az (o:=.lst []) hla;have c1:upd H la (.lst []) la=some (.lst []):=ao;generalize upd H la (.lst [])=H1 at t1 c1 hle hmp ⊢;have e2:((List.range ro.toNat).map fun k=>V.int (k:Nat))=(((List.range ro.toNat).map fun k=>((k:Nat):Int))).map .int:=by rw[PN];rfl
 rw[e2]at hmp;rw[e2];have t2:=az (o:=.lst (((List.range ro.toNat).map fun k=>((k:Nat):Int)).map .int)) hle;have c2:upd H1 le (.lst (((List.range ro.toNat).map fun k=>((k:Nat):Int)).map .int)) le=some (.lst (((List.range ro.toNat).map fun k=>((k:Nat):Int)).map .int)):=ao;generalize upd H1 le (.lst (((List.range ro.toNat).map fun k=>((k:Nat):Int)).map .int))=H2 at t2 c2 hmp ⊢;have t3:=az (o:=.tup [.int ro,.ref la,.ref le]) hmp;refine k mp la le ro [] [] _ _ ((t1.trans t2).trans t3) ⟨ao,t3 _ _ (t2 _ _ c1),.nil,t3 _ _ c2⟩ ⟨(fun _ h=>nomatch h),OP _,fun e he=>?_,by rw[Ot,Pj];lia⟩;obtain⟨k,hk,rfl⟩:=OB.mp he;have:=O9.mp hk;lia
end
def Jc:List V->Hp->VK->Prop:=fun xs H Q=>(∃ i,xs=[.int i]/\Q (.int i) H)\/∃ k,xs=[.bl k]/\Q (.int (if k then 1 else 0)) H
def Ee:List V->Hp->VK->Prop:=fun xs H Q=>∃ i j,xs=[.int i,.int j]/\Q (.int (if j>i then j else i)) H
theorem xD {X:Cx} (hc:X.calm=true):bQ X (.builtin "max") Ee:=vT hc
structure qB where
 (ro sg n:Int)
 (RL:List Pz.Rule)
 (ms:List Pz.Arr)
 (ends:List Int)
structure uE (d:qB):Prop where
 r:0<d.ro/\d.ro<=3
 s:0<d.sg/\d.sg<=5
 rr:∀ r∈d.RL,Ke d.ro d.sg r
 z:d.RL.length<=60
 m:Kd d.ro d.sg d.ms d.ends
structure gu (H:Hp) (hp mp:Addr) (d:qB):Prop where
 h:∃ rl ws,H hp=some (.tup [.int d.ro,.int d.sg,.ref rl])/\H rl=some (.lst ws)/\bc (IsRule H) d.RL ws
 m:∃ la le mv,sJ H mp la le d.n d.ms mv d.ends
theorem gu.more {H H':Hp}{hp mp:Addr}{d:qB}(h:gu H hp mp d)(s:Same H H'):gu H' hp mp d:=⟨let ⟨rl,ws,a,b,c⟩:=h.h;⟨rl,ws,s _ _ a,s _ _ b,c.mono (IsRule.keep (.of s))⟩,let ⟨la,le,mv,m⟩:=h.m;⟨la,le,mv,m.more s⟩⟩
section
variable {X:Cx}{K:SG}{H H':Hp}{D:Ends}{vs ws:List V}{Q:VK}{E:XK}
inductive A6:Sp
 |mk {H:Hp} {a0:Addr} {sc:List Int} {most:Int} {Q:VK} {E:XK} (hl:Rd H a0 (.lst (sc.map .int))) (hm:0<=most/\most<=60) (k:∀ q hp mp d H',Same H H'->H' q=some (.tup [.ref hp,.ref mp])->gu H' hp mp d->uE d->Q (.ref q) H'):A6 [.ref a0,.int most] H Q E
theorem Ax (h:A6 vs H Q E):vs.length=2:=by cases h;rfl
structure MS (X:Cx) (scope:Scope) (tg elt:Expr) (tN capN:List Str) (caps:List Nat):Prop where
 h:tN.length=1
 c:caps=[4,5]
 g:∀ cl C s3 H3 fp,PG (bw X scope (tN++capN) cl C s3 H3 fp) tg (aE 0)
 e:∀ cl C s3 H3 fp,PE (bw X scope (tN++capN) cl C s3 H3 fp) elt (bJ AU [] E0 (aj (au 0) (aj (au 1) (aj (au 2) aG))))
def LC:TS:=bU (cf (aj (cf (aj (au 4) (aj (au 5) (aj (au 9) aG)))) (aj (au 8) aG)))
def Jd (X:Cx)(scope:Scope)(tg elt:Expr)(tN capN:List Str)(caps:List Nat):TS:=aP (qg X scope tg elt tN capN caps [] 9 (cU X.K (EG (sZ X.K) (au 0) (jn (aZ cA (tC (.int 4)) (au 7))) (jn (aZ cA (aZ cA (tC (.int 4)) (au 7)) (au 1)))))) LC
def Je (X:Cx)(scope:Scope)(tg elt:Expr)(tN capN:List Str)(caps:List Nat):TS:=aP (bh (bJ AQ [] E0 (aj (au 3) (aj (EG (sZ X.K) (au 0) (jn (tC (.int 4))) (jn (aZ cA (tC (.int 4)) (au 7)))) (aj (au 4) (aj (au 6) (aj (au 5) aG)))))) (aE 8)) (Jd X scope tg elt tN capN caps)
def LD (X:Cx)(scope:Scope)(tg elt:Expr)(tN capN:List Str)(caps:List Nat):TS:=aP (bh (aZ jH (aZ bP (au 3) (tC (.int 10))) (gS Jc (aj (aZ Bh (au 6) (tC (.int 0))) aG))) (aE 7)) (Je X scope tg elt tN capN caps)
def NJ (X:Cx)(scope:Scope)(tg elt:Expr)(tN capN:List Str)(caps:List Nat):TS:=aP (bh (bJ jW [] E0 (aj (au 0) (aj (tC (.int 0)) aG))) (aE 2)) (aP (bh (bJ jW [] E0 (aj (au 0) (aj (tC (.int 1)) aG))) (aE 3)) (aP (bh (aZ cA (tC (.int 1)) (aZ bP (au 2) (tC (.int 3)))) (aE 4)) (aP (bh (aZ cA (tC (.int 1)) (aZ bP (aZ fh (au 2) (tC (.int 3))) (tC (.int 5)))) (aE 5)) (aP (bh (aZ bP (aZ fh (au 2) (tC (.int 15))) (tC (.int 3))) (aE 6)) (LD X scope tg elt tN capN caps)))))
noncomputable def Jf (a0:Addr)(most shape seed ro sg own many:Int)(x8 x9:Option V):L2.St:=[some (.ref a0),some (.int most),some (.int shape),some (.int seed),some (.int ro),some (.int sg),some (.int own),some (.int many),x8,x9]
theorem Mn {scope:Scope}{tg elt:Expr}{tN capN:List Str}{caps:List Nat}{a0:Addr}{sc:List Int}{most shape seed ro sg own many:Int}(c:MS X scope tg elt tN capN caps)(hl:Rd H a0 (.lst (sc.map .int)))(hm:0<=most/\most<=60)(hr:0<ro/\ro<=3)(hs:0<sg/\sg<=5)(ho:0<=own/\own<=2)(hn:0<=many/\many<=9)(h0:own=0->many=0)(k:∀ q hp mp d H',Same H H'->H' q=some (.tup [.ref hp,.ref mp])->gu H' hp mp d->uE d->D.rt (.ref q) H'):Je X scope tg elt tN capN caps D (Jf a0 most shape seed ro sg own many none none) H:=by
 obtain⟨cs,ec⟩:=o8 sc (some 4) (some (4+many));have lc:=sq (sc.map V.int) 4 many (by decide) hn.1;rw[ec,Ot]at lc;obtain⟨ds,ed⟩:=o8 sc (some (4+many)) (some (4+many+most));have ld:=sq (sc.map V.int) (4+many) most (by lia) hm.1;rw[ed,Ot]at ld;refine⟨_,rfl,_,rfl,_,rfl,_,rfl,_,_,rfl,rfl,_,rfl,a0,_,rfl,.inl hl,fun b hb=>?_⟩;rw[ec];have t1:=az (o:=.lst (cs.map .int)) hb;have c1:upd H b (.lst (cs.map .int)) b=some (.lst (cs.map .int)):=ao;generalize upd H b (.lst (cs.map .int))=H1 at t1 c1;refine⟨_,rfl,_,rfl,_,rfl,.mk (.inl c1) (by lia) (fun e=>by have:=h0 e;lia) hr ho hs fun mp la le n ms mv ends H2 s2 ma mo=>?_⟩;have t12:=t1.trans s2;show Jd X scope tg elt tN capN caps D (Jf a0 most shape seed ro sg own many (some (.ref mp)) none) H2;refine⟨_,rfl,_,rfl,_,_,rfl,rfl,_,rfl,_,rfl,_,_,rfl,rfl,_,rfl,_,_,rfl,rfl,_,rfl,a0,_,rfl,.inl (bb t12 hl),fun b2 hb2=>?_⟩;rw[ed];have t3:=az (o:=.lst (ds.map .int)) hb2;have c3:upd H2 b2 (.lst (ds.map .int)) b2=some (.lst (ds.map .int)):=ao;generalize upd H2 b2 (.lst (ds.map .int))=H3 at t3 c3;refine⟨b2,rfl,⟨_,SqL.of c3⟩,?_⟩;refine IY (R:=IsRule) (Ke ro sg) ds.length (by lia) c.g c.e (fun k a v h=>IsRule.keep k a v h) (fun i H' sm hi=>⟨_,.int ds[i],SqL.of (sm _ _ c3),by rw[OD,Ou hi];rfl⟩) (fun H' sm=>⟨_,SqL.of (sm _ _ c3),by rw[Ot];exact Oq _⟩) (fun i H' x H'' o hi sm y ho'=>?_) fun rl ws RL H4 _ s4 hrl ir rr lr=>?_
 .obtain⟨rfl,y⟩:=y;have y:=y _ (SqL.of (sm _ _ c3));rw[OD,Ou hi]at y;cases y;rw[c.h]at ho';obtain⟨u0,rfl⟩:=PP.mp ho';rw[c.c];refine⟨rfl,[some (.int ds[i]),some (.int ro),some (.int sg)],fun Q q=>q,fun j hj=>?_,fun Q q=>⟨_,rfl,_,rfl,_,rfl,.mk hr.1 hs.1 fun v x H3 s3 ir ai=>q v x H3 s3 ir ai⟩⟩;rw[c.h]at hj;obtain⟨j,rfl⟩:=Pf hj;rfl
 have s34:=t3.trans s4;refine⟨_,rfl,_,rfl,_,rfl,by show 3<=_;rw[OG];lia,fun hp hhp=>⟨_,rfl,by show 2<=_;rw[OG];lia,fun q hq=>?_⟩⟩;have t5:=az (o:=.tup [.int ro,.int sg,.ref rl]) hhp;have c5:upd H4 hp (.tup [.int ro,.int sg,.ref rl]) hp=some (.tup [.int ro,.int sg,.ref rl]):=ao;generalize upd H4 hp (.tup [.int ro,.int sg,.ref rl])=H5 at t5 c5 hq;have t6:=az (o:=.tup [.ref hp,.ref mp]) hq;have s46:=t5.trans t6;exact k q hp mp ⟨ro,sg,n,RL,ms,ends⟩ _ ((t12.trans s34).trans s46) ao ⟨⟨rl,ws,t6 _ _ c5,s46 _ _ hrl,ir.mono (IsRule.keep (.of s46))⟩,⟨la,le,mv,ma.more (s34.trans s46)⟩⟩ ⟨hr,hs,rr,by show RL.length<=60;lia,mo⟩
theorem Dt {scope:Scope}{tg elt:Expr}{tN capN:List Str}{caps:List Nat}(c:MS X scope tg elt tN capN caps)(h:A6 vs H Q E):NJ X scope tg elt tN capN caps (eQ Q) (bj (nS 10) vs) H:=by
 obtain @⟨H,a0,sc,most,Q,E,hl,hm,k⟩:=h;refine⟨_,rfl,jW.mk (k:=0) hl ⟨_,rfl,jW.mk (k:=1) hl ?_⟩⟩;generalize FV sc 0=shape;generalize FV sc 1=seed;have e3:=em (a:=shape) (b:=3) (by decide);have e5:=em (a:=shape / 3) (b:=5) (by decide);have eo:=em (a:=shape / 15) (b:=3) (by decide);have e10:=em (a:=seed) (b:=10) (by decide);refine ii (.ad .k (.mod (.va (i:=2) rfl) .k (by decide))) (ii (.ad .k (.mod (.dv (.va (i:=2) rfl) .k ⟨by decide,by decide⟩) .k (by decide))) (ii (.mod (.dv (.va (i:=2) rfl) .k ⟨by decide,by decide⟩) .k (by decide)) ?_));refine Reads.mod (.va (i:=3) rfl) .k (by decide) _ ⟨_,rfl,_,_,rfl,rfl,.inr ⟨_,rfl,?_⟩⟩;by_cases z:0<shape / 15 % 3
 .rw[OO z];exact⟨_,_,rfl,rfl,.inr ⟨by decide,by decide⟩,Mn (many:=seed % 10*1) c hl hm (by lia) (by lia) (by lia) (by lia) (by lia) k⟩
 .rw[OZ z];exact⟨_,_,rfl,rfl,.inr ⟨by decide,by decide⟩,Mn (many:=seed % 10*0) c hl hm (by lia) (by lia) (by lia) (by lia) (by lia) k⟩
inductive A1:Sp
 |mk {H:Hp} {hp mp:Addr} {d:qB} {Q:VK} {E:XK} (h:gu H hp mp d) (k:∀ l hp2 mp2 H',Same H H'->H' l=some (.lst [.ref hp2,.ref mp2])->gu H' hp2 mp2 d->Q (.ref l) H'):A1 [.ref hp,.ref mp] H Q E
theorem Ay (h:A1 vs H Q E):vs.length=2:=by cases h;rfl
def LF (K:SG)(a:Nat)(i:Int):TE:=gS (km K) (aj (tI K a i) aG)
def NK (K:SG):TS:=bU (cJ (aj (cf (aj (tI K 0 0) (aj (tI K 0 1) (aj (LF K 0 2) aG)))) (aj (cf (aj (tI K 1 0) (aj (LF K 1 1) (aj (LF K 1 2) aG)))) aG)))
theorem Du (h:A1 vs H Q E):NK K (eQ Q) (bj (nS 2) vs) H:=by obtain @⟨H,hp,mp,d,Q,E,h,k⟩:=h;obtain⟨⟨rl,ws,h1,h2,h3⟩,la,le,mv,m⟩:=h;refine Reads.ix (K:=K) (n:=0) (.va (i:=0) rfl) h1 (v:=.int d.ro) rfl _ (Reads.ix (K:=K) (n:=1) (.va (i:=0) rfl) h1 (v:=.int d.sg) rfl _ (Reads.ix (K:=K) (n:=2) (.va (i:=0) rfl) h1 (v:=.ref rl) rfl _ ⟨rl,ws,rfl,.inl (SqL.of h2),fun r2 hr2=>⟨by show 3<=_;rw[OG];lia,fun p2 hp2=>?_⟩⟩));have t1:=az (o:=.lst ws) hr2;have c1:upd H r2 (.lst ws) r2=some (.lst ws):=ao;generalize upd H r2 (.lst ws)=H1 at t1 c1 hp2;have t2:=az (o:=.tup [.int d.ro,.int d.sg,.ref r2]) hp2;have c2:upd H1 p2 (.tup [.int d.ro,.int d.sg,.ref r2]) p2=some (.tup [.int d.ro,.int d.sg,.ref r2]):=ao;have c12:=t2 _ _ c1;generalize upd H1 p2 (.tup [.int d.ro,.int d.sg,.ref r2])=H2 at t2 c2 c12;have m2:=m.more (t1.trans t2);refine Reads.ix (K:=K) (n:=0) (.va (i:=1) rfl) m2.p (v:=.int d.n) rfl _ (Reads.ix (K:=K) (n:=1) (.va (i:=1) rfl) m2.p (v:=.ref la) rfl _ ⟨la,mv,rfl,.inl (SqL.of m2.a),fun l3 hl3=>?_⟩);have t3:=az (o:=.lst mv) hl3;have c3:upd H2 l3 (.lst mv) l3=some (.lst mv):=ao;generalize upd H2 l3 (.lst mv)=H3 at t3 c3;have m3:=m2.more t3;refine Reads.ix (K:=K) (n:=2) (.va (i:=1) rfl) m3.p (v:=.ref le) rfl _ ⟨le,_,rfl,.inl (SqL.of m3.e),fun l4 hl4=>⟨by show 3<=_;rw[OG];lia,fun q hq=>⟨by show 2<=_;rw[OG];lia,fun l hl=>?_⟩⟩⟩;have t4:=az (o:=.lst (d.ends.map .int)) hl4;have c4:upd H3 l4 (.lst (d.ends.map .int)) l4=some (.lst (d.ends.map .int)):=ao;generalize upd H3 l4 (.lst (d.ends.map .int))=H4 at t4 c4 hq hl;have t5:=az (o:=.tup [.int d.n,.ref l3,.ref l4]) hq;have c5:upd H4 q (.tup [.int d.n,.ref l3,.ref l4]) q=some (.tup [.int d.n,.ref l3,.ref l4]):=ao;generalize upd H4 q (.tup [.int d.n,.ref l3,.ref l4])=H5 at t5 c5 hl;have t6:=az (o:=.lst [.ref p2,.ref q]) hl;have u5:=t5.trans t6;have u4:=t4.trans u5;have u3:=t3.trans u4;exact k l p2 q _ ((t1.trans t2).trans u3) ao ⟨⟨r2,ws,u3 _ _ c2,u3 _ _ c12,h3.mono (IsRule.keep (.of ((t1.trans t2).trans u3)))⟩,⟨l3,l4,mv,t6 _ _ c5,u4 _ _ c3,m2.i.mono (ji (.of u3)),u5 _ _ c4⟩⟩
inductive AY:Sp
 |mk {H:Hp} {c:Int} {o:Option (Int×Int)} {Q:VK} {E:XK} (k:∀ mo:Option Int,dw mo<=400->Q (vO mo) H):AY [.int c,Bi o] H Q E
theorem Az (h:AY vs H Q E):vs.length=2:=by cases h;rfl
def Jg:TS:=bU (gS Ee (aj (tC (.int 0)) (aj (aZ D_ (gS IQ (aj (au 1) (aj (tC (.int 400)) aG))) (aZ bP (au 2) (tC (.int 2)))) aG)))
def LG:TS:=aP (cI (Be (br (aZ ou (au 2) (tC (.int 1)))) (br (aZ nX (au 1) (tC .bC)))) (bU (aZ bP (aZ fh (au 0) (tC (.int 4))) (tC (.int 90)))) bY) Jg
def NL:TS:=aP (bh (aZ bP (au 0) (tC (.int 4))) (aE 2)) (aP (cI (br (aZ ou (au 2) (tC (.int 0)))) (bU (tC .bC)) bY) LG)
theorem Dv (h:AY vs H Q E):NL (eQ Q) (bj (nS 3) vs) H:=by
 obtain @⟨H,c,o,Q,E,k⟩:=h;refine ii (.mod (.va rfl) .k (by decide)) (fI (.AO (.va (i:=2) rfl) .k) (fun _=>k none (by show(60:Int)<=400;decide)) fun _=>?_);have e90:=em (a:=c / 4) (b:=90) (by decide);have e2:=em (a:=c % 4) (b:=2) (by decide);have r1:bU (aZ bP (aZ fh (au 0) (tC (.int 4))) (tC (.int 90))) { nx:=Jg (eQ Q),rt:=Q } [some (.int c),some (Bi o),some (.int (c % 4))] H:=Reads.mod (.dv (.va (i:=0) rfl) .k ⟨by decide,by decide⟩) .k (by decide) _ (k (some (c / 4 % 90)) (by show c / 4 % 90<=400;lia));refine Reads.AO (.va (i:=2) rfl) .k _ ⟨_,rfl,EN (fun _=>d8 r1) fun _=>⟨_,rfl,rfl,_,rfl,?_⟩⟩;cases o with
 |none=>exact d8 r1
 |some x=>obtain⟨v,e⟩:=x;refine cM ⟨_,rfl,_,_,rfl,Reads.mod (.va (i:=2) rfl) .k (by decide) _ ⟨_,_,rfl,rfl,_,_,rfl,?_⟩⟩;refine k (some _) ?_;show(if (if 400<v then (400:Int) else v)-c % 4 % 2>0 then (if 400<v then (400:Int) else v)-c % 4 % 2 else 0)<=400;split<;>split<;>lia
end
inductive MP (M:List Pz.Arr):Int->List Int->Int->Prop
 |nil {s:Int}:MP M s [] s
 |cons {s x t e:Int} {xs:List Int} (h:((s,x,t):Pz.Arr)∈M) (k:MP M t xs e):MP M s (x::xs) e
section
variable {X:Cx}{K:SG}{H H':Hp}{σ:L2.St}{vs:List V}{Q:VK}{E:XK}
inductive A3:Sp
 |mk {H:Hp} {mp la le sp sl:Addr} {n room e:Int} {ms:List Pz.Arr} {mv:List V} {ends stk:List Int} {Q:VK} {E:XK} (m:sJ H mp la le n ms mv ends) (zm:ms.length<=10) (hs:H sp=some (.tup [.int room,.ref sl])) (hl:Rd H sl (.lst (stk.map .int))) (p:MP ms room stk e) (he:e∈ends) (k:∀ H',Same H H'->Q (.bl true) H'):A3 [.ref mp,.ref sp] H Q E
theorem AA (h:A3 vs H Q E):vs.length=2:=by cases h;rfl
def NM (K:SG):TG:=dQ K 3 (be (aE 0) (be (aE 1) (be (aE 2) dP)))
def LH (K:SG):TT:=Hf (br (aZ ou (au 1) (au 3))) (br (aZ (JV K false) (au 0) (au 4)))
structure N9 (X:Cx) (scope:Scope) (tg elt:Expr) (tN capN:List Str) (caps:List Nat) (ifs:List Expr):Prop where
 h:tN.length=3
 c:caps=[3,2]
 g:∀ cl C s3 H3 fp,PG (bw X scope (tN++capN) cl C s3 H3 fp) tg (NM X.K)
 t:∀ cl C s3 H3 fp,Bg (bw X scope (tN++capN) cl C s3 H3 fp) ifs (LH X.K)
 e:∀ cl C s3 H3 fp,PE (bw X scope (tN++capN) cl C s3 H3 fp) elt (au 2)
structure NW (X:Cx) (scope:Scope) (tg elt:Expr) (tN capN:List Str) (caps:List Nat) (ifs:List Expr):Prop where
 h:tN.length=1
 c:caps=[0]
 g:∀ cl C s3 H3 fp,PG (bw X scope (tN++capN) cl C s3 H3 fp) tg (aE 0)
 t:∀ cl C s3 H3 fp,Bg (bw X scope (tN++capN) cl C s3 H3 fp) ifs (br (aZ (JV X.K false) (au 0) (tI X.K 1 2)))
 e:∀ cl C s3 H3 fp,PE (bw X scope (tN++capN) cl C s3 H3 fp) elt (au 0)
structure JP where
 (He Hd:Scope)
 (Hc JK G9 JM:Expr)
 (JQ JN JR Jz:List Str)
 (JC JF:List Nat)
 (if1 if2:List Expr)
structure N2 (X:Cx) (S:JP):Prop where
 c1:N9 X S.He S.Hc S.JK S.JQ S.JN S.JC S.if1
 c2:NW X S.Hd S.G9 S.JM S.JR S.Jz S.JF S.if2
def LI (X:Cx)(S:JP):TS:=bU (aZ IN (mC X S.Hd S.G9 S.JR S.Jz S.JF S.JM S.if2 (cU X.K (au 2))) (cJ aG))
def LJ (X:Cx)(S:JP):TS:=bh (gS (zO X) (aj (gS (zN X) (aj (mC X S.He S.Hc S.JQ S.JN S.JC S.JK S.if1 (cU X.K (tI X.K 0 1))) aG)) aG)) (aE 2)
def NN (X:Cx)(S:JP):TS:=aP (bh (cJ (aj (tI X.K 1 0) aG)) (aE 2)) (aP (f6 (cU X.K (tI X.K 1 1)) (aE 3) (LJ X S)) (LI X S))
inductive ML (mp sp:Addr) (H1:Hp) (ms:List Pz.Arr) (stk:List Int) (e:Int) (i:Nat):L2.St->Hp->Prop
 |mk {H':Hp} {st:List Int} {l:Addr} {b:Int} {x3:Option V}:Same H1 H'->H' l=some (.lst (st.map .int))->st.length<=63->b∈st->MP ms b (stk.drop i) e->ML mp sp H1 ms stk e i [some (.ref mp),some (.ref sp),some (.ref l),x3] H'
theorem Dw {S:JP}(C:N2 X S)(h:A3 vs H Q E):NN X S (eQ Q) (bj (nS 4) vs) H:=by
 obtain @⟨H,mp,la,le,sp,sl,n,room,e,ms,mv,ends,stk,Q,E,m,zm,hs,hl,p,he,k⟩:=h;have lm:=m.i.len;refine Reads.ix (K:=X.K) (n:=0) (.va (i:=1) rfl) hs (v:=.int room) rfl _ ⟨by show 1<=_;rw[OG];lia,fun l0 hl0=>?_⟩;have t1:=az (o:=.lst [.int room]) hl0;have c1:upd H l0 (.lst [.int room]) l0=some (.lst ([room].map .int)):=ao;generalize upd H l0 (.lst [.int room])=H1 at t1 c1;refine eU (tl:=tI X.K 1 1) (Reads.ix (K:=X.K) (n:=1) (.va (i:=1) rfl) (t1 _ _ hs) (v:=.ref sl) rfl _ ⟨sl,rfl,⟨_,.inl (bb t1 hl)⟩,?_⟩);refine f7 (K:=X.K) (a:=sl) (xs:=stk.map .int) (ML mp sp H1 ms stk e) (.mk (st:=[room]) (b:=room) (fun _ _ e=>e) c1 (by show 1<=63;decide) (OI.mpr rfl) p) (fun i σ' H' _ z=>by cases z with|mk s=>exact .inl (bb (t1.trans s) hl)) (fun i v σ' H' hi z=>?_) fun σ' H' z=>?_
 .obtain @⟨H',st,l,b,x3,sm,hst,zs,hb,pb⟩:=z;have li:=(Ov.mp hi).1;rw[Ot]at li;rw[OD,Ou li]at hi;cases hi;rw[Q_ li]at pb;generalize stk[i]=g at pb;have m':=m.more (t1.trans sm);refine Reads.ix (K:=X.K) (n:=1) (.va (i:=0) rfl) m'.p (v:=.ref la) rfl _ ⟨la,rfl,⟨_,SqL.of m'.a⟩,?_⟩;refine F3 ms (fun x=>decide (x.2.1=g)&&decide (x.1∈st)) (fun x=>x.2.2) (by lia) C.c1.g C.c1.t C.c1.e (fun i H2 s2 hi=>⟨mv,mv[i]'(by lia),SqL.of (s2 _ _ m'.a),Ou _⟩) (fun H2 s2=>⟨mv,SqL.of (s2 _ _ m'.a),by lia⟩) (fun i H2 x H3 o y hy s2 yy ho=>?_) fun Dl H3 nD s3 hD=>?_
  .obtain⟨rfl,yy⟩:=yy;obtain⟨y',hy',q,rfl,hq⟩:=m'.i.get (yy _ (SqL.of (s2 _ _ m'.a)));rw[hy]at hy';obtain rfl:=OW hy';have hq:=s2 _ _ hq;rw[C.c1.h]at ho;obtain⟨u0,u1,u2,rfl⟩ : ∃ a b c,o=[a,b,c]:=by
    match o,ho with
    | [a,b,c],_=>exact⟨a,b,c,rfl⟩
   rw[C.c1.c];refine⟨rfl,[some (.int y.1),some (.int y.2.1),some (.int y.2.2),some (.int g),some (.ref l)],fun Q q'=>⟨q,_,rfl,SqT.of hq,rfl,_,_,rfl,_,_,rfl,_,_,rfl,rfl,q'⟩,fun j hj=>?_,fun Q q'=>?_,.va rfl⟩
   .rw[C.c1.h]at hj;obtain⟨j,rfl⟩:=Pf hj;rfl
   .refine Reads.AO (.va (i:=1) rfl) (.va (i:=3) rfl) _ ⟨_,rfl,?_⟩;by_cases c:y.2.1=g
    .rw[OO c]at q' ⊢;exact d8 ⟨_,rfl,_,rfl,si (.inl (s2 _ _ hst)) ⟨_,rfl,by rwa [Bool.true_and]at q'⟩⟩
    .rw[OZ c]at q' ⊢;exact cM (by rwa [RI]at q')
  have lf:((ms.filter fun x=>decide (x.2.1=g)&&decide (x.1∈st)).map fun x=>x.2.2).length<=63:=by rw[Ot];exact OR (Qi _ _) (by lia)
  have s13:=sm.trans s3;refine FO (X:=X) (ta:=tC (.ref Dl)) (σ:=[]) .k (.inl hD) lf fun l' z H4 s4 _ hl' so=>?_;cases pb with
  | @cons _ _ t _ _ hM pt=>have mz:t∈z:=(so.m t).mpr (OB.mpr ⟨(b,g,t),Pa.mpr ⟨hM,by simp[hb]⟩,rfl⟩);have zl:z.length<=63:=OR (Sp.nodup_sub (so.p.imp fun h e=>by lia) (U:=_) fun x hx=>(so.m x).mp hx) lf;exact .mk (s13.trans s4) hl' zl mz pt
 .obtain @⟨H',st,l,b,x3,sm,hst,zs,hb,pb⟩:=z;rw[Ot,List.drop_length]at pb;cases pb;have m':=m.more (t1.trans sm);refine⟨_,rfl,l,rfl,⟨_,SqL.of hst⟩,?_⟩;refine F3 st (fun x=>decide (x∈ends)) (fun x=>x) (by lia) C.c2.g C.c2.t C.c2.e (fun i H2 s2 hi=>⟨_,.int st[i],SqL.of (s2 _ _ hst),by rw[OD,Ou hi];rfl⟩) (fun H2 s2=>⟨_,SqL.of (s2 _ _ hst),by rw[Ot];exact Oq _⟩) (fun i H2 x H3 o y hy s2 yy ho=>?_) fun Dl H3 nD s3 hD=>⟨OP _,fun l2 hl2=>?_⟩
  .obtain⟨rfl,yy⟩:=yy;have yy:=yy _ (SqL.of (s2 _ _ hst));rw[OD,hy]at yy;cases yy;rw[C.c2.h]at ho;obtain⟨u0,rfl⟩:=PP.mp ho;rw[C.c2.c];have m2:=m'.more s2;refine⟨rfl,[some (.int y),some (.ref mp)],fun Q q'=>q',fun j hj=>?_,fun Q q'=>⟨_,rfl,Reads.ix (K:=X.K) (n:=2) (.va (i:=1) rfl) m2.p (v:=.ref le) rfl _ (si (.inl m2.e) ⟨_,rfl,q'⟩)⟩,.va rfl⟩;rw[C.c2.h]at hj;obtain⟨j,rfl⟩:=Pf hj;rfl
  have t4:=az (o:=.lst []) hl2;refine⟨Dl,l2,_,rfl,rfl,.inl (t4 _ _ hD),ao,?_⟩;rw[OZ fun z=>by have:e∈(st.filter fun x=>decide (x∈ends)).map fun x=>x:=OB.mpr ⟨e,Pa.mpr ⟨hb,OO he⟩,rfl⟩;rw[Re.mp z]at this;cases this];exact k _ (((t1.trans sm).trans s3).trans t4)
end
end L4
namespace L2
open PySem PySem.Spec PyProof.Rows
theorem su {X:Cx}{b:List Stmt}{C C':Addr}{t:TS}(h:C=C'->PSs X b t):PSs X b (fun D σ H=>C=C'/\t D σ H):=fun af s σ H D I hh=>h hh.1 af s σ H D I hh.2
end L2
namespace L4
open PySem PySem.Spec PyProof.Rows L2 L3
noncomputable def kdB:List Bool:=[true,false,false]
section
variable {X:Cx}{K:SG}{Fr:jk}{CN CT:Addr}{H H':Hp}{D:Ends}{σ:L2.St}{vs ws:List V}{Q:VK}{E:XK}
inductive AR (Fr:jk) (CN CT:Addr):Sp
 |mk {H:Hp} {p mp sp:Addr} {t:Pz.TD} {room:Int} {mo:Option Int} {stk ends U:List Int} {RL:List Pz.Rule} {Q:VK} {E:XK} (i:qy Fr H p mp sp t room stk ends U) (hr:RlAt H p RL) (nd:(t.map (·.1)).Nodup) (al:∀ as e c,eS t room as e c->as.map (·.2.1)=stk->c<=dw mo->∃ n ns,iz RL t n as ns/\n<1000000)
  (k:∀ L r v e as n ns l q H',Same H H'->fz t room stk ends L r (some (v,e))->v<=dw mo->eS t room as e v->as.map (·.2.1)=stk->iz RL t n as ns->H' l=some (.lst (ns.map .int))->H' q=some (.tup [.str "told",.ref l])->Q (.ref q) H')
  (xn:∀ L r q H',Same H H'->fz t room stk ends L r none->H' q=some (.tup [.str "none",.bC])->Q (.ref q) H') (xt:∀ L r v e q H',Same H H'->fz t room stk ends L r (some (v,e))->dw mo<v->H' q=some (.tup [.str "long",.bC])->Q (.ref q) H'):AR Fr CN CT [.ref p,.ref mp,.ref sp,vO mo] H Q E
theorem AB (h:AR Fr CN CT vs H Q E):vs.length=4:=by cases h;rfl
def Mo:TE:=cJ (aj (tC (.bl true)) (aj (tC (.bl false)) (aj (tC (.bl false)) aG)))
def AC (C:Addr)(w:Str)(C' x:Addr):TS:=fun D σ H=>C'=C/\aP (bh (tC (.str w)) (aE 5)) (L2.Mh 7 6 kdB x) D σ H
def AD:TS:=aP (cI (br (aZ F1 (au 6) Mo)) (bh (tC (.str "unlike")) (aE 5)) bY) (bU (cf (aj (au 5) (aj (au 4) aG))))
def F8 (X:Cx) (CN CT:Addr) (D:Ends) (σ:L2.St):XK:=L2.jh X CN CT 7 (AC CN "none") (AC CT "long") D σ
def Jh (X:Cx)(Fr:jk)(CN CT:Addr):TS:=fun D σ H=>br (aZ nX (au 3) (tC .bC)) σ H fun b H1=>if b=true then IS Fr CN CT (aj (au 0) (aj (au 1) (aj (au 2) aG))) [.int 60] σ H1 (fun v H2=>D.nx (σ.set 4 (some v)) H2) (F8 X CN CT D σ) else IS Fr CN CT (aj (au 0) (aj (au 1) (aj (au 2) (aj (au 3) aG)))) [] σ H1 (fun v H2=>D.nx (σ.set 4 (some v)) H2) (F8 X CN CT D σ)
def NO (X:Cx) (Fr:jk) (CN CT:Addr):TS:=aP (bh (tC .bC) (aE 4)) (aP (bh (tC (.str "told")) (aE 5)) (aP (bh Mo (aE 6)) (aP (Jh X Fr CN CT) AD)))
theorem Ef {kl:Addr}(h:H kl=some (.lst [.bl true,.bl false,.bl false])):Is H Tr (.lst [.bl true,.bl false,.bl false]) (.ref kl):=⟨kl,_,rfl,.inl ⟨h,True.intro⟩,_,_,rfl,rfl,_,_,rfl,rfl,_,_,rfl,rfl,rfl⟩
theorem Mp {p mp sp kl:Addr}{v3 fv:V}{wd:Str}{x7:Option V}(hk:H kl=some (.lst [.bl true,.bl false,.bl false]))(k:∀ q H',Same H H'->H' q=some (.tup [.str wd,fv])->Q (.ref q) H'):AD (eQ Q) [some (.ref p),some (.ref mp),some (.ref sp),some v3,some fv,some (.str wd),some (.ref kl),x7] H:=by refine⟨_,rfl,by show 3<=_;rw[OG];lia,fun l hl=>?_⟩;have t1:=az (o:=.lst [.bl true,.bl false,.bl false]) hl;have c1:upd H l (.lst [.bl true,.bl false,.bl false]) l=some (.lst [.bl true,.bl false,.bl false]):=ao;generalize upd H l (.lst [.bl true,.bl false,.bl false])=H1 at t1 c1;refine⟨_,Tr,Tr,Ef (t1 _ _ hk),Ef c1,by show max 0 (max 0 (max 0 0))<=49;decide,_,rfl,cM ?_⟩;exact jg (σ:=[some (.ref p),some (.ref mp),some (.ref sp),some v3,some fv,some (.str wd),some (.ref kl),x7]) (ws:=[.str wd,fv]) (.c (.va (i:=5) rfl) (.c (.va (i:=4) rfl) .ni)) rfl fun q hq=>k q _ (t1.trans (az hq)) ao
theorem Dx (hn:PySem.W.excIn X.K CN iO "ValueError.__new__"=true) (mn:(fQ X.K CN).contains (.ref CN)=true) (ht:PySem.W.excIn X.K CT iO "ValueError.__new__"=true) (mt:(fQ X.K CT).contains (.ref CT)=true) (mf:(fQ X.K CT).contains (.ref CN)=false) (h:AR Fr CN CT vs H Q E):NO X Fr CN CT (eQ Q) (bj (nS 8) vs) H:=by
 obtain @⟨H,p,mp,sp,t,room,mo,stk,ends,U,RL,Q,E,i,hr,nd,al,k,xn,xt⟩:=h;refine⟨by show 3<=_;rw[OG];lia,fun kl hkl=>?_⟩;have t1:=az (o:=.lst [.bl true,.bl false,.bl false]) hkl;have c1:upd H kl (.lst [.bl true,.bl false,.bl false]) kl=some (.lst [.bl true,.bl false,.bl false]):=ao;show Jh X Fr CN CT _ [some (.ref p),some (.ref mp),some (.ref sp),some (vO mo),some .bC,some (.str "told"),some (.ref kl),none] (upd H kl (.lst [.bl true,.bl false,.bl false]));generalize upd H kl (.lst [.bl true,.bl false,.bl false])=H1 at t1 c1;have exc:∀{C:Addr}{w:Str}{H2:Hp},Same H1 H2->(∀ q H',Same H2 H'->H' q=some (.tup [.str w,.bC])->Q (.ref q) H')->L2.J8 7 (AC C w) { nx:=AD (eQ Q),rt:=Q } [some (.ref p),some (.ref mp),some (.ref sp),some (vO mo),some .bC,some (.str "told"),some (.ref kl),none] C H2:=fun{C w H2} s2 kk x o _ _=>⟨rfl,rfl,by show 3<=_;rw[OG];lia,fun l hl=>Mp (ao:upd H2 l (.lst (kdB.map V.bl)) l=some (.lst (kdB.map V.bl))) fun q H' s' hq=>kk q H' ((az hl).trans s') hq⟩;have w:xR Fr CN CT [.ref p,.ref mp,.ref sp,.int (dw mo)] H1 (fun v H2=>AD (eQ Q) [some (.ref p),some (.ref mp),some (.ref sp),some (vO mo),some v,some (.str "told"),some (.ref kl),none] H2) (F8 X CN CT { nx:=AD (eQ Q),rt:=Q } [some (.ref p),some (.ref mp),some (.ref sp),some (vO mo),some .bC,some (.str "told"),some (.ref kl),none]):=.mk (i.more t1) (hr.more t1) nd al (fun L r v e as n ns l H2 s lt c pt sg ag _ hl=>Mp (s _ _ c1) fun q H3 s3 hq=>k L r v e as n ns l q H3 ((t1.trans s).trans s3) lt c pt sg ag (s3 _ _ hl) hq) (fun L r lt H2 s=>⟨CN,rfl,hn,.inl ⟨mn,exc s fun q H3 s3 hq=>xn L r q H3 ((t1.trans s).trans s3) lt hq⟩⟩) fun L r v e lt c H2 s=>⟨CT,rfl,ht,.inr ⟨mf,mt,exc s fun q H3 s3 hq=>xt L r v e q H3 ((t1.trans s).trans s3) lt c hq⟩⟩;cases mo with
 |none=>exact⟨_,rfl,rfl,_,rfl,d8 ⟨_,rfl,_,rfl,_,rfl,w⟩⟩
 |some m=>exact⟨_,rfl,rfl,_,rfl,cM ⟨_,rfl,_,rfl,_,rfl,_,rfl,w⟩⟩
end
section
variable {RL:List Pz.Rule}{M U:List Pz.Arr}{t:Pz.TD}{ro:Int}
structure BH (RL:List Pz.Rule) (M U:List Pz.Arr) (t:Pz.TD) (ro:Int):Prop where
 a:Gz RL M U t
 m:∀ x∈M,ro<=x.2.2
 r:∀ r∈RL,r.1<ro/\r.2.2.1<ro
variable (A:BH RL M U t ro)
include A
theorem BH.same {a:Pz.Arr}{v v':Pz.mG}(m:(a,v)∈t)(m':(a,v')∈t):v'=v:=by have a1:=A.a.tg m';rw[A.a.tg m]at a1;exact(OW a1).symm
theorem BH.rest {n:Nat}{as:List Pz.Arr}{ns:List Int}(w:iz RL t n as ns):∀ s e c,ro<=s->eS t s as e c->ns=[]/\c=0/\MP M s (as.map (·.2.1)) e:=by
 induction w with
 |nil=>intro s e c _ h;cases h;exact⟨rfl,rfl,.nil⟩
 | @none a v as ns n m q _ ih=>
  intro s e c hs h;cases h with
  | @cons _ v' _ _ c' m' k=>
   rcases A.a.why m' with⟨_,q2,q3⟩|⟨j,r,ps,h1,h2,h3,_⟩
   .obtain⟨e1,e2,e3⟩:=ih _ _ _ (A.m _ q3) k;exact⟨e1,by rw[q2,e2];rfl,.cons q3 e3⟩
   .have:=(A.r r (OU h2)).1;lia
 | @rule a v as ps ns n j r m q hj pp _ ih=>
  intro s e c hs h;cases h with
  | @cons _ v' _ _ c' m' k=>
   rcases A.a.why m with⟨q1,_,_⟩|⟨j',r',ps',h1,h2,h3,_⟩
   .rw[q]at q1;cases q1
   .have:=(A.r r' (OU h2)).1;lia
theorem BH.wk {n:Nat}{as:List Pz.Arr}{ns:List Int}(w:iz RL t n as ns):∀ s e c,eS t s as e c->(∃ y:Rw,vL RL ns (s,as.map (·.2.1)) y/\MP M y.1 y.2 e)/\(ns.length:Int)=c:=by
 induction w with
 |nil=>intro s e c h;cases h;exact⟨⟨_,.nil,.nil⟩,rfl⟩
 | @none a v as ns n m q w' ih=>
  intro s e c h;cases h with
  | @cons _ v' _ _ c' m' k=>
   obtain rfl:=A.same m m';rcases A.a.why m with⟨_,q2,q3⟩|⟨j,r,ps,h1,_⟩
   .obtain⟨rfl,rfl,e3⟩:=A.rest w' _ _ _ (A.m _ q3) k;exact⟨⟨(a.1,a.2.1::as.map (·.2.1)),.nil,.cons q3 e3⟩,by rw[q2];rfl⟩
   .rw[q]at h1;cases h1
 | @rule a v as ps ns n j r m q hj pp w' ih=>
  intro s e c h;cases h with
  | @cons _ v' _ _ c' m' k=>
   obtain rfl:=A.same m m';rcases A.a.why m with⟨q1,_,_⟩|⟨j',r',ps',h1,h2,h3,h4,h5,h6,h7⟩
   .rw[q]at q1;cases q1
   .rw[q]at h1;have ej:j=j':=by have:=OW h1;lia
    subst ej;rw[hj]at h2;obtain rfl:=OW h2;obtain rfl:=pp.det h5;obtain⟨⟨y,st,mp⟩,ln⟩:=ih _ _ _ (h6.app (c:=[]) k);rw[O3,h7]at st;refine⟨⟨y,?_,mp⟩,by rw[OJ];lia⟩;rw[OE,h3,h4];exact .cons hj st
theorem BH.free {s e:Int}{xs:List Int}(h:MP M s xs e):∃ as,eS t s as e 0/\as.map (·.2.1)=xs:=by
 induction h with
 |nil=>exact⟨[],.nil,rfl⟩
 | @cons s x u e xs m _ ih=>obtain⟨as,h1,h2⟩:=ih;have:=eS.cons (Pz.ff (A.a.g.m0 _ m)) h1;exact⟨_,this,by rw[OE,h2]⟩
theorem BH.N3 {r:Pz.Rule}{w:List Int}{e c:Int}{as:List Pz.Arr}{j:Nat}(hj:RL[j]?=some r)(k:eS t r.2.2.1 as e c)(es:as.map (·.2.1)=r.2.2.2++w):∃ as' c',eS t r.1 as' e c'/\as'.map (·.2.1)=r.2.1::w/\c'<=c+1:=by
 obtain⟨p,q,d,c1,c2,h1,h2,h3,h4,rfl⟩:=k.split _ _ es;have hr:=OU hj;have sH:=A.a.g.sH j r hj;have low:Pz.J1 t (r.1,r.2.1,d) (c1+1):=by
  have l2:=A.a.p r hr;generalize hp:r.2.2.2=put at sH h3 l2
  match put,l2 with
  | [],_=>obtain rfl:=Re.mp h3;obtain⟨rfl,rfl⟩:=h1.nil_inv;exact sH
  | [a],_=>
   obtain⟨b,rfl,eb⟩:=List.map_eq_singleton_iff.mp h3;obtain⟨es,v,c',m,k',rfl⟩:=h1.cons_inv;obtain⟨ed,rfl⟩:=k'.nil_inv;obtain⟨b1,b2,b3⟩:=b;dsimp only at eb sH es ed;subst eb;subst ed;rw[es]at sH;have:=sH _ _ ⟨v,A.a.tg m,rfl⟩
   rwa [Int.add_zero]
  | [a,a'],_=>
   match p,h3,h1 with
   | [b,b'],h3,h1=>
    injection h3 with e1 e2;injection e2 with e2 _;obtain⟨es,v,c',m,k',rfl⟩:=h1.cons_inv;obtain⟨es2,v2,c'',m2,k2,rfl⟩:=k'.cons_inv;obtain⟨ed,rfl⟩:=k2.nil_inv;obtain⟨b1,b2,b3⟩:=b;obtain⟨d1,d2,d3⟩:=b';dsimp only at e1 e2 es es2 ed sH;subst e1;subst e2;subst es2;subst ed;rw[es]at sH;have:=sH _ _ _ _ ⟨v,A.a.tg m,rfl⟩ ⟨v2,A.a.tg m2,rfl⟩
    rwa [Int.add_zero]
 obtain⟨v,hv,le⟩:=low;exact⟨_,_,.cons (Pz.ff hv) h2,by rw[OE,h4],by show v.1+c2<=_;lia⟩
theorem BH.run {ns:List Int}{z y:Rw}(h:vL RL ns z y):∀{e c as},eS t y.1 as e c->as.map (·.2.1)=y.2->∃ as' c',eS t z.1 as' e c'/\as'.map (·.2.1)=z.2/\c'<=c+(ns.length:Nat):=by
 induction h with
 |nil=>intro e c as k es;exact⟨as,c,k,es,by show c<=c+0;lia⟩
 |cons hj _ ih=>intro e c as k es;obtain⟨as1,c1,h1,h2,h3⟩:=ih k es;obtain⟨as2,c2,g1,g2,g3⟩:=A.N3 hj h1 h2;exact⟨as2,c2,g1,g2,by rw[OJ];lia⟩
end
section
variable {t:Pz.TD}{room:Int}{stk ends:List Int}{RL:List Pz.Rule}
theorem AE {L:List iV}(n:L.length=stk.length+1)(ok:jQ t room stk L):∀(j:Nat) r b,L[j]?=some r->b∈r.ks->∃ as,eS t room as b (r.S b)/\as.map (·.2.1)=stk.take j:=by
 intro j;induction j with
 |zero=>intro r b h hb;rw[ok.z]at h;obtain rfl:=OW h;obtain rfl:=OI.mp hb;exact⟨[],.nil,rfl⟩
 |succ j ih=>
  intro r b h hb;have hj:=(Ov.mp h).1;have h0:L[j]?=some L[j]:=Ou (by lia);have hk:stk[j]?=some stk[j]:=Ou (by lia);obtain⟨a,_,s,hs,p,ha,e1,e2⟩:=(ok.s j L[j] r stk[j] h0 h hk).v b hb;obtain⟨k1,v,hv,k2⟩:=mem_ldT.mp ha;obtain⟨as,g1,g2⟩:=ih _ s h0 hs;have e3:a.1=s:=PJ Prod.fst k1;have e4:a.2.1=stk[j]:=PJ Prod.snd k1;have q:eS t a.1 [a] a.2.2 (v.1+0):=.cons hv .nil;rw[e3]at q;refine⟨as++[a],?_,by rw[O3,g2,List.take_succ,hk,Option.toList_some,List.map_singleton,e4]⟩;have:=g1.app (c:=[]) q;rw[e2,e1,<- k2]
  rwa [Int.add_zero]at this
theorem fz.path {L:List iV}{r:iV}{v e:Int}(h:fz t room stk ends L r (some (v,e))):e∈ends/\∃ as,eS t room as e v/\as.map (·.2.1)=stk:=by obtain⟨n,ok,l,h1,h2,h3,_⟩:=h;obtain⟨as,g1,g2⟩:=AE n ok _ r e l h2;rw[PV]at g2;rw[<- h3]at g1;exact⟨h1,as,g1,g2⟩
theorem fz.low {L:List iV}{r:iV}{o:Option (Int×Int)}{e c:Int}{as:List Pz.Arr}(h:fz t room stk ends L r o)(he:e∈ends)(p:eS t room as e c)(hs:as.map (·.2.1)=stk):∃ v e',o=some (v,e')/\v<=c:=by
 obtain⟨n,ok,l,lo⟩:=h;obtain⟨m,le⟩:=F0 n ok _ r as e c l p (by rw[hs,PV]);cases o with
 |none=>exact(lo e he m).elim
 |some x=>obtain⟨v,e'⟩:=x;obtain⟨h1,_,h3,h4⟩:=lo;exact⟨v,e',rfl,Qr (h4 e he m) le⟩
theorem vL.split:∀{a b:List Int}{x y:Rw},vL RL (a++b) x y->∃ z,vL RL a x z/\vL RL b z y:=by
 intro a;induction a with
 |nil=>intro b x y h;exact⟨x,.nil,h⟩
 |cons n a ih=>
  intro b x y h;cases h with
  |cons hj k=>obtain⟨z,h1,h2⟩:=ih k;exact⟨z,.cons hj h1,h2⟩
end
theorem BH.mid {RL:List Pz.Rule}{M U:List Pz.Arr}{t:Pz.TD}{ro room v e e':Int}{stk ends ns1 ns2:List Int}{L L':List iV}{r r':iV}{o:Option (Int×Int)}{y z:Rw}(A:BH RL M U t ro)(lt:fz t room stk ends L r (some (v,e)))(s1:vL RL ns1 (room,stk) z)(s2:vL RL ns2 z y)(mp:MP M y.1 y.2 e')(he:e'∈ends)(ln:((ns1.length+ns2.length:Nat):Int)=v)(lt':fz t z.1 z.2 ends L' r' o):∃ e9,o=some (v-(ns1.length:Nat),e9):=by
 obtain⟨as,p0,e0⟩:=A.free mp;obtain⟨as1,c1,p1,e1,le1⟩:=A.run s2 p0 e0;obtain⟨v',e9,rfl,le2⟩:=lt'.low he p1 e1;obtain⟨he9,as2,p2,e2⟩:=lt'.path;obtain⟨as3,c3,p3,e3,le3⟩:=A.run s1 p2 e2;obtain⟨v3,e10,ev,le4⟩:=lt.low he9 p3 e3;injection ev with ev;injection ev with ev _;have:v'=v-(ns1.length:Nat):=by lia
 exact⟨e9,by rw[this]⟩
noncomputable def U25:List Pz.Arr:=(List.range 5).flatMap fun a=>(List.range 5).flatMap fun s=>(List.range 5).map fun b=>(((a:Nat):Int),((s:Nat):Int),((b:Nat):Int))
theorem lB:U25.length=125:=by decide +kernel
theorem U25_mem {a s b:Int}:((a,s,b):Pz.Arr)∈U25↔(0<=a/\a<5)/\(0<=s/\s<5)/\0<=b/\b<5:=by
 unfold U25;simp only[List.mem_flatMap,OB,O9,Prod.mk.injEq];constructor
 .rintro⟨x,hx,y,hy,z,hz,rfl,rfl,rfl⟩;lia
 .rintro⟨h1,h2,h3⟩;exact⟨a.toNat,by lia,s.toNat,by lia,b.toNat,by lia,by lia,by lia,by lia⟩
structure Dz (d:qB) (t:Pz.TD):Prop where
 f:xT Ah [ig d.ro d.sg d.RL,.tup [.int d.n,.lst (d.ms.map gV),.lst (d.ends.map .int)]]=.ok (.DB (oY t))
 a:BH d.RL d.ms U25 t d.ro
 z:t.length<=125
 u:∀ x∈t,x.1.2.2∈([0,1,2,3,4]:List Int)
theorem uE.told {d:qB}(o:uE d):∃ t,Dz d t:=by
 have hr:=o.r;have hs:=o.s;have hz:=o.z;have hm:=o.m.z;have inU:∀ x∈d.ms,x∈U25:=fun x hx=>by have:=o.m.a x hx;have h1:=this.a;have h2:=this.s;have h3:=this.t;obtain⟨x1,x2,x3⟩:=x;exact U25_mem.mpr (by dsimp only at h1 h2 h3;lia)
 have st:Pz.Set d.RL d.ms U25:=by
  refine⟨fun r h=>(o.rr r h).p,inU,fun r h=>U25_mem.mpr ?_,fun r h s x t k=>U25_mem.mpr ?_,?_,?_,?_⟩
  .have:=o.rr r h;have h1:=this.a;have h2:=this.s;have h3:=this.t;lia
  .have:=o.rr r h;have h1:=this.a;have h2:=this.s;have:=U25_mem.mp k;lia
  .rw[lB];unfold Pz.L;lia
  .rw[lB];unfold Pz.L;lia
  .rw[lB];unfold Pz.L;lia
 have hF:Ah [ig d.ro d.sg d.RL,.tup [.int d.n,.lst (d.ms.map gV),.lst (d.ends.map .int)]]=.ok (.val .bC true []):=OK ⟨d.ro,.int d.sg,.lst (d.RL.map fJ),.int d.n,.lst (d.ends.map .int),d.ms,rfl,by lia,fun x hx=>(o.m.a x hx).t.1⟩;obtain⟨t,e,g⟩:=FE st hF;refine⟨t,e,⟨⟨g,fun r h=>(o.rr r h).p⟩,fun x hx=>(o.m.a x hx).t.1,fun r h=>⟨(o.rr r h).a.2,(o.rr r h).t.2⟩⟩,?_,fun x hx=>?_⟩
 .have:=Pz.lu (t.map (·.1)) U25 g.nd fun a ha=>by obtain⟨x,hx,rfl⟩:=OB.mp ha;exact g.u x.1 x.2 (Pz.jE g.nd hx)
  rwa [Ot,lB]at this
 .have:=g.u x.1 x.2 (Pz.jE g.nd hx);obtain⟨⟨x1,x2,x3⟩,v⟩:=x;have:=U25_mem.mp this;dsimp only;simp only[OC,OH,Sv];lia
structure m5 (H:Hp) (sp:Addr) (room:Int) (stk:List Int):Prop where
 h:∃ sl,H sp=some (.tup [.int room,.ref sl])/\H sl=some (.lst (stk.map .int))
section
variable {H H':Hp}{hp mp sp:Addr}{d:qB}{t:Pz.TD}{room:Int}{stk:List Int}
theorem m5.more (h:m5 H sp room stk)(s:Same H H'):m5 H' sp room stk:=⟨let ⟨sl,a,b⟩:=h.h;⟨sl,s _ _ a,s _ _ b⟩⟩
theorem m5.is (h:m5 H sp room stk):Is H Tr (.tup [.int room,.lst (stk.map .int)]) (.ref sp):=let ⟨sl,a,b⟩:=h.h;⟨sp,_,rfl,a,_,_,rfl,rfl,_,_,rfl,⟨sl,_,rfl,.inl ⟨b,True.intro⟩,gB _⟩,rfl⟩
theorem gu.LZ (h:gu H hp mp d):Is H Tr (ig d.ro d.sg d.RL) (.ref hp):=let ⟨rl,ws,a,b,c⟩:=h.h;IV a b c
theorem gu.FN (h:gu H hp mp d):Is H Tr (.tup [.int d.n,.lst (d.ms.map gV),.lst (d.ends.map .int)]) (.ref mp):=let ⟨la,le,mv,m⟩:=h.m;⟨mp,_,rfl,m.p,_,_,rfl,rfl,_,_,rfl,⟨la,_,rfl,.inl ⟨m.a,True.intro⟩,Di m.i⟩,_,_,rfl,⟨le,_,rfl,.inl ⟨m.e,True.intro⟩,gB _⟩,rfl⟩
theorem gu.LS (h:gu H hp mp d):RlAt H hp d.RL:=let ⟨rl,ws,a,b,c⟩:=h.h;⟨_,_,rl,ws,a,.inl b,c⟩
theorem gu.wy (h:gu H hp mp d)(o:uE d)(T:Dz d t)(s:m5 H sp room stk)(z:stk.length<1000):qy (xT Ah) H hp mp sp t room stk d.ends [0,1,2,3,4]:=by obtain⟨sl,s1,s2⟩:=s.h;obtain⟨la,le,mv,m⟩:=h.m;exact⟨⟨_,_,h.LZ,h.FN,T.f⟩,⟨_,_,le,m.p,.inl m.e⟩,⟨sl,s1,.inl s2⟩,by have:=T.z;lia,z,by have:=o.m.ze;lia,T.u,by show 5<1000;decide⟩
end
theorem mU (l:List Int):L3.D.fA (l.map L3.D.int)<=1:=lA fun d hd=>by obtain⟨y,_,rfl⟩:=OB.mp hd;exact OP _
theorem uw (ro sg:Int)(RL:List Pz.Rule):(ig ro sg RL).dep<=20:=by
 have:L3.D.fA (RL.map fJ)<=4:=lA fun d hd=>by obtain⟨x,_,rfl⟩:=OB.mp hd;have:=mU x.2.2.2;show max 0 (max 0 (max 0 (max (L3.D.fA (x.2.2.2.map L3.D.int)+1) 0)))+1<=4;lia
 show max 0 (max 0 (max (L3.D.fA (RL.map fJ)+1) 0))+1<=20;lia
theorem F9 (d:qB):L3.D.fA [ig d.ro d.sg d.RL,.tup [.int d.n,.lst (d.ms.map gV),.lst (d.ends.map .int)]]<=49:=by
 have h1:=uw d.ro d.sg d.RL;have h2:L3.D.fA (d.ms.map gV)<=2:=lA fun d hd=>by obtain⟨x,_,rfl⟩:=OB.mp hd;exact Nat.le_of_ble_eq_true rfl
 have h3:=mU d.ends;show max (ig d.ro d.sg d.RL).dep (max (max 0 (max (L3.D.fA (d.ms.map gV)+1) (max (L3.D.fA (d.ends.map L3.D.int)+1) 0))+1) 0)<=49;lia
theorem F_ (sc:List Int)(k:Nat):0<=FV sc k/\FV sc k<2147483629:=em (by decide)
section
variable {X:Cx}{K:SG}{mg:Str->Option SI}{Fr:jk}{CN CT:Addr}{H H':Hp}{D:Ends}{vs:List V}{Q:VK}{E:XK}{a0 hp mp sp hd gp:Addr}{sc:List Int}{d:qB}{t:Pz.TD}{room v e:Int}{stk ns:List Int}{L:List iV}{r:iV}
def NP (Fr:jk):TS:=bU (aZ ou (bJ (xM Fr) [] E0 (aj (au 1) (aj (au 2) (aj (au 12) aG)))) (aZ D_ (au 4) (au 11)))
def Mq (K:SG)(Fr:jk):TS:=aP (cI (br (aZ Bh (gS (gn K) (aj (tI K 12 1) aG)) (tC (.int 100)))) (bU (tC (.bl true))) bY) (NP Fr)
def Mr (K:SG)(Fr:jk):TS:=aP (bh (bJ xQ [] E0 (aj (au 1) (aj (au 3) (aj (EG (sZ K) (au 9) jm (jn (au 11))) aG)))) (aE 12)) (Mq K Fr)
def Ms (K:SG)(Fr:jk):TS:=aP (bh (aZ bP (aZ fh (bJ jW [] E0 (aj (au 0) (aj (tC (.int 3)) aG))) (tC (.int 360))) (aZ cA (au 4) (tC (.int 1)))) (aE 11)) (Mr K Fr)
def Mv (K:SG)(Fr:jk):TS:=aP (cI (Be (br (aZ nX (au 10) (tC .bC))) (sM (tB (bJ A3 [] E0 (aj (au 2) (aj (au 10) aG)))))) K5 bY) (Ms K Fr)
def NQ (K:SG)(Fr:jk):TS:=aP (bh (bJ xQ [] E0 (aj (au 1) (aj (au 3) (aj (au 9) aG)))) (aE 10)) (Mv K Fr)
def Ji (K:SG) (Fr:jk):TS:=aP (cI (Be (br (aZ Kn (au 8) (tC (.str "told")))) (Be (sM (tB (CY K "list" (au 9)))) (br (aZ Kn (K6 K 9) (au 4))))) K5 bY) (NQ K Fr)
def J_ (K:SG) (Fr:jk):TS:=aP (cI (br (aZ nX (au 4) (tC .bC))) (bU (aZ ou (au 8) (tC (.str "none")))) bY) (aP (cI (br (aZ nX (au 5) (tC .bC))) (bh (tC (.int 60)) (aE 5)) bY) (aP (cI (br (aZ Bh (au 4) (au 5))) (bU (aZ ou (au 8) (tC (.str "long")))) bY) (Ji K Fr)))
def Mw (K:SG)(Fr:jk):TS:=aP (cI (Be (br (aZ F1 (au 6) (cJ (aj (au 1) (aj (au 2) aG))))) (br (aZ CZ (au 7) (au 3)))) K5 bY) (J_ K Fr)
def xU (a0 hp mp sp:Addr)(qD most:V)(hd gp:Addr)(wd fv:V)(x10 x11 x12:Option V):L2.St:=[some (.ref a0),some (.ref hp),some (.ref mp),some (.ref sp),some qD,some most,some (.ref hd),some (.ref gp),some wd,some fv,x10,x11,x12]
variable {most fv wd:V}{x10 x11 x12:Option V}{fl:Addr}
theorem l3 (hF:Fr=xT Ah) (i:Rd H a0 (.lst (sc.map .int))) (o:uE d) (T:Dz d t) (h:gu H hp mp d) (S:m5 H sp room stk) (zk:stk.length<=90) (lt:fz t room stk d.ends L r (some (v,e))) {y:Rw} (st:vL d.RL ns (room,stk) y) (mq:MP d.ms y.1 y.2 e) (ln:(ns.length:Int)=v) (zn:ns.length<=400) (hl:H fl=some (.lst (ns.map .int))) (k:∀ H',Same H H'->D.rt (.bl true) H'):Ji K Fr D (xU a0 hp mp sp (.int v) most hd gp (.str "told") (.ref fl) x10 x11 x12) H:=by
 have p2:∀ r∈d.RL,r.2.2.2.length<=2:=fun r hr=>(o.rr r hr).p;obtain⟨sl,hs1,hs2⟩:=S.h;refine⟨_,rfl,rfl,_,rfl,cM (Reads.LX (dd:=.lst []) (.va rfl) (.inl (.lst hl)) wF _ ⟨_,rfl,cM (Reads.DD (.va rfl) (.inl hl) _ ⟨_,rfl,rfl,_,rfl,?_⟩)⟩)⟩;rw[Ot,ln,OO rfl];refine cM ⟨_,rfl,_,rfl,_,rfl,.mk (x:=(room,stk)) h.LS hs1 (.inl hs2) (.inl hl) st (by lia) (by show stk.length<=1000;lia) p2 fun q l H1 s1 hq hlq=>?_⟩;have h1:=h.more s1;obtain⟨la,le,mv,ma⟩:=h1.m;show Mv K Fr D (xU a0 hp mp sp (.int v) most hd gp (.str "told") (.ref fl) (some (.ref q)) x11 x12) H1;refine⟨_,rfl,rfl,_,rfl,cM ⟨_,rfl,_,rfl,.mk ma o.m.z hq (.inl hlq) mq lt.path.1 fun H2 s2=>⟨_,rfl,cM ?_⟩⟩⟩;have s12:=s1.trans s2;show Ms K Fr D (xU a0 hp mp sp (.int v) most hd gp (.str "told") (.ref fl) (some (.ref q)) x11 x12) H2;refine⟨_,rfl,jW.mk (k:=3) (bb s12 i) ?_⟩;generalize FV sc 3=sd;have vp:0<v+1:=by lia
 have e1:=em (a:=sd / 360) vp;refine⟨_,_,rfl,rfl,⟨by decide,by decide⟩,_,rfl,_,_,rfl,rfl,_,_,rfl,rfl,vp,?_⟩;show Mr K Fr D (xU a0 hp mp sp (.int v) most hd gp (.str "told") (.ref fl) (some (.ref q)) (some (.int (sd / 360 % (v+1)))) x12) H2;generalize sd / 360 % (v+1)=dn at e1;obtain⟨n,rfl⟩:=Pu e1.1;have nl:n<=ns.length:=by lia
 rw[<- Qk n ns]at st;obtain⟨z,st1,st2⟩:=st.split;have KD:(ns.take n).length=n:=by rw[Py];lia
 have ld1:(ns.drop n).length=ns.length-n:=Qw;refine⟨_,rfl,_,rfl,_,rfl,_,rfl,_,rfl,fl,_,rfl,SqL.of (s12 _ _ hl),fun b hb=>?_⟩;rw[o7,<- List.map_take];have t3:=az (o:=.lst ((ns.take n).map .int)) hb;have c3:upd H2 b (.lst ((ns.take n).map .int)) b=some (.lst ((ns.take n).map .int)):=ao;generalize upd H2 b (.lst ((ns.take n).map .int))=H3 at t3 c3;have s13:=s12.trans t3;refine .mk (x:=(room,stk)) (h.more s13).LS (s13 _ _ hs1) (.inl (s13 _ _ hs2)) (.inl c3) st1 (by lia) (by show stk.length<=1000;lia) p2 fun q2 l2 H4 s4 hq2 hl2=>?_;have s14:=s13.trans s4;show Mq K Fr D (xU a0 hp mp sp (.int v) most hd gp (.str "told") (.ref fl) (some (.ref q)) (some (.int (n:Nat))) (some (.ref q2))) H4;refine fI (te:=aZ Bh (gS (gn K) (aj (tI K 12 1) aG)) (tC (.int 100))) (c:=decide (100<(((z.2.map V.int).length:Nat):Int))) (Reads.op (.DD (.ix (K:=K) (n:=1) (.va (i:=12) rfl) hq2 (v:=.ref l2) rfl) (.inl hl2)) .k fun _ q=>⟨_,_,rfl,rfl,q⟩) (fun _=>k H4 s14) fun c=>?_;have zz:z.2.length<=100:=by have:¬ (100:Int)<(((z.2.map V.int).length:Nat):Int):=fun w=>c (OO w);rw[Ot]at this;lia
 subst hF;refine⟨_,rfl,_,rfl,_,rfl,.mk ((h.more s14).wy o T (sp:=q2) (room:=z.1) (stk:=z.2) ⟨l2,hq2,hl2⟩ (by lia)) fun L' r' o' H5 s5 lt'=>?_⟩;obtain⟨e9,rfl⟩:=T.a.mid lt st1 st2 mq lt.path.1 (by rw[KD,ld1];lia) lt';rw[KD];refine⟨_,rfl,_,rfl,_,_,rfl,rfl,rfl,?_⟩;show D.rt (.bl (decide (V.int (v-(n:Nat))=V.int (v-(n:Nat))))) H5;rw[OO rfl];exact k H5 (s14.trans s5)
theorem NR {mo:Option Int}(k:Ji K Fr D (xU a0 hp mp sp (.int v) (.int (dw mo)) hd gp wd fv x10 x11 x12) H)(c:v<=dw mo):J_ K Fr D (xU a0 hp mp sp (.int v) (vO mo) hd gp wd fv x10 x11 x12) H:=by
 refine⟨_,rfl,rfl,_,rfl,cM ?_⟩;have fin:aP (cI (br (aZ Bh (au 4) (au 5))) (bU (aZ ou (au 8) (tC (.str "long")))) bY) (Ji K Fr) D (xU a0 hp mp sp (.int v) (.int (dw mo)) hd gp wd fv x10 x11 x12) H:=fI (te:=aZ Bh (au 4) (au 5)) (c:=decide (dw mo<v)) (Reads.op (.va (i:=4) rfl) (.va (i:=5) rfl) fun _ q=>⟨_,_,rfl,rfl,q⟩) (fun z=>by have:=O2 z;lia) fun _=>k;cases mo with
 |none=>exact⟨_,rfl,rfl,_,rfl,d8 fin⟩
 |some m=>exact⟨_,rfl,rfl,_,rfl,cM fin⟩
theorem NS {mo:Option Int} (k:D.rt (.bl true) H) (c:dw mo<v):J_ K Fr D (xU a0 hp mp sp (.int v) (vO mo) hd gp (.str "long") fv x10 x11 x12) H:=by
 refine⟨_,rfl,rfl,_,rfl,cM ?_⟩;have fin:aP (cI (br (aZ Bh (au 4) (au 5))) (bU (aZ ou (au 8) (tC (.str "long")))) bY) (Ji K Fr) D (xU a0 hp mp sp (.int v) (.int (dw mo)) hd gp (.str "long") fv x10 x11 x12) H:=fI (te:=aZ Bh (au 4) (au 5)) (c:=decide (dw mo<v)) (Reads.op (.va (i:=4) rfl) (.va (i:=5) rfl) fun _ q=>⟨_,_,rfl,rfl,q⟩) (fun _=>⟨_,rfl,rfl,by rw[OO rfl];exact k⟩) fun z=>(z (OO c)).elim;cases mo with
 |none=>exact⟨_,rfl,rfl,_,rfl,d8 fin⟩
 |some m=>exact⟨_,rfl,rfl,_,rfl,cM fin⟩
theorem AF (room:Int)(stk:List Int):L3.D.fA [.int room,.lst (stk.map .int)]<=49:=by have:=mU stk;show max 0 (max (L3.D.fA (stk.map L3.D.int)+1) 0)<=49;lia
theorem l1 {qD:V}{hp2 mp2:Addr}(h:gu H hp mp d)(h2:gu H hp2 mp2 d)(hl:H hd=some (.lst [.ref hp2,.ref mp2]))(S:m5 H sp room stk)(G:m5 H gp room stk)(k:∀ H',Same H H'->J_ K Fr D (xU a0 hp mp sp qD most hd gp wd fv x10 x11 x12) H'):Mw K Fr D (xU a0 hp mp sp qD most hd gp wd fv x10 x11 x12) H:=by refine⟨_,rfl,_,rfl,_,rfl,by show 2<=_;rw[OG];lia,fun l hl9=>?_⟩;have t1:=az (o:=.lst [.ref hp,.ref mp]) hl9;have c1:upd H l (.lst [.ref hp,.ref mp]) l=some (.lst [.ref hp,.ref mp]):=ao;generalize upd H l (.lst [.ref hp,.ref mp])=H1 at t1 c1;have q1:=h.more t1;have q2:=h2.more t1;refine⟨[ig d.ro d.sg d.RL,.tup [.int d.n,.lst (d.ms.map gV),.lst (d.ends.map .int)]],Tr,Tr,⟨hd,_,rfl,.inl ⟨t1 _ _ hl,True.intro⟩,_,_,rfl,q2.LZ,_,_,rfl,q2.FN,rfl⟩,⟨l,_,rfl,.inl ⟨c1,True.intro⟩,_,_,rfl,q1.LZ,_,_,rfl,q1.FN,rfl⟩,F9 d,_,rfl,cM ?_⟩;exact⟨_,rfl,_,rfl,_,Tr,Tr,(G.more t1).is,(S.more t1).is,AF room stk,_,rfl,cM (k H1 t1)⟩
def Mx (X:Cx)(Fr:jk)(CN CT:Addr)(E:XK):TS:=aP (bh (bJ (AR Fr CN CT) [] E (aj (aZ (kO X.K) (au 6) (tC (.int 0))) (aj (aZ (kO X.K) (au 6) (tC (.int 1))) (aj (au 7) (aj (au 5) aG))))) (dQ X.K 2 (be (aE 8) (be (aE 9) dP)))) (Mw X.K Fr)
def My (X:Cx)(Fr:jk)(CN CT:Addr)(E:XK):TS:=aP (bh (bJ A1 [] E0 (aj (au 1) (aj (au 2) aG))) (aE 6)) (aP (bh (cf (aj (tI X.K 3 0) (aj (gS (km X.K) (aj (tI X.K 3 1) aG)) aG))) (aE 7)) (Mx X Fr CN CT E))
def Mz (X:Cx)(Fr:jk)(CN CT:Addr)(E:XK):TS:=aP (bh (bJ (xM Fr) [] E0 (aj (au 1) (aj (au 2) (aj (au 3) aG)))) (aE 4)) (aP (bh (bJ AY [] E0 (aj (bJ jW [] E0 (aj (au 0) (aj (tC (.int 3)) aG))) (aj (au 4) aG))) (aE 5)) (My X Fr CN CT E))
def NT (X:Cx)(Fr:jk)(CN CT:Addr)(E:XK):TS:=aP (bh (bJ A6 [] E0 (aj (au 0) (aj (tC (.int 28)) aG))) (dQ X.K 2 (be (aE 1) (be (aE 2) dP)))) (aP (bh (bJ Ba [] E0 (aj (bJ jW [] E0 (aj (au 0) (aj (tC (.int 2)) aG))) (aj (tI X.K 1 0) (aj (tI X.K 1 1) aG)))) (aE 3)) (Mz X Fr CN CT E))
theorem Jj (h:gu H hp mp d):∃ rl,H hp=some (.tup [.int d.ro,.int d.sg,.ref rl]):=let ⟨rl,_,a,_,_⟩:=h.h;⟨rl,a⟩
theorem lx {x4 x5 x6 x7 x8 x9 x10 x11 x12:Option V}(hF:Fr=xT Ah)(i:Rd H a0 (.lst (sc.map .int)))(o:uE d)(T:Dz d t)(h:gu H hp mp d)(S:m5 H sp room stk)(zk:stk.length<=90)(k:∀ H',Same H H'->D.rt (.bl true) H'):Mz X Fr CN CT E D [some (.ref a0),some (.ref hp),some (.ref mp),some (.ref sp),x4,x5,x6,x7,x8,x9,x10,x11,x12] H:=by
 subst hF;refine⟨_,rfl,_,rfl,_,rfl,.mk (h.wy o T S (by lia)) fun L r qD H1 s1 lt=>?_⟩;have i1:=bb s1 i;refine⟨_,rfl,jW.mk (k:=3) i1 ⟨_,rfl,.mk fun mo hmo=>?_⟩⟩;have h1:=h.more s1;have S1:=S.more s1;show My X (xT Ah) CN CT E D [some (.ref a0),some (.ref hp),some (.ref mp),some (.ref sp),some (Bi qD),some (vO mo),x6,x7,x8,x9,x10,x11,x12] H1;refine⟨_,rfl,_,rfl,.mk h1 fun hd hp2 mp2 H2 s2 hhd h2=>?_⟩;obtain⟨sl,hs1,hs2⟩:=(S1.more s2).h;refine Reads.ix (K:=X.K) (n:=0) (.va (i:=3) rfl) hs1 (v:=.int room) rfl _ (Reads.ix (K:=X.K) (n:=1) (.va (i:=3) rfl) hs1 (v:=.ref sl) rfl _ ⟨sl,_,rfl,.inl (SqL.of hs2),fun gl hgl=>⟨by show 2<=_;rw[OG];lia,fun gp hgp=>?_⟩⟩);have t3:=az (o:=.lst (stk.map .int)) hgl;have c3:upd H2 gl (.lst (stk.map .int)) gl=some (.lst (stk.map .int)):=ao;generalize upd H2 gl (.lst (stk.map .int))=H3 at t3 c3 hgp;have t4:=az (o:=.tup [.int room,.ref gl]) hgp;have c4:upd H3 gp (.tup [.int room,.ref gl]) gp=some (.tup [.int room,.ref gl]):=ao;have c34:=t4 _ _ c3;show Mx X (xT Ah) CN CT E D [some (.ref a0),some (.ref hp),some (.ref mp),some (.ref sp),some (Bi qD),some (vO mo),some (.ref hd),some (.ref gp),x8,x9,x10,x11,x12] (upd H3 gp (.tup [.int room,.ref gl]));generalize upd H3 gp (.tup [.int room,.ref gl])=H4 at t4 c4 c34;have t34:=t3.trans t4;have t24:=s2.trans t34;have u4:=s1.trans t24;have hd4:=t34 _ _ hhd;have h24:=h2.more t34;have G:m5 H4 gp room stk:=⟨gl,c4,c34⟩;refine Reads.G_ (K:=X.K) (j:=0) (v:=.ref hp2) (.va (i:=6) rfl) .k (.inl hd4) rfl rfl _ (Reads.G_ (K:=X.K) (j:=1) (v:=.ref mp2) (.va (i:=6) rfl) .k (.inl hd4) rfl rfl _ ⟨_,rfl,_,rfl,?_⟩);have al:∀ as e c,eS t room as e c->as.map (·.2.1)=stk->c<=dw mo->∃ n ns,iz d.RL t n as ns/\n<1000000:=fun as e c p sg hc=>by
  obtain⟨ns,m,w,le⟩:=T.a.a.al _ _ as _ _ c rfl p rfl;have ln:as.length<=90:=by rw[<- Ot (f:=fun a:Pz.Arr=>a.2.1),sg];exact zk
  exact⟨m,ns,w,by lia⟩
 refine .mk (h24.wy o T G (by lia)) h24.LS T.a.a.g.nd al (fun L' r' v e as n ns l q H5 s5 lt' c pt sg ag hl hq=>ua hq ?_) (fun L' r' q H5 s5 lt' hq=>ua hq ?_) fun L' r' v e q H5 s5 lt' c hq=>ua hq ?_
 .have ev:Bi qD=.int v:=fz.det lt lt';rw[ev];obtain⟨⟨y,st,mq⟩,ln⟩:=T.a.wk ag _ _ _ pt;rw[sg]at st;have u5:=u4.trans s5;refine l1 (h.more u5) (h24.more s5) (s5 _ _ hd4) (S.more u5) (G.more s5) fun H6 s6=>?_;have u6:=u5.trans s6;exact NR (l3 rfl (bb u6 i) o T (h.more u6) (S.more u6) zk lt' st mq ln (by lia) (s6 _ _ hl) fun H7 s7=>k H7 (u6.trans s7)) c
 .have ev:Bi qD=.bC:=fz.det lt lt';rw[ev];have u5:=u4.trans s5;refine l1 (h.more u5) (h24.more s5) (s5 _ _ hd4) (S.more u5) (G.more s5) fun H6 s6=>?_;exact⟨_,rfl,rfl,_,rfl,d8 ⟨_,rfl,rfl,by rw[OO rfl];exact k H6 (u5.trans s6)⟩⟩
 .have ev:Bi qD=.int v:=fz.det lt lt';rw[ev];have u5:=u4.trans s5;refine l1 (h.more u5) (h24.more s5) (s5 _ _ hd4) (S.more u5) (G.more s5) fun H6 s6=>?_;exact NS (k H6 (u5.trans s6)) c
def AG (ds:List L3.D):Prop:=∃ sc:List Int,ds=[.lst (sc.map .int)]
noncomputable def vE (ds:List L3.D):Res R:=@ite _ (AG ds) (Classical.propDecidable _) (.ok (.val (.bl true) true [])) .stuck
theorem Jk {sc:List Int}:vE [.lst (sc.map .int)]=.ok (.val (.bl true) true []):=OK ⟨sc,rfl⟩
theorem xE {N:List Str}(hN:N.length=13)(hF:Fr=xT Ah)(h:y9 mg 1 vE vs H Q E):NT X Fr CN CT E (eQ Q) (bj N vs) H:=by
 obtain⟨hl,ds,Ma,is,post⟩:=h;unfold vE at post;by_cases hw:AG ds
 case neg=>rw[OL hw]at post;exact post.elim
 rw[OK hw]at post;obtain⟨sc,rfl⟩:=hw;obtain⟨v0,r0',rfl,i0,rfl⟩:=is;have es:L2.bj N [v0]=some v0::List.replicate 12 none:=by unfold L2.bj;rw[hN];rfl
 rw[es];have i1:=FN i0 fun _ _ e=>e;obtain⟨a0,wa,rfl,hla,iw⟩:=zE i1;rw[uk iw]at hla;refine⟨_,rfl,.mk hla ⟨by decide,by decide⟩ fun q hp mp d H1 s1 hq hm ok=>ua hq ?_⟩;obtain⟨t,T⟩:=ok.told;obtain⟨rl,hh⟩:=Jj hm;have i2:=bb s1 hla;have sb:=F_ sc 2;refine⟨_,rfl,jW.mk (k:=2) i2 (Reads.ix (K:=X.K) (n:=0) (.va (i:=1) rfl) hh (v:=.int d.ro) rfl _ (Reads.ix (K:=X.K) (n:=1) (.va (i:=1) rfl) hh (v:=.int d.sg) rfl _ (.mk ⟨sb.1,by lia⟩ ok.r.1 ⟨ok.s.1,by have:=ok.s.2;lia⟩ fun sp sl room stk H2 s2 hs1 hs2 hr zk hk=>?_)))⟩;exact lx hF (bb s2 i2) ok T (hm.more s2) ⟨sl,hs1,hs2⟩ zk fun H3 s3=>post _ _ ((s1.trans s2).trans s3) rfl
end
section
variable {K:SG}{H:Hp}{vs:List V}{Q:VK}{E:XK}
def Jl:TS:=bU (aZ bP (aZ jH (aZ jH (aZ cA (aZ bP (au 2) (tC (.int 2147483647))) (tC (.int 11))) (tC (.int 48271))) (tC (.int 69621))) (tC (.int 2147483629)))
def NU (K:SG):TS:=aP (bh (tC (.int 0)) (aE 2)) (aP (cI (br (aZ J3 (au 1) (gS (gn K) (aj (au 0) aG)))) (bh (aZ (kO K) (au 0) (au 1)) (aE 2)) bY) Jl)
theorem MA {l:Addr}{k c:Int}(q:Q (.int (IL c)) H):Jl (eQ Q) [some (.ref l),some (.int k),some (.int c)] H:=Reads.mod (.mul (.mul (.ad (.mod (.va rfl) .k (by decide)) .k) .k (by decide)) .k (by decide)) .k (by decide) _ q
theorem AH (h:jW vs H Q E):NU K (eQ Q) (bj (nS 3) vs) H:=by
 obtain @⟨H,l,sc,k,Q,E,hl,q⟩:=h;unfold FV at q;refine ii .k (fI (Reads.op (.va rfl) (.DD (.va rfl) hl) fun _ q=>⟨_,_,rfl,rfl,q⟩) (fun c=>?_) fun c=>?_)
 .have c:=O2 c;rw[Ot]at c;have lt:k<sc.length:=by lia
  rw[Ou lt]at q;exact ii (Reads.G_ (j:=k) (v:=.int sc[k]) (.va rfl) (.va rfl) hl (by rw[OD,Ou lt];rfl) rfl) (MA q)
 .have c:¬ (k:Int)<(sc.map V.int).length:=fun z=>c (OO z);rw[Ot]at c;rw[QA (by lia)]at q;exact MA q
end
end L4
namespace L3
open PySem L2
section
variable {env:En}{d:D}{al:List Nat}
theorem cB {α:Type}(a:α)(l:List α):uL (a::l) 0=some a:=by unfold uL DH;rw[OK (by lia),OK (by simp)];rfl
theorem CW {α:Type}(a b c:α)(l:List α):uL (a::b::c::l) 2=some c:=by unfold uL DH;rw[OK (by lia),OK (by simp;lia)];rfl
def Jm (n:Nat)(caps:List Nat)(asg:D->Bool->En->Option En)(test:En->Res Bool)(elt:En->Res R)(env:En)(s:Src):Res R:=if s.xs.length<=lim then
 (vg (fun d=>asg d s.fr (HG env n caps)) test elt s.xs).MJ.bind fun rs=>.ok (Mb (rs.map R.d) (HE rs) (s.al++caps.filter (DT env))) else .stuck
theorem Ga (n:Nat)(caps:List Nat)(src:En->Res Src)(asg:D->Bool->En->Option En)(test:En->Res Bool)(elt:En->Res R)(env:En) :
 HH n caps src asg test elt env=(src env).bind (Jm n caps asg test elt env):=(rfl)
end
theorem LK {α β:Type}(a:α)(k:α->Res β):(Res.ok a).bind k=k a:=(rfl)
end L3
local macro_rules|`(tactic| simp_arith[$as,*] $[$l:location]?)=>do
 let ls←("L3.KA L3.zd decide_true decide_false List.map_cons List.map_nil List.length_cons List.length_nil List.replicate List.cons_append List.nil_append List.append_nil Nat.reduceAdd Nat.max_self Nat.zero_max Nat.max_zero Nat.zero_add Nat.reduceSub List.getElem?_cons_zero List.getElem?_cons_succ Int.reduceLT Int.reduceLE Int.reduceNeg List.set_cons_zero List.set_cons_succ Nat.reduceLT Nat.reduceLeDiff L3.cB L3.CW Int.reduceBEq Bool.not_not Nat.reduceEqDiff L3.Ga Bool.and_true Bool.true_and Bool.and_false Bool.false_and Bool.and_self Bool.not_true Bool.not_false".splitOn " ").toArray.mapM fun s=>`(Lean.Parser.Tactic.simpLemma| $(Lean.mkIdent s.toName):ident)
 `(tactic| simp only[$[$ls:simpLemma],*,$as,*] $[$l]?)
local macro_rules|`(tactic| simp_arith $[$l:location]?)=>`(tactic| simp_arith[L3.LK] $[$l]?)
namespace L3
open PySem L2
end L3
namespace W
open PySem PySem.Spec PyProof.Rows L2 L3 L4
def top (i:Nat):Stmt:=PySem.Challenge.pw_callwalk_k25_way_is_walked.main.body.getD i (.Pass ⟨0,0,0,0⟩)
abbrev fq:Stmt:=top 25
noncomputable abbrev N__law_seed_at:List Str:=["_law_script", "_law_k", "_law_cell"]
abbrev db:List Str:=N__law_seed_at.take 2
theorem sc__law_seed_at:aT N__law_seed_at db (aC fq):=bK
abbrev dU:Stmt:=top 28
noncomputable abbrev N__law_arrow_by:List Str:=["_law_cell", "_law_rooms", "_law_own", "_law_signs", "_law_number", "_law_state", "_law_sign"]
abbrev cK:List Str:=N__law_arrow_by.take 4
theorem sc__law_arrow_by:aT N__law_arrow_by cK (aC dU):=bK
abbrev bS:Stmt:=top 31
noncomputable abbrev N__law_machine_by:List Str:=["_law_cell", "_law_cells", "_law_rooms", "_law_own", "_law_signs", "_law_form", "_law_head", "_law_arrows", "_law_ends"]
abbrev cv:List Str:=N__law_machine_by.take 5
theorem sc__law_machine_by:aT N__law_machine_by cv (aC bS):=bK
abbrev ft:Stmt:=top 27
noncomputable abbrev N__law_rule_by:List Str:=["_law_cell", "_law_rooms", "_law_signs", "_law_number", "_law_kind", "_law_room", "_law_sign", "_law_to", "_law_one", "_law_put"]
abbrev dc:List Str:=N__law_rule_by.take 3
theorem sc__law_rule_by:aT N__law_rule_by dc (aC ft):=bK
abbrev de:Stmt:=top 32
noncomputable abbrev N__law_made_by:List Str:=["_law_script", "_law_most", "_law_shape", "_law_seed", "_law_rooms", "_law_signs", "_law_own", "_law_many", "_law_machine", "_law_rules"]
abbrev dg:List Str:=N__law_made_by.take 2
theorem sc__law_made_by:aT N__law_made_by dg (aC de):=bK
abbrev dW:Stmt:=top 29
noncomputable abbrev N__law_stack_by:List Str:=["_law_cell", "_law_size", "_law_signs", "_law_found", "_law_number", "_law_k", "_law_sign"]
abbrev cL:List Str:=N__law_stack_by.take 3
theorem sc__law_stack_by:aT N__law_stack_by cL (aC dW):=bK
abbrev cS:Stmt:=top 30
noncomputable abbrev N__law_standing_by:List Str:=["_law_cell", "_law_rooms", "_law_signs", "_law_size"]
abbrev ck:List Str:=N__law_standing_by.take 3
theorem sc__law_standing_by:aT N__law_standing_by ck (aC cS):=bK
abbrev gG:Stmt:=top 6
noncomputable abbrev N_is_plain:List Str:=["house", "machine"]
abbrev gH:List Str:=N_is_plain.take 2
theorem sv:aT N_is_plain gH (aC gG):=bK
abbrev cr:Stmt:=top 7
noncomputable abbrev gW:List Str:=["house", "machine"]
noncomputable abbrev bX:List Str:=["house", "machine"]
theorem gI:aT gW bX (aC cr):=bK
def dt:List D->Res R:=L4.Ah
abbrev dz:Stmt:=top 11
noncomputable abbrev ko:List Str:=["house", "rules", "number", "rule"]
noncomputable abbrev dC:List Str:=["house"]
theorem sc_rules_by_start:aT ko dC (aC dz):=bK
abbrev mV:Stmt:=top 13
noncomputable abbrev N_prices:List Str:=["house", "machine", "pricing", "arrow", "number", "rule"]
abbrev jJ:List Str:=N_prices.take 2
theorem sc_prices:aT N_prices jJ (aC mV):=bK
abbrev Gb:Stmt:=d7 (top 9) 0
theorem Jn:aT ["self"] ["self"] (aC Gb):=bK
abbrev Gc:Stmt:=d7 (top 9) 1
theorem Jo:aT ["self", "price", "thing"] ["self", "price", "thing"] (aC Gc):=bK
abbrev Ge:Stmt:=d7 (top 9) 2
theorem Jp:aT ["self"] ["self"] (aC Ge):=bK
abbrev Dy:Stmt:=d7 (top 9) 3
theorem sc_QT:aT ["self", "pile", "price", "thing"] ["self"] (aC Dy):=bK
abbrev Gf:Stmt:=d7 (top 12) 0
theorem Jq:aT ["self", "house"] ["self", "house"] (aC Gf):=bK
abbrev Gg:Stmt:=d7 (top 12) 1
theorem sc_PO:aT ["self", "arrow", "price", "number", "mid", "known"] ["self", "arrow", "price", "number", "mid"] (aC Gg):=bK
abbrev Gh:Stmt:=d7 (top 12) 2
theorem sc_PS:aT ["self", "arrow", "price", "start", "number", "rule", "first"] ["self", "arrow", "price"] (aC Gh):=bK
abbrev Gi:Stmt:=d7 (top 12) 3
theorem sc_PF:aT ["self", "number", "rule", "mid", "price", "start", "state", "second"] ["self", "number", "rule", "mid", "price"] (aC Gi):=bK
abbrev Gj:Stmt:=d7 (top 12) 4
theorem sc_PA:aT ["self", "price", "arrow"] ["self"] (aC Gj):=bK
def jK:List D->Res R:=L4.xT dt
abbrev fU:Stmt:=top 15
noncomputable abbrev nY:List Str:=["told", "leading", "arrow", "price"]
noncomputable abbrev dE:List Str:=["told"]
theorem sc_priced_from:aT nY dE (aC fU):=bK
abbrev gJ:Stmt:=top 16
noncomputable abbrev N_sums_ahead:List Str:=["leading", "sums", "sign", "ahead", "state", "reached", "arrow", "price", "known"]
abbrev d_:List Str:=N_sums_ahead.take 3
theorem sc_sums_ahead:aT N_sums_ahead d_ (aC gJ):=bK
abbrev gK:Stmt:=top 17
noncomputable abbrev N_sums_along:List Str:=["told", "standing", "leading", "rows", "sign"]
abbrev eh:List Str:=N_sums_along.take 2
theorem sc_sums_along:aT N_sums_along eh (aC gK):=bK
abbrev eB:Stmt:=top 18
noncomputable abbrev jL:List Str:=["machine", "sums"]
noncomputable abbrev eF:List Str:=["machine", "sums"]
theorem nZ:aT jL eF (aC eB):=bK
abbrev qk:Stmt:=top 19
noncomputable abbrev N_least:List Str:=["house", "machine", "standing", "lowest"]
abbrev lC:List Str:=N_least.take 3
theorem sc_least:aT N_least lC (aC qk):=bK
abbrev fw:Stmt:=top 37
noncomputable abbrev N__law_most_by:List Str:=["_law_cell", "_law_due", "_law_form"]
abbrev dh:List Str:=N__law_most_by.take 2
theorem sc__law_most_by:aT N__law_most_by dh (aC fw):=bK
abbrev ij:Stmt:=top 33
noncomputable abbrev N__law_copy:List Str:=["_law_house", "_law_machine"]
abbrev fK:List Str:=N__law_copy.take 2
theorem ql:aT N__law_copy fK (aC ij):=bK
abbrev fV:Stmt:=top 20
noncomputable abbrev n8:List Str:=["rows", "state", "arrows", "sums", "arrow"]
noncomputable abbrev dF:List Str:=["rows", "state"]
theorem sc_arrows_back:aT n8 dF (aC fV):=bK
abbrev gL:Stmt:=top 21
noncomputable abbrev N_parts_back:List Str:=["rule", "mid", "state"]
abbrev eG:List Str:=N_parts_back.take 3
theorem n9:aT N_parts_back eG (aC gL):=bK
abbrev fW:Stmt:=top 22
noncomputable abbrev N_rules_along:List Str:=["house", "told", "arrows", "due", "numbers", "arrow", "number"]
abbrev dG:List Str:=N_rules_along.take 3
theorem sc_rules_along:aT N_rules_along dG (aC fW):=bK
abbrev AI:Stmt:=top 23
noncomputable abbrev N_way:List Str:=["house", "machine", "standing", "most", "told", "rows", "lowest"]
abbrev vF:List Str:=N_way.take 4
theorem sc_way:aT N_way vF (aC AI):=bK
abbrev fX:Stmt:=top 36
noncomputable abbrev N__law_way_of:List Str:=["_law_house", "_law_machine", "_law_standing", "_law_most", "_law_found", "_law_word", "_law_kinds", "e"]
abbrev dH:List Str:=N__law_way_of.take 4
theorem sc__law_way_of:aT N__law_way_of dH (aC fX):=bK
abbrev gM:Stmt:=top 26
noncomputable abbrev qo:List Str:=["_law_found"]
noncomputable abbrev eJ:List Str:=["_law_found"]
theorem n_:aT qo eJ (aC gM):=bK
abbrev fY:Stmt:=top 35
noncomputable abbrev N__law_walked:List Str:=["_law_house", "_law_standing", "_law_numbers", "_law_room", "_law_stack", "_law_number", "_law_rule"]
abbrev dI:List Str:=N__law_walked.take 3
theorem sc__law_walked:aT N__law_walked dI (aC fY):=bK
abbrev di:Stmt:=top 34
noncomputable abbrev N__law_taken:List Str:=["_law_machine", "_law_standing", "_law_states", "_law_sign"]
abbrev eL:List Str:=N__law_taken.take 2
theorem sc__law_taken:aT N__law_taken eL (aC di):=bK
abbrev AJ:Stmt:=top 38
noncomputable abbrev N_law:List Str:=["_law_script", "_law_house", "_law_machine", "_law_standing", "_law_due", "_law_most", "_law_handed", "_law_given", "_law_word", "_law_found", "_law_last", "_law_done", "_law_between"]
abbrev vG:List Str:=N_law.take 1
theorem sc_law:aT N_law vG (aC AJ):=bK
def vH:List D->Res R:=L4.vE
set_option genInjectivity false in
structure Tx (K:SG) (mg:Str->Option SI) where
 nJ:Df K mg "_law_seed_at" fq db
 Bk:Df K mg "_law_arrow_by" dU cK
 Bj:Df K mg "_law_machine_by" bS cv
 Bn:Df K mg "_law_rule_by" ft dc
 By:Df K mg "_law_made_by" de dg
 Bp:Df K mg "_law_stack_by" dW cL
 Bv:Df K mg "_law_standing_by" cS ck
 Bm:Df K mg "is_plain" gG gH
 Bo:Df K mg "refuse_unless_plain" cr bX
 BC:Df K mg "rules_by_start" dz dC
 xN:Df K mg "prices" mV jJ
 Br:Df K mg "priced_from" fU dE
 BF:Df K mg "sums_ahead" gJ d_
 xG:Df K mg "sums_along" gK eh
 xJ:Df K mg "lowest_end" eB eF
 xF:Df K mg "least" qk lC
 Bz:Df K mg "_law_most_by" fw dh
 Bl:Df K mg "_law_copy" ij fK
 Bt:Df K mg "arrows_back" fV dF
 BJ:Df K mg "parts_back" gL eG
 BB:Df K mg "rules_along" fW dG
 xL:ME K mg "way" AI vF 60
 Bs:Df K mg "_law_way_of" fX dH
 BI:Df K mg "_law_whole" gM eJ
 xH:Df K mg "_law_walked" fY dI
 BD:Df K mg "_law_taken" di eL
 BA:Df K mg "law" AJ vG
 GK:mg "all"=none
 DC:mg "bool"=none
 cX:mg "divmod"=none
 jO:mg "enumerate"=none
 A8:mg "int"=none
 bN:mg "isinstance"=none
 fZ:mg "len"=none
 eR:mg "list"=none
 GT:mg "max"=none
 qA:mg "min"=none
 jP:mg "range"=none
 sD:mg "reversed"=none
 Bc:mg "set"=none
 ku:mg "sorted"=none
 AW:mg "tuple"=none
 bo:Addr
 kK:XC K mg "WalkError" bo
 fM:(fQ K bo).contains (.ref bo)=true
 bA:Addr
 m9:XC K mg "NotPlain" bA
 gR:(fQ K bA).contains (.ref bA)=true
 bu:Addr
 lD:XC K mg "NoWay" bu
 jR:(fQ K bu).contains (.ref bu)=true
 aV:Addr
 iJ:XC K mg "TooLong" aV
 gs:(fQ K aV).contains (.ref aV)=true
 m_:uB K bu
 nH:uB K aV
 AT:(fQ K aV).contains (.ref bu)=false
 ng:PySem.W.kitOne K (.ref bu) (.ref bo)=some true
 nB:PySem.W.kitOne K (.ref bu) (.ref aV)=some false
 m7:PySem.W.kitOne K (.ref bu) (.ref bA)=some false
 m8:PySem.W.kitOne K (.ref aV) (.ref bo)=some true
 nj:PySem.W.kitOne K (.ref aV) (.ref bu)=some false
 nh:PySem.W.kitOne K (.ref aV) (.ref bA)=some false
 CQ:Addr
 kQ:qx K CQ
 gQ:mg "Queue"=some (.ref CQ)
 CP:Addr
 kP:iU K CP
 gP:mg "Pricing"=some (.ref CP)
 GO:Mf K CQ "__init__" "Queue.__init__" Gb ["self"]
 GB:Mk K CQ GO.f
 DA:Mf K CQ "add" "Queue.add" Gc ["self", "price", "thing"]
 GE:Mf K CQ "is_empty" "Queue.is_empty" Ge ["self"]
 GP:Mf K CQ "take_lowest" "Queue.take_lowest" Dy ["self"]
 GN:Mf K CP "__init__" "Pricing.__init__" Gf ["self", "house"]
 GM:Mk K CP GN.f
 uz:Mf K CP "offer" "Pricing.offer" Gg ["self", "arrow", "price", "number", "mid"]
 GI:Mf K CP "settle" "Pricing.settle" Gh ["self", "arrow", "price"]
 GF:Mf K CP "settle_first" "Pricing.settle_first" Gi ["self", "number", "rule", "mid", "price"]
 GH:Mf K CP "settle_all" "Pricing.settle_all" Gj ["self"]
section
variable {P:SH}{w:World}{K:SG}{mg:Str->Option SI}{base:Heap}(t:Tx K mg)
theorem cn:bF P w K mg base gU 1 t.nJ.f t.nJ.fd db jW:=
 t.nJ.h.fu.ok sc__law_seed_at (fun _ _ _ _ h=>Ad h) fun cdv A outer s H vs Q E hr h=>
  have hu:=hr.units
  ⟨_,(ay (aO (i:=2) sc__law_seed_at.nd rfl (Or.inl rfl) aw)
    (ay (cc (aU uJ (pv 1) (aW cD (by rfl) t.fZ Qh (ac (pv 0) ax)) (aY _)) (aD (aO (i:=2) sc__law_seed_at.nd rfl (Or.inl rfl) (aJ d6 (pv 0) (pv 1) (fun _ _=>rfl)))) bq)
    (aD (ba (aQ bz (aQ g8 (aQ g8 (aQ b6 (aQ bz (pv 2) aw) aw) aw) aw) aw))))),AH h⟩
theorem kq:bF P w K mg base gU 1 t.Bk.f t.Bk.fd cK A_:=
 t.Bk.h.fu.ok sc__law_arrow_by (fun _ _ _ _ h=>Aq h) fun cdv A outer s H vs Q E hr h=>
  have hu:=hr.units
  ⟨_,(ay (aO (i:=4) sc__law_arrow_by.nd rfl (Or.inl rfl) (aQ bz (aQ g8 (pv 0) aw) aw))
    (ay (fO (aW cW (by rfl) t.cX (by decide +kernel) (ac (pv 4) (ac aw ax))) (bZ rfl (aK (aI (i:=4) sc__law_arrow_by.nd rfl (Or.inl rfl)) (aK (aI (i:=5) sc__law_arrow_by.nd rfl (Or.inl rfl)) bI))))
    (ay (fO (aW cW (by rfl) t.cX (by decide +kernel) (ac (pv 4) (ac aw ax))) (bZ rfl (aK (aI (i:=4) sc__law_arrow_by.nd rfl (Or.inl rfl)) (aK (aI (i:=6) sc__law_arrow_by.nd rfl (Or.inl rfl)) bI))))
    (aD (ba (bf (ac (aQ bz (pv 5) (aQ b6 (pv 1) (pv 2))) (ac (aQ bz (pv 6) (pv 3)) (ac (aQ b6 (pv 1) (aQ bz (pv 4) (pv 2))) ax))))))))),Dn h⟩
theorem Gk:((["_law_sign"]:List Str)++(["_law_rooms"]:List Str)).Nodup:=by decide +kernel
theorem Gm:((["_law_one"]:List Str)++(["_law_rooms", "_law_own", "_law_signs"]:List Str)).Nodup:=by decide +kernel
theorem Gn:((["_law_state"]:List Str)++(["_law_cell"]:List Str)).Nodup:=by decide +kernel
theorem jj:bF P w K mg base gU 2 t.Bj.f t.Bj.fd cv AQ:=
 t.Bj.h.fu.ok sc__law_machine_by (fun _ _ _ _ h=>Aw h) fun cdv A outer s H vs Q E hr h=>
  have hu:=hr.units
  ⟨_,(ay (aO (i:=5) sc__law_machine_by.nd rfl (Or.inl rfl) (aQ bz (aQ cC (pv 0) aw) aw))
    (ay (cc (aU dY (pv 5) aw (aY _)) (ay (aO (i:=6) sc__law_machine_by.nd rfl (Or.inl rfl) (bf (ac (aQ bz (aQ cC (pv 0) aw) (pv 2)) (ac (aQ bz (aQ cC (pv 0) aw) (pv 4)) (ac (pv 2) ax)))))
    (aD (ba (bf (ac (aQ b6 (pv 2) aw) (ac (aW Av (by rfl) t.ku (by decide +kernel) (ac (aQ yr (bH (ac (pv 6) ax)) (gq (tN:=["_law_sign"]) (capN:=["_law_rooms"]) (caps:=[2]) rfl (cH.of (osc:=aC bS) (N:=N__law_machine_by) rfl rfl (by decide +kernel)) (jY (by rfl) t.jP (ac (pv 4) ax)))) ax)) (ac (bH (ac (pv 2) ax)) ax))))))) bq)
    (ay (cc (aU dY (pv 5) aw (aY _)) (aD (ba (bf (ac (pv 2) (ac (bH ax) (ac (wq rfl (by rfl) t.eR (by decide +kernel) (by rfl) t.jP (ac (pv 2) ax)) ax)))))) bq)
    (ay (mS (i:=7) (tN:=["_law_one"]) (capN:=["_law_rooms", "_law_own", "_law_signs"]) (caps:=[2,3,4]) rfl (cH.of (osc:=aC bS) (N:=N__law_machine_by) rfl rfl (by decide +kernel)) sc__law_machine_by.nd rfl rfl (b8 (pv 1)))
    (ay (mS (i:=8) (tN:=["_law_state"]) (capN:=["_law_cell"]) (caps:=[0]) rfl (cH.of (osc:=aC bS) (N:=N__law_machine_by) rfl rfl (by decide +kernel)) sc__law_machine_by.nd rfl rfl (jY (by rfl) t.jP (ac (aQ b6 (pv 2) (pv 3)) ax)))
    (aD (ba (bf (ac (aQ b6 (pv 2) (pv 3)) (ac (aW (xw rfl) (by rfl) t.ku (by decide +kernel) (ac (cg (xu rfl hu) (by rfl) t.Bc (by decide +kernel) (ac (pv 7) ax)) ax)) (ac (pv 8) ax))))))))))),Ds (S:=⟨_,_,_,_,_,_,_,_,_,_,_,_,_,_,_,_,_,_,_⟩) ⟨⟨rfl,rfl,fun _ _ _ _ _=>aI (i:=0) Gk rfl (Or.inl rfl),fun _ _ _ _ _=>(bf (ac (pv 1) (ac (pv 0) (ac (pv 1) ax))))⟩,⟨rfl,rfl,fun _ _ _ _ _=>aI (i:=0) Gm rfl (Or.inl rfl),fun _ _ _ _ _=>(a_ (kq t) (hr.mono (by decide)) rfl t.Bk.h.gl t.Bk.h.fu.kp t.Bk.h.bi .nil bp (ac (pv 0) (ac (pv 1) (ac (pv 2) (ac (pv 3) ax)))))⟩,⟨rfl,rfl,fun _ _ _ _ _=>aI (i:=0) Gn rfl (Or.inl rfl),fun _ _ _ _ _=>lh (aU dY (aQ EA (aQ Ez (aQ bz (aQ cC (pv 1) aw) aw) (pv 0)) aw) aw (aY _)),fun _ _ _ _ _=>pv 0⟩⟩ h⟩
theorem kT:bF P w K mg base gU 1 t.Bn.f t.Bn.fd dc AU:=
 t.Bn.h.fu.ok sc__law_rule_by (fun _ _ _ _ h=>Ap h) fun cdv A outer s H vs Q E hr h=>
  have hu:=hr.units
  ⟨_,(ay (aO (i:=3) sc__law_rule_by.nd rfl (Or.inl rfl) (aQ bz (aQ g8 (pv 0) aw) aw))
    (ay (fO (aW cW (by rfl) t.cX (by decide +kernel) (ac (pv 3) (ac aw ax))) (bZ rfl (aK (aI (i:=3) sc__law_rule_by.nd rfl (Or.inl rfl)) (aK (aI (i:=4) sc__law_rule_by.nd rfl (Or.inl rfl)) bI))))
    (ay (fO (aW cW (by rfl) t.cX (by decide +kernel) (ac (pv 3) (ac aw ax))) (bZ rfl (aK (aI (i:=3) sc__law_rule_by.nd rfl (Or.inl rfl)) (aK (aI (i:=5) sc__law_rule_by.nd rfl (Or.inl rfl)) bI))))
    (ay (fO (aW cW (by rfl) t.cX (by decide +kernel) (ac (pv 3) (ac aw ax))) (bZ rfl (aK (aI (i:=3) sc__law_rule_by.nd rfl (Or.inl rfl)) (aK (aI (i:=6) sc__law_rule_by.nd rfl (Or.inl rfl)) bI))))
    (ay (fO (aW cW (by rfl) t.cX (by decide +kernel) (ac (pv 3) (ac aw ax))) (bZ rfl (aK (aI (i:=3) sc__law_rule_by.nd rfl (Or.inl rfl)) (aK (aI (i:=7) sc__law_rule_by.nd rfl (Or.inl rfl)) bI))))
    (ay (fO (aW cW (by rfl) t.cX (by decide +kernel) (ac (pv 3) (ac aw ax))) (bZ rfl (aK (aI (i:=3) sc__law_rule_by.nd rfl (Or.inl rfl)) (aK (aI (i:=8) sc__law_rule_by.nd rfl (Or.inl rfl)) bI))))
    (ay (aO (i:=9) sc__law_rule_by.nd rfl (Or.inl rfl) (bH (ac (aQ bz (pv 8) (pv 2)) (ac (aQ bz (pv 3) (pv 2)) ax))))
    (aD (ba (bf (ac (aQ bz (pv 5) (pv 1)) (ac (aQ bz (pv 6) (pv 2)) (ac (aQ bz (pv 7) (pv 1)) (ac (cg xC (by rfl) t.AW (by decide +kernel) (ac (f_ iD (pv 9) kY (fC (pv 4))) ax)) ax)))))))))))))),Dm h⟩
theorem Gp:((["_law_cell"]:List Str)++(["_law_rooms", "_law_signs"]:List Str)).Nodup:=by decide +kernel
theorem kU:bF P w K mg base gU 3 t.By.f t.By.fd dg A6:=
 t.By.h.fu.ok sc__law_made_by (fun _ _ _ _ h=>Ax h) fun cdv A outer s H vs Q E hr h=>
  have hu:=hr.units
  ⟨_,(ay (aO (i:=2) sc__law_made_by.nd rfl (Or.inl rfl) (a_ (cn t) (hr.mono (by decide)) rfl t.nJ.h.gl t.nJ.h.fu.kp t.nJ.h.bi .nil bp (ac (pv 0) (ac aw ax))))
    (ay (aO (i:=3) sc__law_made_by.nd rfl (Or.inl rfl) (a_ (cn t) (hr.mono (by decide)) rfl t.nJ.h.gl t.nJ.h.fu.kp t.nJ.h.bi .nil bp (ac (pv 0) (ac aw ax))))
    (ay (aO (i:=4) sc__law_made_by.nd rfl (Or.inr rfl) (aQ b6 aw (aQ bz (pv 2) aw)))
    (ay (aO (i:=5) sc__law_made_by.nd rfl (Or.inr rfl) (aQ b6 aw (aQ bz (aQ cC (pv 2) aw) aw)))
    (ay (aO (i:=6) sc__law_made_by.nd rfl (Or.inl rfl) (aQ bz (aQ cC (pv 2) aw) aw))
    (ay (aO (i:=7) sc__law_made_by.nd rfl (Or.inl rfl) (aQ g8 (aQ bz (pv 3) aw) (cg vV (by rfl) t.A8 (by decide +kernel) (ac (gy qM (pv 6) aw (aY _)) ax))))
    (ay (aO (i:=8) sc__law_made_by.nd rfl (Or.inl rfl) (a_ (jj t) (hr.mono (by decide)) rfl t.Bj.h.gl t.Bj.h.fu.kp t.Bj.h.bi .nil bp (ac (pv 3) (ac (f_ iD (pv 0) (fC aw) (fC (aQ b6 aw (pv 7)))) (ac (pv 4) (ac (pv 6) (ac (pv 5) ax)))))))
    (ay (mS (i:=9) (tN:=["_law_cell"]) (capN:=["_law_rooms", "_law_signs"]) (caps:=[4,5]) rfl (cH.of (osc:=aC de) (N:=N__law_made_by) rfl rfl (by decide +kernel)) sc__law_made_by.nd rfl rfl (b8 (f_ iD (pv 0) (fC (aQ b6 aw (pv 7))) (fC (aQ b6 (aQ b6 aw (pv 7)) (pv 1))))))
    (aD (ba (bf (ac (bf (ac (pv 4) (ac (pv 5) (ac (pv 9) ax)))) (ac (pv 8) ax))))))))))))),Dt ⟨rfl,rfl,fun _ _ _ _ _=>aI (i:=0) Gp rfl (Or.inl rfl),fun _ _ _ _ _=>(a_ (kT t) (hr.mono (by decide)) rfl t.Bn.h.gl t.Bn.h.fu.kp t.Bn.h.bi .nil bp (ac (pv 0) (ac (pv 1) (ac (pv 2) ax))))⟩ h⟩
theorem kr:bF P w K mg base gU 1 t.Bp.f t.Bp.fd cL AS:=
 t.Bp.h.fu.ok sc__law_stack_by (fun _ _ _ _ h=>Ar h) fun cdv A outer s H vs Q E hr h=>
  have hu:=hr.units
  ⟨_,(ay (aO (i:=3) sc__law_stack_by.nd rfl (Or.inl rfl) (bH ax))
    (ay (aO (i:=4) sc__law_stack_by.nd rfl (Or.inl rfl) (aQ g8 (aQ bz (pv 0) (aQ yd aw aw)) (aQ yd aw aw)))
    (ay (cF O7 rfl (jY (by rfl) t.jP (ac (pv 1) ax)) (aI (i:=5) sc__law_stack_by.nd rfl (Or.inl rfl)) (ay (fO (aW cW (by rfl) t.cX (by decide +kernel) (ac (pv 4) (ac (pv 2) ax))) (bZ rfl (aK (aI (i:=4) sc__law_stack_by.nd rfl (Or.inl rfl)) (aK (aI (i:=6) sc__law_stack_by.nd rfl (Or.inl rfl)) bI))))
    (aD (bL (eZ O6 Pg Ph cp (pv 3) (ac (aQ bz (aQ b6 (pv 6) (aQ g8 (aQ g8 (pv 5) (pv 5)) (aQ cC (pv 1) aw))) (pv 2)) ax))))))
    (aD (ba (pv 3)))))),Do h⟩
theorem iQ:bF P w K mg base gU 2 t.Bv.f t.Bv.fd ck Ba:=
 t.Bv.h.fu.ok sc__law_standing_by (fun _ _ _ _ h=>Au h) fun cdv A outer s H vs Q E hr h=>
  have hu:=hr.units
  ⟨_,(ay (aO (i:=3) sc__law_standing_by.nd rfl (Or.inl rfl) (aQ bz (aQ cC (pv 0) aw) aw))
    (ay (cc (aU dY (aQ bz (aQ cC (pv 0) aw) aw) aw (aY _)) (aD (aO (i:=3) sc__law_standing_by.nd rfl (Or.inl rfl) (aQ b6 aw (aQ bz (aQ cC (pv 0) aw) aw)))) bq)
    (aD (ba (bf (ac (aQ bz (aQ bz (pv 0) aw) (pv 1)) (ac (a_ (kr t) (hr.mono (by decide)) rfl t.Bp.h.gl t.Bp.h.fu.kp t.Bp.h.bi .nil bp (ac (aQ cC (pv 0) aw) (ac (pv 3) (ac (pv 2) ax)))) ax))))))),Dq h⟩
theorem Gq:((["arrow"]:List Str)++(["house"]:List Str)).Nodup:=by decide +kernel
theorem sA:bF P w K mg base gU 1 t.Bm.f t.Bm.fd gH A4:=
 t.Bm.h.fu.ok sv (fun _ _ _ _ h=>Ai h) fun cdv A outer s H vs Q E hr h=>
  have hu:=hr.units
  ⟨_,(aD (ba (aW (xy rfl) (by rfl) t.GK (by decide +kernel) (ac (gq (tN:=["arrow"]) (capN:=["house"]) (caps:=[0]) rfl (cH.of (osc:=aC gG) (N:=N_is_plain) rfl rfl (by decide +kernel)) (b8 (aJ aH (pv 1) aw (fun _ _=>rfl)))) ax)))),Dh ⟨rfl,rfl,fun _ _ _ _ _=>aI (i:=0) Gq rfl (Or.inl rfl),fun _ _ _ _ _=>(gy Hm (aJ aH (pv 0) aw (fun _ _=>rfl)) (aJ aH (pv 1) aw (fun _ _=>rfl)) (aY _))⟩ h⟩
theorem gN:bF P w K mg base gU 2 t.Bo.f t.Bo.fd bX (y9 mg 2 dt):=
 t.Bo.h.fu.ok gI (fun _ _ _ _ h=>h.1) fun cdv A outer s H vs Q E hr h=>
  have hu:=hr.units
  ⟨_,(aD (cc (jX (lF (a_ (sA t) (hr.mono (by decide)) rfl t.Bm.h.gl t.Bm.h.fu.kp t.Bm.h.bi .nil bp (ac (pv 0) (ac (pv 1) ax))))) FQ bq)),Aj h⟩
theorem Jr:bF P w K mg base gU 1 t.GO.f t.GO.fd ["self"] (jU t.CQ):=t.GO.h.fu.ok Jn (fun _ _ _ _ h=>rS h) fun cdv A outer s H vs Q E hr h=>⟨_,ay (g9 (pv 0) aw rfl) (aD (g9 (pv 0) qW rfl)),uc t.kQ h⟩
theorem Eg:bF P w K mg base gU 1 t.DA.f t.DA.fd ["self", "price", "thing"] (o_ t.CQ):=
 t.DA.h.fu.ok Jo (fun _ _ _ _ h=>wV h) fun cdv A outer s H vs Q E hr h=>
  ⟨_,aD (bL (eZ O6 Pg Ph cp (eZ O8 Po PZ B8 (cq (pv 0) rfl)
    (ac (s_ PySem.F.plainAttrs_int PySem.F.slot_int_bit_length PySem.F.type_int_bit_length CA (aQ EB (pv 1) (cq (pv 0) rfl))) (ac (bH ax) ax))) (ac (bf (ac (pv 1) (ac (pv 2) ax))) ax))),zq t.kQ h rfl⟩
theorem Js:bF P w K mg base gU 1 t.GE.f t.GE.fd ["self"] (jS t.CQ):=t.GE.h.fu.ok Jp (fun _ _ _ _ h=>rT h) fun cdv A outer s H vs Q E hr h=>⟨_,aD (ba (gy dY (aW wY (by rfl) t.fZ Qh (ac (cq (pv 0) rfl) ax)) aw (aY _))),ud t.kQ h⟩
theorem sB:bF P w K mg base gU 2 t.uz.f t.uz.fd ["self", "arrow", "price", "number", "mid"] (dJ t.CP t.CQ):=
 t.uz.h.fu.ok sc_PO (fun _ _ _ _ h=>rV h) fun cdv A outer s H vs Q E hr h=>
  ⟨_,ay (aO (i:=5) sc_PO.nd rfl (Or.inl rfl) (qX (gc hr) (cq (pv 0) rfl) (pv 1) ⟨rfl,rfl,rfl,rfl⟩))
    (aD (cc (PW.pt (jl (aU gF (pv 5) b_ (aY _)) (g7 (aU uJ (pv 2) (aJ aH (pv 5) aw (fun _ _=>rfl)) (aY _)))))
      (ay (uO (gc hr) (cq (pv 0) rfl) (pv 1) (bf (ac (pv 2) (ac (pv 3) (ac (pv 4) ax)))) rfl)
        (aD (bL (d5 (cq (pv 0) rfl) t.kQ.cl t.DA.h.me (Eg t) hr t.DA.h.bi .nil bp (ac (pv 2) (ac (pv 1) ax))))))
      bq)),ug t.kP t.kQ h⟩
theorem AK:((["price", "thing"]:List Str)++([]:List Str)).Nodup:=by decide +kernel
theorem Jt:bF P w K mg base gU 2 t.GP.f t.GP.fd ["self"] (nG t.CQ):=
 t.GP.h.fu.ok sc_QT (fun _ _ _ _ h=>uf h) fun cdv A outer s H vs Q E hr h=>
  ⟨_,ay (aO (i:=1) sc_QT.nd rfl (Or.inl rfl) (qY (cq (pv 0) rfl) (aW (wW rfl) (by rfl) t.qA (by decide +kernel) (ac (s_ O8 PySem.F.slot_dict_keys PySem.F.type_dict_keys CB (cq (pv 0) rfl)) ax)) ⟨rfl,rfl,rfl,rfl⟩))
    (ay (g9 (pv 0) (aW (xc rfl) (by rfl) t.qA (by decide +kernel) (ac (gq (tN:=["price", "thing"]) (capN:=[]) (caps:=[]) rfl (cH.of (osc:=aC Dy) (N:=["self", "pile", "price", "thing"]) rfl rfl (by decide +kernel)) (b8 (pv 1))) ax)) rfl)
    (ay (cF O7 rfl (b8 (pv 1)) (bZ rfl (aK (aI (i:=2) sc_QT.nd rfl (Or.inl rfl)) (aK (aI (i:=3) sc_QT.nd rfl (Or.inl rfl)) bI)))
      (aD (bL (d5 (pv 0) t.kQ.cl t.DA.h.me (Eg t) hr t.DA.h.bi .nil bp (ac (pv 2) (ac (pv 3) ax))))))
    (aD (ba (qY (cq (pv 0) rfl) aw ⟨rfl,rfl,rfl,rfl⟩))))),
    wZ t.kQ (fun _ _=>rfl) (xf rfl (fun _ _ _ _ _=>bZ rfl (aK (aI (i:=0) AK rfl (Or.inl rfl)) (aK (aI (i:=1) AK rfl (Or.inl rfl)) bI))) fun _ _ _ _ _=>pv 0) h⟩
theorem Ju:bF P w K mg base gU 3 t.GF.f t.GF.fd ["self", "number", "rule", "mid", "price"] (jV t.CP t.CQ):=
 t.GF.h.fu.ok sc_PF (fun _ _ _ _ h=>rX h) fun cdv A outer s H vs Q E hr h=>
  ⟨_,ay (aO (i:=5) sc_PF.nd rfl (Or.inl rfl) (bf (ac (pv 3) (ac (aJ aH (aJ aH (pv 2) aw (fun _ _=>rfl)) aw (fun _ _=>rfl)) ax))))
    (ay (bL (eZ O6 Pg Ph cp (eZ O8 Po PZ (jB hr.units) (cq (pv 0) rfl) (ac (pv 5) (ac (bH ax) ax))) (ac (bf (ac (pv 1) (ac (pv 2) (ac (pv 4) ax)))) ax)))
    (aD (cF O7 rfl (b8 (jv (gc hr) (cq (pv 0) rfl) (pv 5) (bH ax) ⟨rfl,rfl,rfl,rfl⟩)) (bZ rfl (aK (aI (i:=6) sc_PF.nd rfl (Or.inl rfl)) (aK (aI (i:=7) sc_PF.nd rfl (Or.inl rfl)) bI)))
      (aD (bL (d5 (pv 0) t.kP.cl t.uz.h.me (sB t) hr t.uz.h.bi .nil bp (ac (bf (ac (aJ aH (pv 2) aw (fun _ _=>rfl)) (ac (aJ aH (pv 2) aw (fun _ _=>rfl)) (ac (pv 6) ax))))
        (ac (aQ b6 (aQ b6 (pv 4) (pv 7)) aw) (ac (pv 1) (ac (pv 3) ax)))))))))),uh t.kP h⟩
theorem Jv:bF P w K mg base gU 4 t.GI.f t.GI.fd ["self", "arrow", "price"] (iu t.CP t.CQ):=
 t.GI.h.fu.ok sc_PS (fun _ _ _ _ h=>p_ h) fun cdv A outer s H vs Q E hr h=>
  have hr2:cT 2 _:=hr.mono (by decide)
  ⟨_,ay (aO (i:=3) sc_PS.nd rfl (Or.inl rfl) (bf (ac (aJ aH (pv 1) aw (fun _ _=>rfl)) (ac (aJ aH (pv 1) aw (fun _ _=>rfl)) ax))))
    (ay (bL (eZ O6 Pg Ph cp (eZ O8 Po PZ (jB hr.units) (cq (pv 0) rfl) (ac (pv 3) (ac (bH ax) ax))) (ac (bf (ac (aJ aH (pv 1) aw (fun _ _=>rfl)) (ac (pv 2) ax))) ax)))
    (ay (cF O7 rfl (b8 (jv (gc hr) (cq (pv 0) rfl) (pv 3) (bH ax) ⟨rfl,rfl,rfl,rfl⟩)) (bZ rfl (aK (aI (i:=4) sc_PS.nd rfl (Or.inl rfl)) (aK (aI (i:=5) sc_PS.nd rfl (Or.inl rfl)) (aK (aI (i:=6) sc_PS.nd rfl (Or.inl rfl)) bI))))
      (aD (bL (d5 (pv 0) t.kP.cl t.uz.h.me (sB t) hr2 t.uz.h.bi .nil bp (ac (bf (ac (aJ aH (pv 5) aw (fun _ _=>rfl)) (ac (aJ aH (pv 5) aw (fun _ _=>rfl)) (ac (aJ aH (pv 1) aw (fun _ _=>rfl)) ax))))
        (ac (aQ b6 (aQ b6 (pv 6) (pv 2)) aw) (ac (pv 4) (ac (aJ aH (pv 1) aw (fun _ _=>rfl)) ax))))))))
    (aD (cF O7 rfl (b8 (jv (gc hr) (cq (pv 0) rfl) (pv 3) (bH ax) ⟨rfl,rfl,rfl,rfl⟩)) (bZ rfl (aK (aI (i:=4) sc_PS.nd rfl (Or.inl rfl)) (aK (aI (i:=5) sc_PS.nd rfl (Or.inl rfl)) bI)))
      (aD (cc (aU dY (aW cD (by rfl) t.fZ Qh (ac (aJ aH (pv 5) aw (fun _ _=>rfl)) ax)) aw (aY _))
        (aD (bL (d5 (pv 0) t.kP.cl t.uz.h.me (sB t) hr2 t.uz.h.bi .nil bp (ac (bf (ac (aJ aH (pv 5) aw (fun _ _=>rfl)) (ac (aJ aH (pv 5) aw (fun _ _=>rfl)) (ac (aJ aH (pv 1) aw (fun _ _=>rfl)) ax))))
          (ac (aQ b6 (pv 2) aw) (ac (pv 4) (ac b_ ax)))))))
        (aD (bL (d5 (pv 0) t.kP.cl t.GF.h.me (Ju t) hr t.GF.h.bi .nil bp (ac (pv 4) (ac (pv 5) (ac (aJ aH (pv 1) aw (fun _ _=>rfl)) (ac (pv 2) ax))))))))))))),rY t.kP h⟩
theorem Jw:bF P w K mg base gU 5 t.GH.f t.GH.fd ["self"] (sI t.CP t.CQ):=
 t.GH.h.fu.ok sc_PA (fun _ _ _ _ h=>w8 h) fun cdv A outer s H vs Q E hr h=>
  ⟨_,aD (qL O7 (jX (lF (lK (cq (pv 0) rfl) t.kQ.cl t.GE.h.me (Js t) (hr.mono (by decide)) t.GE.h.bi .nil bp)))
    (aD (cF O7 rfl (b8 (lK (cq (pv 0) rfl) t.kQ.cl t.GP.h.me (Jt t) (hr.mono (by decide)) t.GP.h.bi .nil bp)) (bZ rfl (aK (aI (i:=1) sc_PA.nd rfl (Or.inl rfl)) (aK (aI (i:=2) sc_PA.nd rfl (Or.inl rfl)) bI)))
      (aD (cc (aU dY (aJ aH (jt (gc hr) (cq (pv 0) rfl) (pv 2) (fun _ _=>rfl)) aw (fun _ _=>rfl)) (pv 1) (aY _))
        (aD (bL (d5 (pv 0) t.kP.cl t.GI.h.me (Jv t) hr t.GI.h.bi .nil bp (ac (pv 2) (ac (pv 1) ax))))) bq))))),zC t.kP h⟩
theorem jM:bF P w K mg base gU 1 t.BC.f t.BC.fd ["house"] AV:=
 t.BC.h.fu.ok sc_rules_by_start (fun _ _ _ _ h=>zD h) fun cdv A outer s H vs Q E hr h=>
  ⟨_,ay (aO (i:=1) sc_rules_by_start.nd rfl (Or.inl rfl) g_)
    (ay (cF O7 rfl (vi rfl t.jO (ac (aJ aH (pv 0) aw (fun _ _=>rfl)) ax)) (bZ rfl (aK (aI (i:=2) sc_rules_by_start.nd rfl (Or.inl rfl)) (aK (aI (i:=3) sc_rules_by_start.nd rfl (Or.inl rfl)) bI)))
      (aD (cc (aU qM (aW cD (by rfl) t.fZ Qh (ac (aJ aH (pv 3) aw (fun _ _=>rfl)) ax)) aw (aY _))
        (aD (bL (eZ O6 Pg Ph cp (eZ O8 Po PZ (jB hr.units) (pv 1)
          (ac (bf (ac (aJ aH (pv 3) aw (fun _ _=>rfl)) (ac (aJ aH (aJ aH (pv 3) aw (fun _ _=>rfl)) aw (fun _ _=>rfl)) ax))) (ac (bH ax) ax))) (ac (bf (ac (pv 2) (ac (pv 3) ax))) ax)))) bq)))
    (aD (ba (pv 1)))),CJ h⟩
theorem Jx:bF P w K mg base gU 3 t.GN.f t.GN.fd ["self", "house"] (jT t.CP t.CQ):=
 t.GN.h.fu.ok Jq (fun _ _ _ _ h=>rZ h) fun cdv A outer s H vs Q E hr h=>
  ⟨_,ay (g9 (pv 0) (a_ (jM t) (hr.mono (by decide)) rfl t.BC.h.gl t.BC.h.fu.kp t.BC.h.bi .nil bp (ac (pv 1) ax)) rfl)
    (ay (g9 (pv 0) g_ rfl) (ay (g9 (pv 0) (yl t.GB (Jr t) hr rfl t.gQ t.GO.h.bi .nil bp) rfl) (ay (g9 (pv 0) g_ rfl) (aD (g9 (pv 0) g_ rfl))))),uj t.kP h⟩
theorem o9:bF P w K mg base gU 6 t.xN.f t.xN.fd jJ (y9 mg 2 jK):=
 t.xN.h.fu.ok sc_prices (fun _ _ _ _ h=>h.1) fun cdv A outer s H vs Q E hr h=>
  have hr2:cT 2 _:=hr.mono (by decide)
  ⟨_,ay (bL (a_ (gN t) (hr.mono (by decide)) rfl t.Bo.h.gl t.Bo.h.fu.kp t.Bo.h.bi .nil HJ (ac (pv 0) (ac (pv 1) ax))))
    (ay (aO (i:=2) sc_prices.nd rfl (Or.inl rfl) (BV t.GM (Jx t) (hr.mono (by decide)) rfl t.gP t.GN.h.bi .nil bp (ac (pv 0) ax)))
    (ay (cF O7 rfl (b8 (aJ aH (pv 1) aw (fun _ _=>rfl))) (aI (i:=3) sc_prices.nd rfl (Or.inl rfl)) (aD (bL (d5 (pv 2) t.kP.cl t.uz.h.me (sB t) hr2 t.uz.h.bi .nil bp (ac (pv 3) (ac aw (ac b_ (ac b_ ax))))))))
    (ay (cF O7 rfl (vi rfl t.jO (ac (aJ aH (pv 0) aw (fun _ _=>rfl)) ax)) (bZ rfl (aK (aI (i:=4) sc_prices.nd rfl (Or.inl rfl)) (aK (aI (i:=5) sc_prices.nd rfl (Or.inl rfl)) bI)))
      (aD (cc (aU dY (aW cD (by rfl) t.fZ Qh (ac (aJ aH (pv 5) aw (fun _ _=>rfl)) ax)) aw (aY _))
        (aD (bL (d5 (pv 2) t.kP.cl t.uz.h.me (sB t) hr2 t.uz.h.bi .nil bp (ac (bf (ac (aJ aH (pv 5) aw (fun _ _=>rfl)) (ac (aJ aH (pv 5) aw (fun _ _=>rfl)) (ac (aJ aH (pv 5) aw (fun _ _=>rfl)) ax))))
          (ac aw (ac (pv 4) (ac b_ ax))))))) bq)))
    (ay (bL (lK (pv 2) t.kP.cl t.GH.h.me (Jw t) hr t.GH.h.bi .nil bp))
    (aD (ba (cq (pv 2) rfl))))))),r_ t.kP h⟩
theorem mW:bF P w K mg base gU 1 t.Br.f t.Br.fd dE AN:=
 t.Br.h.fu.ok sc_priced_from (fun _ _ _ _ h=>zS h) fun cdv A outer s H vs Q E hr h=>
  have hu:=hr.units
  ⟨_,(ay (aO (i:=1) sc_priced_from.nd rfl (Or.inl rfl) g_)
    (ay (yB (cF O7 rfl (wo (pv 0)) (bZ rfl (aK (aI (i:=2) sc_priced_from.nd rfl (Or.inl rfl)) (aK (aI (i:=3) sc_priced_from.nd rfl (Or.inl rfl)) bI))) (aD (bL (eZ O6 Pg Ph cp (eZ O8 Po PZ (jB hu) (pv 1) (ac (bf (ac (aJ aH (pv 2) aw (fun _ _=>rfl)) (ac (aJ aH (pv 2) aw (fun _ _=>rfl)) ax))) (ac (bH ax) ax))) (ac (bf (ac (pv 2) (ac (aJ aH (pv 3) aw (fun _ _=>rfl)) ax))) ax))))))
    (aD (ba (pv 1))))),C3 h⟩
theorem og:bF P w K mg base gU 1 t.BF.f t.BF.fd d_ Bb:=
 t.BF.h.fu.ok sc_sums_ahead (fun _ _ _ _ h=>zV h) fun cdv A outer s H vs Q E hr h=>
  have hu:=hr.units
  ⟨_,(ay (aO (i:=3) sc_sums_ahead.nd rfl (Or.inl rfl) qW)
    (ay (yB (cF O7 rfl (yX (pv 1)) (bZ rfl (aK (aI (i:=4) sc_sums_ahead.nd rfl (Or.inl rfl)) (aK (aI (i:=5) sc_sums_ahead.nd rfl (Or.inl rfl)) bI))) (aD (cF O7 rfl (b8 (jv (gc hr) (pv 0) (bf (ac (pv 4) (ac (pv 2) ax))) (bH ax) ⟨rfl,rfl,rfl,rfl⟩)) (bZ rfl (aK (aI (i:=6) sc_sums_ahead.nd rfl (Or.inl rfl)) (aK (aI (i:=7) sc_sums_ahead.nd rfl (Or.inl rfl)) bI))) (ay (aO (i:=8) sc_sums_ahead.nd rfl (Or.inl rfl) (qX (gc hr) (pv 3) (aJ aH (pv 6) aw (fun _ _=>rfl)) ⟨rfl,rfl,rfl,rfl⟩))
    (aD (cc (PW.pt (jl (aU gF (pv 8) b_ (aY _)) (g7 (aU uJ (aQ b6 (aJ aH (pv 5) aw (fun _ _=>rfl)) (pv 7)) (aJ aH (pv 8) aw (fun _ _=>rfl)) (aY _))))) (aD (uO (gc hr) (pv 3) (aJ aH (pv 6) aw (fun _ _=>rfl)) (bf (ac (aQ b6 (aJ aH (pv 5) aw (fun _ _=>rfl)) (pv 7)) (ac (pv 6) ax))) rfl)) bq)))))))
    (aD (ba (pv 3))))),C4 h⟩
theorem i9:bF P w K mg base gU 2 t.xG.f t.xG.fd eh xP:=
 t.xG.h.fu.ok sc_sums_along (fun _ _ _ _ h=>zW h) fun cdv A outer s H vs Q E hr h=>
  have hu:=hr.units
  ⟨_,(ay (aO (i:=2) sc_sums_along.nd rfl (Or.inl rfl) (a_ (mW t) (hr.mono (by decide)) rfl t.Br.h.gl t.Br.h.fu.kp t.Br.h.bi .nil bp (ac (pv 0) ax)))
    (ay (aO (i:=3) sc_sums_along.nd rfl (Or.inl rfl) (bH (ac (B5 (yv (aJ aH (pv 1) aw (fun _ _=>rfl)) (bf (ac aw (ac b_ ax))) B4) rfl rfl (fun z=>nomatch z) (by decide)) ax)))
    (ay (cF O7 rfl (b8 (aJ aH (pv 1) aw (fun _ _=>rfl))) (aI (i:=4) sc_sums_along.nd rfl (Or.inl rfl)) (aD (bL (eZ O6 Pg Ph cp (pv 3) (ac (a_ (og t) (hr.mono (by decide)) rfl t.BF.h.gl t.BF.h.fu.kp t.BF.h.bi .nil bp (ac (pv 2) (ac (aJ d6 (pv 3) (yb sP aw) (fun _ _=>rfl)) (ac (pv 4) ax)))) ax)))))
    (aD (ba (pv 3)))))),C5 h⟩
theorem Gs:((["end"]:List Str)++(["sums"]:List Str)).Nodup:=by decide +kernel
theorem i_:bF P w K mg base gU 1 t.xJ.f t.xJ.fd eF uD:=
 t.xJ.h.fu.ok nZ (fun _ _ _ _ h=>zZ h) fun cdv A outer s H vs Q E hr h=>
  have hu:=hr.units
  ⟨_,(aD (ba (CS rfl hu (by rfl) t.qA (gq (tN:=["end"]) (capN:=["sums"]) (caps:=[1]) rfl (cH.of (osc:=aC eB) (N:=jL) rfl rfl (by decide +kernel)) (b8 (aJ aH (pv 0) aw (fun _ _=>rfl))))))),C6 ⟨rfl,rfl,fun _ _ _ _ _=>aI (i:=0) Gs rfl (Or.inl rfl),fun _ _ _ _ _=>lh (aU (E9 hu) (pv 0) (pv 1) rfl),fun _ _ _ _ _=>(bf (ac (aJ aH (jt (gc hr) (pv 1) (pv 0) (fun _ _=>rfl)) aw (fun _ _=>rfl)) (ac (pv 0) ax)))⟩ h⟩
theorem sC:bF P w K mg base gU 7 t.xF.f t.xF.fd lC (xM jK):=
 t.xF.h.fu.ok sc_least (fun _ _ _ _ h=>z5 h) fun cdv A outer s H vs Q E hr h=>
  have hu:=hr.units
  ⟨_,(ay (aO (i:=3) sc_least.nd rfl (Or.inl rfl) (a_ (i_ t) (hr.mono (by decide)) rfl t.xJ.h.gl t.xJ.h.fu.kp t.xJ.h.bi .nil bp (ac (pv 1) (ac (aJ d6 (a_ (i9 t) (hr.mono (by decide)) rfl t.xG.h.gl t.xG.h.fu.kp t.xG.h.bi .nil bp (ac (a_ (o9 t) (hr.mono (by decide)) rfl t.xN.h.gl t.xN.h.fu.kp t.xN.h.bi .nil bp (ac (pv 0) (ac (pv 1) ax))) (ac (pv 2) ax))) (yb sP aw) (fun _ _=>rfl)) ax))))
    (aD (ba (xZ (aU gF (pv 3) b_ (aY _)) b_ (aJ aH (pv 3) aw (fun _ _=>rfl)))))),C7 h⟩
theorem kW:bF P w K mg base gU 1 t.Bz.f t.Bz.fd dh AY:=
 t.Bz.h.fu.ok sc__law_most_by (fun _ _ _ _ h=>Az h) fun cdv A outer s H vs Q E hr h=>
  have hu:=hr.units
  ⟨_,(ay (aO (i:=2) sc__law_most_by.nd rfl (Or.inl rfl) (aQ bz (pv 0) aw))
    (ay (cc (aU dY (pv 2) aw (aY _)) (aD (ba b_)) bq)
    (ay (cc (PW.pt (jl (aU dY (pv 2) aw (aY _)) (g7 (aU gF (pv 1) b_ (aY _))))) (aD (ba (aQ bz (aQ cC (pv 0) aw) aw))) bq)
    (aD (ba (aW (xD rfl) (by rfl) t.GT (by decide +kernel) (ac aw (ac (aQ yc (aW (vU rfl) (by rfl) t.qA (by decide +kernel) (ac (pv 1) (ac aw ax))) (aQ bz (pv 2) aw)) ax)))))))),Dv h⟩
theorem qp:bF P w K mg base gU 1 t.Bl.f t.Bl.fd fK A1:=
 t.Bl.h.fu.ok ql (fun _ _ _ _ h=>Ay h) fun cdv A outer s H vs Q E hr h=>
  have hu:=hr.units
  ⟨_,(aD (ba (bH (ac (bf (ac (aJ aH (pv 0) aw (fun _ _=>rfl)) (ac (aJ aH (pv 0) aw (fun _ _=>rfl)) (ac (cg cR (by rfl) t.eR (by decide +kernel) (ac (aJ aH (pv 0) aw (fun _ _=>rfl)) ax)) ax)))) (ac (bf (ac (aJ aH (pv 1) aw (fun _ _=>rfl)) (ac (cg cR (by rfl) t.eR (by decide +kernel) (ac (aJ aH (pv 1) aw (fun _ _=>rfl)) ax)) (ac (cg cR (by rfl) t.eR (by decide +kernel) (ac (aJ aH (pv 1) aw (fun _ _=>rfl)) ax)) ax)))) ax))))),Du h⟩
theorem mX:bF P w K mg base gU 1 t.Bt.f t.Bt.fd dF AZ:=
 t.Bt.h.fu.ok sc_arrows_back (fun _ _ _ _ h=>z6 h) fun cdv A outer s H vs Q E hr h=>
  have hu:=hr.units
  ⟨_,(ay (aO (i:=2) sc_arrows_back.nd rfl (Or.inl rfl) (bH ax))
    (ay (cF O7 rfl (ES rfl t.sD (ac (f_ iD (pv 0) (fC aw) kY) ax)) (aI (i:=3) sc_arrows_back.nd rfl (Or.inl rfl)) (ay (aO (i:=4) sc_arrows_back.nd rfl (Or.inl rfl) (aJ aH (jt (gc hr) (pv 3) (pv 1) (fun _ _=>rfl)) aw (fun _ _=>rfl)))
    (ay (bL (eZ O6 Pg Ph cp (pv 2) (ac (pv 4) ax)))
    (aD (aO (i:=1) sc_arrows_back.nd rfl (Or.inl rfl) (aJ aH (pv 4) aw (fun _ _=>rfl)))))))
    (aD (ba (pv 2))))),C8 h⟩
theorem oh:bF P w K mg base gU 1 t.BJ.f t.BJ.fd eG Bd:=
 t.BJ.h.fu.ok n9 (fun _ _ _ _ h=>z7 h) fun cdv A outer s H vs Q E hr h=>
  have hu:=hr.units
  ⟨_,(ay (cc (aU dY (aW cD (by rfl) t.fZ Qh (ac (aJ aH (pv 0) aw (fun _ _=>rfl)) ax)) aw (aY _)) (aD (ba (bH ax))) bq)
    (ay (cc (aU dY (aW cD (by rfl) t.fZ Qh (ac (aJ aH (pv 0) aw (fun _ _=>rfl)) ax)) aw (aY _)) (aD (ba (bH (ac (bf (ac (aJ aH (pv 0) aw (fun _ _=>rfl)) (ac (aJ aH (aJ aH (pv 0) aw (fun _ _=>rfl)) aw (fun _ _=>rfl)) (ac (pv 2) ax)))) ax)))) bq)
    (aD (ba (bH (ac (bf (ac (pv 1) (ac (aJ aH (aJ aH (pv 0) aw (fun _ _=>rfl)) aw (fun _ _=>rfl)) (ac (pv 2) ax)))) (ac (bf (ac (aJ aH (pv 0) aw (fun _ _=>rfl)) (ac (aJ aH (aJ aH (pv 0) aw (fun _ _=>rfl)) aw (fun _ _=>rfl)) (ac (pv 1) ax)))) ax))))))),C9 h⟩
theorem mY:bF P w K mg base gU 2 t.BB.f t.BB.fd dG A9:=
 t.BB.h.fu.ok sc_rules_along (fun _ _ _ _ h=>z_ h) fun cdv A outer s H vs Q E hr h=>
  have hu:=hr.units
  ⟨_,(ay (aO (i:=3) sc_rules_along.nd rfl (Or.inl rfl) (cg cR (by rfl) t.eR (by decide +kernel) (ac (pv 2) ax)))
    (ay (aO (i:=4) sc_rules_along.nd rfl (Or.inl rfl) (bH ax))
    (ay (qL O7 (yh (pv 3) (fun _=>rfl)) (ay (aO (i:=5) sc_rules_along.nd rfl (Or.inl rfl) (s_ O6 PySem.F.slot_list_pop PySem.F.type_list_pop EJ (pv 3)))
    (ay (aO (i:=6) sc_rules_along.nd rfl (Or.inl rfl) (aJ aH (jt (gc hr) (pv 1) (pv 5) (fun _ _=>rfl)) aw (fun _ _=>rfl)))
    (aD (cc (aU BQ (pv 6) b_ (aY _)) (ay (bL (eZ O6 Pg Ph cp (pv 4) (ac (pv 6) ax)))
    (aD (bL (eZ O6 PySem.F.slot_list_extend PySem.F.type_list_extend v5 (pv 3) (ac (a_ (oh t) (hr.mono (by decide)) rfl t.BJ.h.gl t.BJ.h.fu.kp t.BJ.h.bi .nil bp (ac (aJ d6 (aJ aH (pv 0) aw (fun _ _=>rfl)) (pv 6) (fun _ _=>rfl)) (ac (aJ aH (jt (gc hr) (pv 1) (pv 5) (fun _ _=>rfl)) aw (fun _ _=>rfl)) (ac (aJ aH (pv 5) aw (fun _ _=>rfl)) ax)))) ax))))) bq)))))
    (aD (ba (pv 4)))))),C_ h⟩
theorem AL:bF P w K mg base (uP P w) 7 t.xL.f t.xL.fd vF (xR jK t.bu t.aV):=
 IT t.xL.h.fu sc_way (fun _ _ _ _ h=>Ac h) fun cdv A outer s H vs Q E hr h=>
  have hu:=hr.units
  ⟨_,(ay (aO (i:=4) sc_way.nd rfl (Or.inl rfl) (a_ (o9 t) (hr.mono (by decide)) rfl t.xN.h.gl t.xN.h.fu.kp t.xN.h.bi .nil bp (ac (pv 0) (ac (pv 1) ax))))
    (ay (aO (i:=5) sc_way.nd rfl (Or.inl rfl) (a_ (i9 t) (hr.mono (by decide)) rfl t.xG.h.gl t.xG.h.fu.kp t.xG.h.bi .nil bp (ac (pv 4) (ac (pv 2) ax))))
    (ay (aO (i:=6) sc_way.nd rfl (Or.inl rfl) (a_ (i_ t) (hr.mono (by decide)) rfl t.xJ.h.gl t.xJ.h.fu.kp t.xJ.h.bi .nil bp (ac (pv 1) (ac (aJ d6 (pv 5) (yb sP aw) (fun _ _=>rfl)) ax))))
    (ay (cc (aU gF (pv 6) b_ (aY _)) (aD (rf (EW:=fun H=>E (.ref t.bu) none H) t.lD (by rfl) rfl (ac gv ax) (fun af σ H s h' x args I hm hE=>uQ I hm hE))) bq)
    (ay (cc (aU qM (aJ aH (pv 6) aw (fun _ _=>rfl)) (pv 3) (aY _)) (aD (rf (EW:=fun H=>E (.ref t.aV) none H) t.iJ (by rfl) rfl (ac gv ax) (fun af σ H s h' x args I hm hE=>uQ I hm hE))) bq)
    (aD (ba (a_ (mY t) (hr.mono (by decide)) rfl t.BB.h.gl t.BB.h.fu.kp t.BB.h.bi .nil bp (ac (pv 0) (ac (pv 4) (ac (a_ (mX t) (hr.mono (by decide)) rfl t.Bt.h.gl t.Bt.h.fu.kp t.Bt.h.bi .nil bp (ac (pv 5) (ac (aJ aH (pv 6) aw (fun _ _=>rfl)) ax))) ax))))))))))),Da h⟩
theorem mZ:bF P w K mg base (uP P w) 8 t.Bs.f t.Bs.fd dH (AR jK t.bu t.aV):=
 D7 t.Bs.h.fu sc__law_way_of (fun _ _ _ _ h=>AB h) fun cdv A outer s H vs Q E hr h=>
  have hu:=hr.units
  ⟨_,(ay (aO (i:=4) sc__law_way_of.nd rfl (Or.inl rfl) b_)
    (ay (aO (i:=5) sc__law_way_of.nd rfl (Or.inl rfl) gv)
    (ay (aO (i:=6) sc__law_way_of.nd rfl (Or.inl rfl) (bH (ac iY (ac iY (ac iY ax)))))
    (ay (Ao (i:=4) (j:=7) (ts:=AC t.bu "none") (ts2:=AC t.aV "long") sc__law_way_of.nd rfl (Or.inl rfl) rfl rfl rfl rfl t.lD (by rfl) t.iJ (by rfl) (aU gF (pv 3) b_ (aY _)) (rg (dvs:=[.int 60]) (AL t) (hr.mono (by decide)) (by rfl) t.xL.h.gl t.xL.h.fu.kp t.xL.h.bd (.cons ⟨_,rfl⟩ .nil) (ac (pv 0) (ac (pv 1) (ac (pv 2) ax)))) (rg (dvs:=[]) (AL t) (hr.mono (by decide)) (by rfl) t.xL.h.gl t.xL.h.fu.kp t.xL.h.bi .nil (ac (pv 0) (ac (pv 1) (ac (pv 2) (ac (pv 3) ax))))) (fun C x o hco _=>su fun eC=>by subst eC;exact ay (aO (i:=5) sc__law_way_of.nd rfl (Or.inl rfl) gv) (zI (i:=7) (iw:=6) sc__law_way_of.nd rfl (Or.inl rfl) (gr t.m_ rfl rfl (by rfl) t.bN hco (iC (by rfl) t.kK.gl (v:=.ref t.bo) rfl) (fun u z=>z) t.ng (gr t.m_ rfl rfl (by rfl) t.bN hco (iC (by rfl) t.iJ.gl (v:=.ref t.aV) rfl) (fun u z=>z) t.nB (gr t.m_ rfl rfl (by rfl) t.bN hco (iC (by rfl) t.m9.gl (v:=.ref t.bA) rfl) (fun u z=>z) t.m7 vz))))) (fun C x o hco _=>su fun eC=>by subst eC;exact ay (aO (i:=5) sc__law_way_of.nd rfl (Or.inl rfl) gv) (zI (i:=7) (iw:=6) sc__law_way_of.nd rfl (Or.inl rfl) (gr t.nH rfl rfl (by rfl) t.bN hco (iC (by rfl) t.kK.gl (v:=.ref t.bo) rfl) (fun u z=>z) t.m8 (gr t.nH rfl rfl (by rfl) t.bN hco (iC (by rfl) t.lD.gl (v:=.ref t.bu) rfl) (fun u z=>z) t.nj (gr t.nH rfl rfl (by rfl) t.bN hco (iC (by rfl) t.m9.gl (v:=.ref t.bA) rfl) (fun u z=>z) t.nh vz))))))
    (ay (cc (aU (Am hu) (pv 6) (bH (ac iY (ac iY (ac iY ax)))) (aY _)) (aD (aO (i:=5) sc__law_way_of.nd rfl (Or.inl rfl) gv)) bq)
    (aD (ba (bf (ac (pv 5) (ac (pv 4) ax)))))))))),Dx t.lD.ex t.jR t.iJ.ex t.gs t.AT h⟩
theorem oi:bF P w K mg base gU 1 t.BI.f t.BI.fd eJ A5:=
 t.BI.h.fu.ok n_ (fun _ _ _ _ h=>Ae h) fun cdv A outer s H vs Q E hr h=>
  have hu:=hr.units
  ⟨_,(aD (ba (Eu (aW kh (by rfl) t.bN (by decide +kernel) (ac (pv 0) (ac (pd (v:=.ty "int") (by rfl) t.A8 (by decide +kernel) rfl) ax))) (Et (Ew (aW kh (by rfl) t.bN (by decide +kernel) (ac (pv 0) (ac (pd (v:=.ty "bool") (by rfl) t.DC (by decide +kernel) rfl) ax)))))))),Dc h⟩
theorem ik:bF P w K mg base gU 2 t.xH.f t.xH.fd dI xQ:=
 t.xH.h.fu.ok sc__law_walked (fun _ _ _ _ h=>Af h) fun cdv A outer s H vs Q E hr h=>
  have hu:=hr.units
  ⟨_,(ay (aO (i:=3) sc__law_walked.nd rfl (Or.inl rfl) (aJ aH (pv 1) aw (fun _ _=>rfl)))
    (ay (aO (i:=4) sc__law_walked.nd rfl (Or.inl rfl) (cg cR (by rfl) t.eR (by decide +kernel) (ac (aJ aH (pv 1) aw (fun _ _=>rfl)) ax)))
    (ay (cF O7 rfl (b8 (pv 2)) (aI (i:=5) sc__law_walked.nd rfl (Or.inl rfl)) (ay (cc (PW.pt (jl (jX (lF (a_ (oi t) (hr.mono (by decide)) rfl t.BI.h.gl t.BI.h.fu.kp t.BI.h.bi .nil bp (ac (pv 5) ax)))) (g7 (jX (yg Hl uJ aw (pv 5) (aW cD (by rfl) t.fZ Qh (ac (aJ aH (pv 0) aw (fun _ _=>rfl)) ax))))))) (aD (ba b_)) bq)
    (ay (aO (i:=6) sc__law_walked.nd rfl (Or.inl rfl) (aJ d6 (aJ aH (pv 0) aw (fun _ _=>rfl)) (pv 5) (fun _ _=>rfl)))
    (ay (cc (PW.pt (jl (aU (FW hu) (pv 4) (bH ax) (aY _)) (g7 (aU (zP hu) (bf (ac (pv 3) (ac (aJ d6 (pv 4) aw (fun _ _=>rfl)) ax))) (bf (ac (aJ aH (pv 6) aw (fun _ _=>rfl)) (ac (aJ aH (pv 6) aw (fun _ _=>rfl)) ax))) (aY _))))) (aD (ba b_)) bq)
    (ay (aO (i:=3) sc__law_walked.nd rfl (Or.inl rfl) (aJ aH (pv 6) aw (fun _ _=>rfl)))
    (aD (aO (i:=4) sc__law_walked.nd rfl (Or.inl rfl) (aQ yr (cg cR (by rfl) t.eR (by decide +kernel) (ac (aJ aH (pv 6) aw (fun _ _=>rfl)) ax)) (f_ iD (pv 4) (fC aw) kY)))))))))
    (aD (ba (bf (ac (pv 3) (ac (pv 4) ax)))))))),Dd h⟩
theorem ux:((["_law_first", "_law_seen", "_law_last"]:List Str)++(["_law_sign", "_law_states"]:List Str)).Nodup:=by decide +kernel
theorem Gu:((["_law_state"]:List Str)++(["_law_machine"]:List Str)).Nodup:=by decide +kernel
theorem oj:bF P w K mg base gU 1 t.BD.f t.BD.fd eL A3:=
 t.BD.h.fu.ok sc__law_taken (fun _ _ _ _ h=>AA h) fun cdv A outer s H vs Q E hr h=>
  have hu:=hr.units
  ⟨_,(ay (aO (i:=2) sc__law_taken.nd rfl (Or.inr rfl) (bH (ac (aJ aH (pv 1) aw (fun _ _=>rfl)) ax)))
    (ay (cF O7 rfl (b8 (aJ aH (pv 1) aw (fun _ _=>rfl))) (aI (i:=3) sc__law_taken.nd rfl (Or.inr rfl)) (aD (aO (i:=2) sc__law_taken.nd rfl (Or.inr rfl) (aW (ut rfl) (by rfl) t.ku (by decide +kernel) (ac (cg (ur rfl) (by rfl) t.Bc (by decide +kernel) (ac (gq (tN:=["_law_first", "_law_seen", "_law_last"]) (capN:=["_law_sign", "_law_states"]) (caps:=[3,2]) rfl (cH.of (osc:=aC di) (N:=N__law_taken) rfl rfl (by decide +kernel)) (b8 (aJ aH (pv 0) aw (fun _ _=>rfl)))) ax)) ax)))))
    (aD (ba (gy (FX hu) (gq (tN:=["_law_state"]) (capN:=["_law_machine"]) (caps:=[0]) rfl (cH.of (osc:=aC di) (N:=N__law_taken) rfl rfl (by decide +kernel)) (b8 (pv 2))) (bH ax) (aY _)))))),Dw (S:=⟨_,_,_,_,_,_,_,_,_,_,_,_,_,_⟩) ⟨⟨rfl,rfl,fun _ _ _ _ _=>bZ rfl (aK (aI (i:=0) ux rfl (Or.inl rfl)) (aK (aI (i:=1) ux rfl (Or.inl rfl)) (aK (aI (i:=2) ux rfl (Or.inl rfl)) bI))),fun _ _ _ _ _=>lh (PW.pt (Es (aU dY (pv 1) (pv 3) (aY _)) (BM (aU oE (pv 0) (pv 4) rfl)))),fun _ _ _ _ _=>pv 2⟩,⟨rfl,rfl,fun _ _ _ _ _=>aI (i:=0) Gu rfl (Or.inl rfl),fun _ _ _ _ _=>lh (aU oE (pv 0) (aJ aH (pv 1) aw (fun _ _=>rfl)) rfl),fun _ _ _ _ _=>pv 0⟩⟩ h⟩
theorem Gv:bF P w K mg base (uP P w) 9 t.BA.f t.BA.fd vG (y9 mg 1 vH):=
 D7 t.BA.h.fu sc_law (fun _ _ _ _ h=>h.1) fun cdv A outer s H vs Q E hr h=>
  have hu:=hr.units
  ⟨_,(ay (fO (a_ (kU t) (hr.mono (by decide)) rfl t.By.h.gl t.By.h.fu.kp t.By.h.bi .nil bp (ac (pv 0) (ac aw ax))) (bZ rfl (aK (aI (i:=1) sc_law.nd rfl (Or.inl rfl)) (aK (aI (i:=2) sc_law.nd rfl (Or.inl rfl)) bI))))
    (ay (aO (i:=3) sc_law.nd rfl (Or.inl rfl) (a_ (iQ t) (hr.mono (by decide)) rfl t.Bv.h.gl t.Bv.h.fu.kp t.Bv.h.bi .nil bp (ac (a_ (cn t) (hr.mono (by decide)) rfl t.nJ.h.gl t.nJ.h.fu.kp t.nJ.h.bi .nil bp (ac (pv 0) (ac aw ax))) (ac (aJ aH (pv 1) aw (fun _ _=>rfl)) (ac (aJ aH (pv 1) aw (fun _ _=>rfl)) ax)))))
    (ay (aO (i:=4) sc_law.nd rfl (Or.inl rfl) (a_ (sC t) (hr.mono (by decide)) rfl t.xF.h.gl t.xF.h.fu.kp t.xF.h.bi .nil bp (ac (pv 1) (ac (pv 2) (ac (pv 3) ax)))))
    (ay (aO (i:=5) sc_law.nd rfl (Or.inl rfl) (a_ (kW t) (hr.mono (by decide)) rfl t.Bz.h.gl t.Bz.h.fu.kp t.Bz.h.bi .nil bp (ac (a_ (cn t) (hr.mono (by decide)) rfl t.nJ.h.gl t.nJ.h.fu.kp t.nJ.h.bi .nil bp (ac (pv 0) (ac aw ax))) (ac (pv 4) ax))))
    (ay (aO (i:=6) sc_law.nd rfl (Or.inl rfl) (a_ (qp t) (hr.mono (by decide)) rfl t.Bl.h.gl t.Bl.h.fu.kp t.Bl.h.bi .nil bp (ac (pv 1) (ac (pv 2) ax))))
    (ay (aO (i:=7) sc_law.nd rfl (Or.inl rfl) (bf (ac (aJ aH (pv 3) aw (fun _ _=>rfl)) (ac (cg cR (by rfl) t.eR (by decide +kernel) (ac (aJ aH (pv 3) aw (fun _ _=>rfl)) ax)) ax))))
    (ay (fO (a_ (mZ t) (hr.mono (by decide)) rfl t.Bs.h.gl t.Bs.h.fu.kp t.Bs.h.bi .nil B6 (ac (aJ d6 (pv 6) aw (fun _ _=>rfl)) (ac (aJ d6 (pv 6) aw (fun _ _=>rfl)) (ac (pv 7) (ac (pv 5) ax))))) (bZ rfl (aK (aI (i:=8) sc_law.nd rfl (Or.inl rfl)) (aK (aI (i:=9) sc_law.nd rfl (Or.inl rfl)) bI))))
    (ay (cc (PW.pt (jl (aU (Am hu) (pv 6) (bH (ac (pv 1) (ac (pv 2) ax))) (aY _)) (g7 (aU (zP hu) (pv 7) (pv 3) (aY _))))) (aD (ba iY)) bq)
    (ay (cc (aU gF (pv 4) b_ (aY _)) (aD (ba (gy dY (pv 8) gv (aY _)))) bq)
    (ay (cc (aU gF (pv 5) b_ (aY _)) (aD (aO (i:=5) sc_law.nd rfl (Or.inl rfl) aw)) bq)
    (ay (cc (aU qM (pv 4) (pv 5) (aY _)) (aD (ba (gy dY (pv 8) gv (aY _)))) bq)
    (ay (cc (PW.pt (jl (aU DG (pv 8) gv (aY _)) (jl (jX (lF (aW kh (by rfl) t.bN (by decide +kernel) (ac (pv 9) (ac (pd (v:=.ty "list") (by rfl) t.eR (by decide +kernel) rfl) ax))))) (g7 (aU DG (aW cD (by rfl) t.fZ Qh (ac (pv 9) ax)) (pv 4) (aY _)))))) (aD (ba iY)) bq)
    (ay (aO (i:=10) sc_law.nd rfl (Or.inl rfl) (a_ (ik t) (hr.mono (by decide)) rfl t.xH.h.gl t.xH.h.fu.kp t.xH.h.bi .nil bp (ac (pv 1) (ac (pv 3) (ac (pv 9) ax)))))
    (ay (cc (PW.pt (jl (aU gF (pv 10) b_ (aY _)) (g7 (jX (lF (a_ (oj t) (hr.mono (by decide)) rfl t.BD.h.gl t.BD.h.fu.kp t.BD.h.bi .nil bp (ac (pv 2) (ac (pv 10) ax)))))))) (aD (ba iY)) bq)
    (ay (aO (i:=11) sc_law.nd rfl (Or.inl rfl) (aQ bz (aQ cC (a_ (cn t) (hr.mono (by decide)) rfl t.nJ.h.gl t.nJ.h.fu.kp t.nJ.h.bi .nil bp (ac (pv 0) (ac aw ax))) aw) (aQ b6 (pv 4) aw)))
    (ay (aO (i:=12) sc_law.nd rfl (Or.inl rfl) (a_ (ik t) (hr.mono (by decide)) rfl t.xH.h.gl t.xH.h.fu.kp t.xH.h.bi .nil bp (ac (pv 1) (ac (pv 3) (ac (f_ iD (pv 9) kY (fC (pv 11))) ax)))))
    (ay (cc (aU qM (aW cD (by rfl) t.fZ Qh (ac (aJ aH (pv 12) aw (fun _ _=>rfl)) ax)) aw (aY _)) (aD (ba iY)) bq)
    (aD (ba (gy dY (a_ (sC t) (hr.mono (by decide)) rfl t.xF.h.gl t.xF.h.fu.kp t.xF.h.bi .nil bp (ac (pv 1) (ac (pv 2) (ac (pv 12) ax)))) (aQ yc (pv 4) (pv 11)) (aY _))))))))))))))))))))),xE rfl rfl h⟩
end
theorem Jy {K KK:SG}{mg:Str->Option SI}{h:Heap}(X:K.In h)(G:h.Ns mainGlobals mg)(U:iT K KK)
 (nJ:FK K "_law_seed_at" fq) (Bk:FK K "_law_arrow_by" dU) (Bj:FK K "_law_machine_by" bS) (Bn:FK K "_law_rule_by" ft) (By:FK K "_law_made_by" de) (Bp:FK K "_law_stack_by" dW) (Bv:FK K "_law_standing_by" cS) (Bm:FK K "is_plain" gG) (Bo:FK K "refuse_unless_plain" cr) (BC:FK K "rules_by_start" dz) (xN:FK K "prices" mV) (Br:FK K "priced_from" fU) (BF:FK K "sums_ahead" gJ) (xG:FK K "sums_along" gK) (xJ:FK K "lowest_end" eB) (xF:FK K "least" qk) (Bz:FK K "_law_most_by" fw) (Bl:FK K "_law_copy" ij) (Bt:FK K "arrows_back" fV) (BJ:FK K "parts_back" gL) (BB:FK K "rules_along" fW) (xL:Lo K KK "way" AI 60) (Bs:FK K "_law_way_of" fX) (BI:FK K "_law_whole" gM) (xH:FK K "_law_walked" fY) (BD:FK K "_law_taken" di) (BA:FK K "law" AJ)
 (z_all:PySem.W.nsIn K mainGlobals "all"=some none)
 (z_bool:PySem.W.nsIn K mainGlobals "bool"=some none)
 (z_divmod:PySem.W.nsIn K mainGlobals "divmod"=some none)
 (z_enumerate:PySem.W.nsIn K mainGlobals "enumerate"=some none)
 (z_int:PySem.W.nsIn K mainGlobals "int"=some none)
 (z_isinstance:PySem.W.nsIn K mainGlobals "isinstance"=some none)
 (z_len:PySem.W.nsIn K mainGlobals "len"=some none)
 (z_list:PySem.W.nsIn K mainGlobals "list"=some none)
 (z_max:PySem.W.nsIn K mainGlobals "max"=some none)
 (z_min:PySem.W.nsIn K mainGlobals "min"=some none)
 (z_range:PySem.W.nsIn K mainGlobals "range"=some none)
 (z_reversed:PySem.W.nsIn K mainGlobals "reversed"=some none)
 (z_set:PySem.W.nsIn K mainGlobals "set"=some none)
 (z_sorted:PySem.W.nsIn K mainGlobals "sorted"=some none)
 (z_tuple:PySem.W.nsIn K mainGlobals "tuple"=some none)
 {bo:Addr} (b_WalkError:PySem.W.nsIn K mainGlobals "WalkError"=some (some (.ref bo))) (e_WalkError:PySem.W.excIn K bo iO "ValueError.__new__"=true) (fM:(fQ K bo).contains (.ref bo)=true)
 {bA:Addr} (b_NotPlain:PySem.W.nsIn K mainGlobals "NotPlain"=some (some (.ref bA))) (e_NotPlain:PySem.W.excIn K bA iO "ValueError.__new__"=true) (gR:(fQ K bA).contains (.ref bA)=true)
 {bu:Addr} (b_NoWay:PySem.W.nsIn K mainGlobals "NoWay"=some (some (.ref bu))) (e_NoWay:PySem.W.excIn K bu iO "ValueError.__new__"=true) (jR:(fQ K bu).contains (.ref bu)=true)
 {aV:Addr} (b_TooLong:PySem.W.nsIn K mainGlobals "TooLong"=some (some (.ref aV))) (e_TooLong:PySem.W.excIn K aV iO "ValueError.__new__"=true) (gs:(fQ K aV).contains (.ref aV)=true)
 (m_:uB KK bu)
 (nH:uB KK aV)
 (AT:(fQ KK aV).contains (.ref bu)=false)
 (ng:PySem.W.kitOne KK (.ref bu) (.ref bo)=some true)
 (nB:PySem.W.kitOne KK (.ref bu) (.ref aV)=some false)
 (m7:PySem.W.kitOne KK (.ref bu) (.ref bA)=some false)
 (m8:PySem.W.kitOne KK (.ref aV) (.ref bo)=some true)
 (nj:PySem.W.kitOne KK (.ref aV) (.ref bu)=some false)
 (nh:PySem.W.kitOne KK (.ref aV) (.ref bA)=some false)
 {CQ:Addr} (cQ:CK K KK "Queue" CQ) (nQ_0:PySem.W.findIn KK (.ref CQ) "last"=some none) (nQ_1:PySem.W.findIn KK (.ref CQ) "piles"=some none)
 {CP:Addr} (cP:CK K KK "Pricing" CP) (nP_0:PySem.W.findIn KK (.ref CP) "rules"=some none) (nP_1:PySem.W.findIn KK (.ref CP) "told"=some none) (nP_2:PySem.W.findIn KK (.ref CP) "offers"=some none) (nP_3:PySem.W.findIn KK (.ref CP) "settled"=some none) (nP_4:PySem.W.findIn KK (.ref CP) "lacking"=some none)
 {f_QI:Addr} (y_x_B:MK KK CQ "__init__" "Queue.__init__" Gb f_QI)
 {f_QA:Addr} (y_x_C:MK KK CQ "add" "Queue.add" Gc f_QA)
 {f_QE:Addr} (y_x_D:MK KK CQ "is_empty" "Queue.is_empty" Ge f_QE)
 {f_QT:Addr} (y_x_E:MK KK CQ "take_lowest" "Queue.take_lowest" Dy f_QT)
 {f_PI:Addr} (y_x_F:MK KK CP "__init__" "Pricing.__init__" Gf f_PI)
 {f_PO:Addr} (y_x_G:MK KK CP "offer" "Pricing.offer" Gg f_PO)
 {f_PS:Addr} (y_x_H:MK KK CP "settle" "Pricing.settle" Gh f_PS)
 {f_PF:Addr} (y_x_I:MK KK CP "settle_first" "Pricing.settle_first" Gi f_PF)
 {f_PA:Addr} (y_x_J:MK KK CP "settle_all" "Pricing.settle_all" Gj f_PA)
 : ∃ t:Tx KK mg,True:=by
 obtain⟨nJ⟩:=df (ps:=db) X G U nJ;obtain⟨Bk⟩:=df (ps:=cK) X G U Bk;obtain⟨Bj⟩:=df (ps:=cv) X G U Bj;obtain⟨Bn⟩:=df (ps:=dc) X G U Bn;obtain⟨By⟩:=df (ps:=dg) X G U By;obtain⟨Bp⟩:=df (ps:=cL) X G U Bp;obtain⟨Bv⟩:=df (ps:=ck) X G U Bv;obtain⟨Bm⟩:=df (ps:=gH) X G U Bm;obtain⟨Bo⟩:=df (ps:=bX) X G U Bo;obtain⟨BC⟩:=df (ps:=dC) X G U BC;obtain⟨xN⟩:=df (ps:=jJ) X G U xN;obtain⟨Br⟩:=df (ps:=dE) X G U Br;obtain⟨BF⟩:=df (ps:=d_) X G U BF;obtain⟨xG⟩:=df (ps:=eh) X G U xG;obtain⟨xJ⟩:=df (ps:=eF) X G U xJ;obtain⟨xF⟩:=df (ps:=lC) X G U xF;obtain⟨Bz⟩:=df (ps:=dh) X G U Bz;obtain⟨Bl⟩:=df (ps:=fK) X G U Bl;obtain⟨Bt⟩:=df (ps:=dF) X G U Bt;obtain⟨BJ⟩:=df (ps:=eG) X G U BJ;obtain⟨BB⟩:=df (ps:=dG) X G U BB;obtain⟨xL⟩:=Nz (ps:=vF) 3 rfl X G xL;obtain⟨Bs⟩:=df (ps:=dH) X G U Bs;obtain⟨BI⟩:=df (ps:=eJ) X G U BI;obtain⟨xH⟩:=df (ps:=dI) X G U xH;obtain⟨BD⟩:=df (ps:=eL) X G U BD;obtain⟨BA⟩:=df (ps:=vG) X G U BA;have GB:=Im cQ y_x_B;obtain⟨GO,rfl⟩:=mf (ps:=["self"]) y_x_B;obtain⟨DA,rfl⟩:=mf (ps:=["self", "price", "thing"]) y_x_C;obtain⟨GE,rfl⟩:=mf (ps:=["self"]) y_x_D;obtain⟨GP,rfl⟩:=mf (ps:=["self"]) y_x_E;have GM:=Im cP y_x_F;obtain⟨GN,rfl⟩:=mf (ps:=["self", "house"]) y_x_F;obtain⟨uz,rfl⟩:=mf (ps:=["self", "arrow", "price", "number", "mid"]) y_x_G;obtain⟨GI,rfl⟩:=mf (ps:=["self", "arrow", "price"]) y_x_H;obtain⟨GF,rfl⟩:=mf (ps:=["self", "number", "rule", "mid", "price"]) y_x_I;obtain⟨GH,rfl⟩:=mf (ps:=["self"]) y_x_J;exact⟨⟨nJ,Bk,Bj,Bn,By,Bp,Bv,Bm,Bo,BC,xN,Br,BF,xG,xJ,xF,Bz,Bl,Bt,BJ,BB,xL,Bs,BI,xH,BD,BA,O4 X G z_all,O4 X G z_bool,O4 X G z_divmod,O4 X G z_enumerate,O4 X G z_int,O4 X G z_isinstance,O4 X G z_len,O4 X G z_list,O4 X G z_max,O4 X G z_min,O4 X G z_range,O4 X G z_reversed,O4 X G z_set,O4 X G z_sorted,O4 X G z_tuple,bo,⟨QP X G b_WalkError,(U.exc e_WalkError).1⟩,(by rw[(U.exc e_WalkError).2];exact fM),bA,⟨QP X G b_NotPlain,(U.exc e_NotPlain).1⟩,(by rw[(U.exc e_NotPlain).2];exact gR),bu,⟨QP X G b_NoWay,(U.exc e_NoWay).1⟩,(by rw[(U.exc e_NoWay).2];exact jR),aV,⟨QP X G b_TooLong,(U.exc e_TooLong).1⟩,(by rw[(U.exc e_TooLong).2];exact gs),m_,nH,AT,ng,nB,m7,m8,nj,nh,CQ,⟨cQ.cl,nQ_0,nQ_1⟩,QP X G cQ.b,CP,⟨cP.cl,nP_0,nP_1,nP_2,nP_3,nP_4⟩,QP X G cP.b,GO,GB,DA,GE,GP,GN,GM,uz,GI,GF,GH⟩,True.intro⟩
theorem Gw {l:PySem.W.OpenLaw} {w:World} {K:SG} {mg:Str->Option SI} {fa:Addr} (hfa:mg "law"=some (.ref fa)) (T:∃ t:Tx K mg,True) :
 ∃ fd:FuncData,(∀(s:SF)(v:SI),BindsTo s fd ⟨[v],[]⟩ [("_law_script",v)])/\∀ base:Heap,bF l.prog w K mg base (uP l.prog w) 9 fa fd ["_law_script"] (J0 vH):=by
 obtain⟨t,_⟩:=T;have e:=hfa.symm.trans t.BA.h.gl;cases e;obtain⟨oc,od,kV,doc,pm,an,cdv,ct,osl,efd,lk,hcd⟩:=t.BA.h.fu.ex;exact⟨t.BA.fd,fun s v=>by rw[efd];exact .of_eq rfl,fun base=>bF.top (Gv t)⟩
end W
namespace W
open L3
theorem Gx (ns:List Int)(hl:ns.length<=63):vH [.lst (ns.map .int)]=.ok (.val (.bl true) true []):=L4.Jk
end W
open PySem PySem.W PyProof.Rows
set_option maxRecDepth 100000 in
set_option maxHeartbeats 0 in
theorem PySem.Challenge.cw_callwalk_k25_way_is_walked_holds : PySem.Challenge.rw_callwalk_k25_way_is_walked.Holds := by
 w_on;refine PySem.W.Ea ?_
 k_fill
 refine L2.yZ (l:=PySem.Challenge.rw_callwalk_k25_way_is_walked) (n:=63) (k:=9) (x:="_law_script") (CX:=fun w=>L2.uP PySem.Challenge.pw_callwalk_k25_way_is_walked w) (sp:=fun _=>L3.J0 W.vH) rfl (by decide) rfl ⟨rfl,by decide,by decide⟩ (fun w h Y=>PySem.W.kIn_of Y) ?kL ?F ?S ?C
 case kL=>exact fun w=>⟨by rfl,by rfl⟩
 case F=>
  intro w mg fa h KX G hmg
  refine' Exists.imp (fun _ z=>⟨z.1,fun base _ _=>z.2 base⟩) (W.Gw hmg ?_)
  refine' (W.Jy KX G L2.wx (L4.fk ?_ ?_ ?_) (L4.fk ?_ ?_ ?_) (L4.fk ?_ ?_ ?_) (L4.fk ?_ ?_ ?_) (L4.fk ?_ ?_ ?_) (L4.fk ?_ ?_ ?_) (L4.fk ?_ ?_ ?_) (L4.fk ?_ ?_ ?_) (L4.fk ?_ ?_ ?_) (L4.fk ?_ ?_ ?_) (L4.fk ?_ ?_ ?_) (L4.fk ?_ ?_ ?_) (L4.fk ?_ ?_ ?_) (L4.fk ?_ ?_ ?_) (L4.fk ?_ ?_ ?_) (L4.fk ?_ ?_ ?_) (L4.fk ?_ ?_ ?_) (L4.fk ?_ ?_ ?_) (L4.fk ?_ ?_ ?_) (L4.fk ?_ ?_ ?_) (L4.fk ?_ ?_ ?_) (L4.Ny ?_ ?_ ?_ ?_ ?_) (L4.fk ?_ ?_ ?_) (L4.fk ?_ ?_ ?_) (L4.fk ?_ ?_ ?_) (L4.fk ?_ ?_ ?_) (L4.fk ?_ ?_ ?_) ?_ ?_ ?_ ?_ ?_ ?_ ?_ ?_ ?_ ?_ ?_ ?_ ?_ ?_ ?_ ?b_WalkError ?e_WalkError ?fM ?b_NotPlain ?e_NotPlain ?gR ?b_NoWay ?e_NoWay ?jR ?b_TooLong ?e_TooLong ?gs ?m_ ?nH ?AT ?ng ?nB ?m7 ?m8 ?nj ?nh ⟨?_,?_,?_,?_,?_,?_,?_⟩ ?_ ?_ ⟨?_,?_,?_,?_,?_,?_,?_⟩ ?_ ?_ ?_ ?_ ?_ (L4.mk ?_ ?_ ?_ ?_ ?_) (L4.mk ?_ ?_ ?_ ?_ ?_) (L4.mk ?_ ?_ ?_ ?_ ?_) (L4.mk ?_ ?_ ?_ ?_ ?_) (L4.mk ?_ ?_ ?_ ?_ ?_) (L4.mk ?_ ?_ ?_ ?_ ?_) (L4.mk ?_ ?_ ?_ ?_ ?_) (L4.mk ?_ ?_ ?_ ?_ ?_) (L4.mk ?_ ?_ ?_ ?_ ?_))
  (case b_WalkError=>k_is)
  (case e_WalkError=>k_exc)
  (case fM=>rfl)
  (case b_NotPlain=>k_is)
  (case e_NotPlain=>k_exc)
  (case gR=>rfl)
  (case b_NoWay=>k_is)
  (case e_NoWay=>k_exc)
  (case jR=>rfl)
  (case b_TooLong=>k_is)
  (case e_TooLong=>k_exc)
  (case gs=>rfl)
  (case m_=>exact⟨by k_is,by k_is,by k_is,by k_is,by k_is,by k_is,by k_is,by rfl⟩)
  (case nH=>exact⟨by k_is,by k_is,by k_is,by k_is,by k_is,by k_is,by k_is,by rfl⟩)
  (case AT=>rfl)
  (case ng=>rfl)
  (case nB=>rfl)
  (case m7=>rfl)
  (case m8=>rfl)
  (case nj=>rfl)
  (case nh=>rfl)
  all_goals try k_is
 case S=>exact fun w H a ns hl hS=>L3.E7 (fun ns hn=>⟨_,_,W.Gx ns hn⟩) H a ns hl hS
 case C=>exact fun _ _ _ _ _ z=>L3.E8 z
