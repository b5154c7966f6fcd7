import PyProof.Rows.All
import Wide.All
import OpenK.AllK
import PySem.Challenge.RW_callwalk_k45_tiers_fall
section
open PySem PySem.W PyProof.Rows
def PySem.W.Vw:Program:={PySem.Challenge.pw_callwalk_k45_tiers_fall with main:={PySem.Challenge.pw_callwalk_k45_tiers_fall.main with body:=PySem.Challenge.pw_callwalk_k45_tiers_fall.main.body.filter fun s=>match s with|.FunctionDef ..=>true|.ClassDef ..=>true|_=>false}}
local macro_rules | `(tactic| o_head $H) => `(tactic| refine holds_open (q := PySem.W.Vw) (loose := []) (Xt := fun s => xlAt PySem.W.Vw [] s && recOk (RowW.records PySem.Challenge.rw_callwalk_k45_tiers_fall.row.toRowW) s) (XP := XL PySem.W.Vw []) (Yf := Hook.obs $H) (Ya := Hook.val $H) (YP := Hook.says $H) (N := 4600) (fun w => by kernel_rfl) (Hook.of $H) (Hook.keeps $H) (fun s e => xl_of s (Bool.and_eq_true_iff.mp e).1) XL.keeps (by rfl) (by rfl) (by rfl) (fun s e => recFacts_of (Bool.and_eq_true_iff.mp e).2) (by rfl) (by first | assumption | decide +kernel) (by decide +kernel) ⟨rfl, rfl, rfl, rfl, rfl, by decide +kernel⟩ ?_ ?_)
set_option Elab.async false
set_option maxRecDepth 100000
set_option maxHeartbeats 0
def PySem.W.Ea:=fun hc=>(by
 w_on;o_law;k_head;(· w_witness2)
 exact hc:PySem.Challenge.rw_callwalk_k45_tiers_fall.Holds)
end
set_option autoImplicit true
set_option Elab.async false
set_option linter.all false
set_option genSizeOf false
set_option genSizeOfSpec false
set_option compiler.extract_closed false
set_option maxRecDepth 100000
set_option maxHeartbeats 4000000
set_option bootstrap.genMatcherCode false
noncomputable section
open PySem.W(instObj hideAll lookIn plainGet hasDictIn findIn isFn emptyDict keepIn kitOne fnOf codeIn excIn kas_ask nsIn)
abbrev KE:=@PySem.wpAny_bind
abbrev Po:=@PySem.wpAny_pure
abbrev Pp:=@PySem.Heap.get?_push_of_some
abbrev Pq:=@Nat.le_refl
abbrev Ps:=@List.length_map
abbrev Pt:=@List.mem_map
abbrev Pu:=@List.mem_cons_self
abbrev Pw:=@List.mem_cons_of_mem
abbrev Px:=@List.getElem?_eq_getElem
abbrev Py:=@List.mem_singleton
abbrev PB:=@List.mem_cons
abbrev PD:=@PySem.Heap.lt_size
abbrev PF:=@List.getElem?_eq_some_iff
abbrev PH:=@PySem.Heap.get?_push_size
abbrev PJ:=@List.length_append
abbrev PK:=@if_neg
abbrev PL:=@List.size_toArray
abbrev PN:=@if_pos
abbrev PP:=@List.mem_append
abbrev PQ:=@Nat.zero_le
abbrev PR:=@List.getElem?_map
abbrev PU:=@List.map_cons
abbrev PV:=@List.not_mem_nil
abbrev PX:=@List.mem_iff_getElem?
abbrev PY:=@List.mem_of_getElem?
abbrev PZ:=@Bool.false_eq_true
abbrev P0:=@List.take_add_one
abbrev P3:=@decide_eq_true
abbrev P7:=@Nat.ne_of_lt
abbrev P8:=@List.length_cons
abbrev P9:=@PySem.F.plainAttrs_list
abbrev P_:=@List.mem_filter
abbrev Qa:=@of_decide_eq_true
abbrev Qb:=@Nat.le_trans
abbrev Qc:=@List.pairwise_iff_getElem
abbrev Qd:=@List.mem_append_left
abbrev Qe:=@PySem.PassesOwn.never
abbrev Qf:=@PySem.sizeLine_eq
abbrev Qg:=@Bool.false_ne_true
abbrev Qh:=@List.mem_range
abbrev Qi:=@PySem.Heap.SameBut.update
abbrev Qj:=@List.nodup_append
abbrev Qk:=@List.take_length
abbrev Ql:=@Array.getElem?_toList
abbrev Qm:=@List.append_assoc
abbrev Qn:=@List.nodup_nil
abbrev Qo:=@List.map_append
abbrev Qp:=@Classical.byContradiction
abbrev Qq:=@PySem.F.plainAttrs_dict
abbrev Qr:=@Nat.lt_of_lt_of_le
abbrev Qs:=@List.mem_append_right
abbrev Qu:=@List.nodup_cons
abbrev Qw:=@List.length_eq_zero_iff
abbrev Qx:=@PySem.F.slot_list_append
abbrev Qy:=@PySem.F.type_list_append
abbrev Qz:=@PySem.wpAny_holding
abbrev QA:=@decide_eq_false
abbrev QB:=@PySem.F.slot_dict_setdefault
abbrev QC:=@List.map_map
abbrev QD:=@PySem.wpAny_newObj_type
abbrev QE:=@PySem.wpAny_dictEntries
abbrev QF:=@PySem.wpAny_call_entry
abbrev QG:=@List.length_take_le'
abbrev QH:=@Option.some.inj
abbrev QI:=@PySem.Heap.get?_update_self
abbrev QJ:=@Nat.exists_eq_add_of_le'
abbrev QK:=@List.filter_append
abbrev QL:=@List.map_congr_left
abbrev QM:=@List.length_singleton
abbrev QN:=@List.length_take
abbrev QO:=@PySem.W.mg_none_of
abbrev QP:=@Array.length_toList
abbrev QQ:=@Ne.symm
abbrev QR:=@List.append_nil
abbrev QS:=@Nat.lt_of_le_of_lt
abbrev QT:=@PySem.boot_len
abbrev QU:=@PySem.F.type_dict_setdefault
abbrev QV:=@Option.map_eq_some_iff
abbrev QW:=@List.take_of_length_le
abbrev QX:=@List.filter_cons
abbrev QY:=@List.mem_flatMap
abbrev QZ:=@PyProof.Rows.slot_tuple_getitem
abbrev Q0:=@List.pairwise_map
abbrev Q1:=@congrArg
abbrev Q2:=@List.take_append_drop
abbrev Q3:=@List.getElem?_append_right
abbrev Q5:=@if_false
abbrev Q7:=@PySem.wpAny_callSpecial?_slot
abbrev Q8:=@Int.eq_ofNat_of_zero_le
abbrev Q9:=@List.find?_cons
abbrev Q_:=@PySem.F.slot_dict_itemiterator_next
abbrev Ra:=@PySem.wpAny_setState_of
abbrev Rb:=@PySem.Heap.get?_update_other
abbrev Rc:=@List.Pairwise.imp_of_mem
abbrev Re:=@Nat.le_of_lt
abbrev Rf:=@PySem.W.kia_one
abbrev Rg:=@PySem.codeAny_builtin
abbrev Rh:=@PySem.wpAny_notOrdered_dict
abbrev Rj:=@Bool.and_eq_true
abbrev Rk:=@PySem.Paired.length
abbrev Rl:=@PySem.wpAny_mono
abbrev Rm:=@List.flatMap_cons
abbrev Rn:=@PySem.Around.under_plainId
abbrev Ro:=@PySem.Obj.data_mapDictKeys
abbrev Rp:=@List.mem_of_mem_take
abbrev Rq:=@PyProof.Rows.F.plain_set_update_loop
abbrev Rr:=@Nat.shiftRight_eq_div_pow
abbrev Rt:=@Nat.lt_succ_self
abbrev Ru:=@beq_eq_false_iff_ne
abbrev Rv:=@List.length_filter_le
abbrev Rx:=@List.getElem?_eq_none
abbrev Ry:=@Bool.not_true
abbrev Rz:=@Array.getElem?_eq_some_iff
abbrev RB:=@PySem.Calls.callWith_builtin
abbrev RC:=@List.length_eq_one_iff
abbrev RD:=@PySem.wpAny_truthy_bool
abbrev RE:=@PySem.mem_of_lookup
abbrev RF:=@List.foldl_append
abbrev RG:=@PySem.F.slot_dict_get
abbrev RH:=@PySem.wpAny_typeNameOfWhole_itemiter
abbrev RI:=@List.foldl_cons
abbrev RJ:=@PySem.wpAny_Call_Name_kw
abbrev RK:=@PySem.tupleKind_room_in1
abbrev RM:=@Nat.lt_irrefl
abbrev RN:=@PySem.plainId_quiet
abbrev RO:=@List.map_nil
abbrev RP:=@List.Perm.refl
abbrev RQ:=@PySem.size_of_entries
abbrev RT:=@PySem.wpAny_dictEpoch
abbrev RU:=@List.flatMap_append
abbrev RV:=@Nat.ne_of_gt
abbrev RW:=@List.findIdx?_eq_some_iff_getElem
abbrev RX:=@Int.le_trans
abbrev RY:=@Bool.false_and
abbrev RZ:=@PySem.wpAny_typeNameOf_itemiter
abbrev R0:=@Array.getElem?_eq_getElem
abbrev R3:=@PySem.Calls.evalArgs_plain
abbrev R4:=@PySem.wpAny_passesOwn
abbrev R5:=@decide_eq_true_eq
abbrev R7:=@PySem.F.slot_list_extend
abbrev R8:=@PySem.F.type_list_extend
abbrev R9:=@PySem.wpAny_typeOf
abbrev R_:=@PySem.call_meetsIn
abbrev Sa:=@List.filterMap_cons
abbrev Sb:=@if_true
abbrev Se:=@PySem.wpAny_isInstance
abbrev Sf:=@List.lookup_cons
abbrev Sg:=@PySem.wpAny_typeNameOfWhole_keyiter
abbrev Si:=@PySem.F.plain_max_loop
abbrev Sj:=@PySem.Heap.size_push
abbrev Sk:=@PySem.F.entry_dict_get
abbrev Sm:=@List.mem_filterMap
abbrev Sn:=@PySem.Calls.spliced_cons
abbrev Sq:=@PySem.wpAny_setField_rec
abbrev Sr:=@List.dropLast_concat_getLast
abbrev Ss:=@PySem.wpAny_execs_nil
abbrev Su:=@PyProof.Rows.callWith_type1
abbrev Sv:=@Bool.eq_iff_iff
abbrev Sw:=@List.length_nil
abbrev Sx:=@List.nil_append
abbrev Sy:=@Nat.le_of_ble_eq_true
abbrev Sz:=@beq_iff_eq
abbrev SB:=@Int.toNat_natCast
abbrev SC:=@Nat.lt_succ_of_lt
abbrev SD:=@PySem.wpAny_pyIter_slot
abbrev SE:=@List.ext_getElem?
abbrev SF:=@Std.Legacy.Range.forIn_eq_forIn_range'
abbrev SG:=@List.mem_iff_getElem
abbrev SH:=@List.getElem?_of_mem
abbrev SI:=@Bool.and_false
abbrev SJ:=@List.drop_eq_getElem_cons
abbrev SK:=@List.getElem?_append_left
abbrev SL:=@List.getElem?_zip_eq_some
abbrev SM:=@PyProof.Rows.F.entry_set_update_loop
abbrev SN:=@PySem.wpAny_setField
abbrev SO:=@PySem.Calls.call_function_entry
abbrev SQ:=@Nat.mul_le_mul
abbrev SR:=@List.length_drop
abbrev SS:=@List.nodup_range
abbrev SU:=@PySem.wpAny_forIn_list
abbrev SV:=@PySem.Obj.isFreed_of_dict
abbrev SW:=@PySem.Heap.SameBut.extBut
abbrev SX:=@List.length_pos_iff
abbrev SY:=@Int.le_refl
abbrev SZ:=@Nat.mul_le_mul_left
abbrev S1:=@PySem.codeAny_mono
abbrev S3:=@PySem.wpAny_rule
abbrev S5:=@PySem.wpAny_typeNameOf_keyiter
abbrev S6:=@PySem.W.callWith_K
abbrev S8:=@PySem.wpAny_specialOf
abbrev S_:=@List.pairwise_cons
abbrev Ta:=@Nat.lt_or_gt_of_ne
abbrev Tc:=@PySem.W.KasT.kasWp_bind
abbrev Td:=@PySem.Obj.data_mapFields
abbrev Te:=@PySem.wpAny_updateSeq
abbrev Tf:=@Nat.add_sub_cancel_left
abbrev Tg:=@Array.getElem?_eq_none
abbrev Th:=@PySem.wpAny_isOneOf_itemiter
abbrev Tj:=@List.length_pos_of_mem
abbrev Tl:=@PySem.wpAny_pyIter_list
abbrev Tn:=@PySem.Calls.spliced_nil
abbrev To:=@PySem.wpAny_field
abbrev Tp:=@Nat.lt_trichotomy
abbrev Tq:=@PySem.wpAny_storeSet_of
abbrev Ts:=@bne_self_eq_false
abbrev Tt:=@PySem.wpAny_letGo
abbrev Tu:=@List.getElem?_inj
abbrev Tv:=@List.length_range
abbrev Tw:=@PySem.wpAny_seqItems
abbrev Tz:=@PySem.F.args_dict_setdefault_3
abbrev TB:=@PySem.Obj.isFreed_of_fields
abbrev TC:=@Int.le_of_lt
abbrev TF:=@Nat.le_add_right
abbrev TH:=@PySem.F.entry_dict_setdefault
abbrev TJ:=@List.all_eq_true
abbrev TN:=@List.take_append_of_le_length
abbrev TR:=@PySem.wpAny_updateDictKeys
abbrev TU:=@List.mem_of_mem_drop
abbrev TV:=@List.pairwise_append
abbrev TY:=@Prod.ext
abbrev TZ:=@PySem.wpAny_attempt
abbrev T1:=@PySem.wpAny_newList
abbrev T3:=@List.all_cons
abbrev T4:=@PySem.W.plainGet_of
abbrev T5:=@Nat.add_le_add_left
abbrev T6:=@List.getElem?_range
abbrev T7:=@List.map_eq_nil_iff
abbrev T8:=@Int.toNat_of_nonneg
abbrev T9:=@PySem.W.of_hideAll
abbrev T_:=@Nat.le_of_eq
abbrev Ua:=@or_false
abbrev Ub:=@Array.forIn_toList
abbrev Uc:=@PySem.wpAny_tryCatch
abbrev Ud:=@PySem.wpAny_fieldsOf
abbrev Ue:=@PySem.W.kitx_dict
abbrev Ug:=@Option.isSome_map
abbrev Uh:=@Nat.le_of_lt_succ
abbrev Ui:=@Nat.le_succ
abbrev Uj:=@List.any_cons
abbrev Uk:=@Bool.and_self
abbrev Ul:=@PySem.wpAny_of_eq
abbrev Um:=@Bool.true_and
abbrev Uo:=@List.sum_cons
abbrev Up:=@Nat.mul_add
abbrev Uq:=@PySem.W.mg_of
abbrev Ur:=@Nat.le_of_not_lt
abbrev Us:=@beq_self_eq_true
abbrev Ut:=@List.getElem_mem
abbrev Uu:=@List.perm_middle
abbrev Uv:=@Nat.add_comm
abbrev Uw:=@Nat.mod_lt
abbrev Ux:=PySem.Shared
abbrev Uy:=PySem.W.Frag
abbrev Uz:=PySem.Program
abbrev UA:=PySem.Value
abbrev UB:=PySem.Around
def UH(h : True := by rfl) : True := h
def az:Lean.Syntax:=UH._auto_1
def UC(h : True := by decide) : True := h
def ae:Lean.Syntax:=UC._auto_1
def UF(h : ∀u : Unit, u = u := by intro _; rfl) : True := True.intro
def af:Lean.Syntax:=UF._auto_1
def UD(h : True := by first|exact .inl rfl|exact .inr rfl|assumption) : True := h
def UE(h : True := by first|exact Or.inl rfl|exact Or.inr (Or.inl rfl)|exact Or.inr (Or.inr rfl)) : True := h
def UG(h : True := by intro _ _; rfl) : True := h

namespace L2
open PySem PySem.Spec PyProof.Rows
abbrev bI:=Sum Int Str
def jj:bI->UA->Bool
 |.inl k,v=>Value.isInt k v
 |.inr x,v=>Value.isStrOf x v
def LO(w:World):bI->Int
 |.inl k=>hashInt k
 |.inr x=>hashStr w x
def bC:∀{k:bI}{v:UA},jj k v=true->(∃i t,k=Sum.inl i/\v=Value.int i t)\/(∃x t,k=Sum.inr x/\v=Value.str x t)
 |.inl i,v,h=>by obtain⟨t,e⟩:=Value.isInt_shape (k:=i) (v:=v) h;exact .inl ⟨i,t,rfl,e⟩
 |.inr x,v,h=>by obtain⟨t,e⟩:=Value.isStrOf_shape (x:=x) (v:=v) h;exact .inr ⟨x,t,rfl,e⟩
def wK(i:Int)(t:Tok):jj (.inl i) (.int i t)=true:=by simp[jj,Value.isInt]
def wL(x:Str)(t:Tok):jj (.inr x) (.str x t)=true:=by simp[jj,Value.isStrOf]
def F0(a b:Int):decide ((Sum.inl a:bI)=Sum.inl b)=(a==b):=by grind
def F1(a b:Str):decide ((Sum.inr a:bI)=Sum.inr b)=decide (a=b):=by grind
def F2(a:Int)(b:Str):decide ((Sum.inl a:bI)=Sum.inr b)=false:=QA (λq=>nomatch q)
def F3(a:Str)(b:Int):decide ((Sum.inr a:bI)=Sum.inl b)=false:=QA (λq=>nomatch q)
def aK(prog:Uz)(w:World):PySem.KeyKind prog w bI where
 is:=jj
 hash:=LO w
 inj:=λv a b ha hb=>by
  rcases bC ha with⟨i,t,rfl,rfl⟩|⟨x,t,rfl,rfl⟩
  .rcases bC hb with⟨j,u,rfl,e⟩|⟨y,u,rfl,e⟩
   .injection e with e1 _;rw[e1]
   .exact nomatch e
  .rcases bC hb with⟨j,u,rfl,e⟩|⟨y,u,rfl,e⟩
   .exact nomatch e
   .injection e with e1 _;rw[e1]
 byValue:=λk v h=>by rcases bC h with⟨i,t,rfl,rfl⟩|⟨x,t,rfl,rfl⟩<;>rfl
 pyHash:=λhv h=>by
  rcases bC hv with⟨i,t,rfl,rfl⟩|⟨x,t,rfl,rfl⟩
  .exact wpAny_pyHash_int h
  .exact wpAny_pyHash_str h
 eqBool:=λhu hv h=>by
  rcases bC hu with⟨i,t,rfl,rfl⟩|⟨x,t,rfl,rfl⟩
  .rcases bC hv with⟨j,u,rfl,rfl⟩|⟨y,u,rfl,rfl⟩
   .rw[F0]at h;exact wpAny_eqBool_int h
   .rw[F2]at h;exact SeqAt.EqAt.int_str i t y u _ _ _ _ h
  .rcases bC hv with⟨j,u,rfl,rfl⟩|⟨y,u,rfl,rfl⟩
   .rw[F3]at h;exact SeqAt.EqAt.str_int x t j u _ _ _ _ h
   .rw[F1]at h;exact wpAny_eqBool_str h
 «strs»:=λk x t v h=>by
  rcases bC h with⟨i,u,rfl,e⟩|⟨y,u,rfl,e⟩
  .exact nomatch e
  .injection e with e1 _;subst e1;cases v<;>rfl
def qO(prog:Uz)(w:World)(i:Int)(t:Tok):(aK prog w).is (.inl i) (.int i t)=true:=wK i t
def qP(prog:Uz)(w:World)(x:Str)(t:Tok):(aK prog w).is (.inr x) (.str x t)=true:=wL x t
inductive V where
 |bB|bl (b:Bool)|int (i:Int)|str (x:Str)|vq (b:Array UInt8)|FY (b:UInt64)|ref (a:Addr)|ty (n:String)
 deriving DecidableEq
def RelV:V->UA->Prop
 |.bB,u=>u=Value.none
 |.bl b,u=>u=Value.bool b
 |.int i,u=>∃t,u=Value.int i t
 |.str x,u=>∃t,u=Value.str x t
 |.vq b,u=>∃t,u=Value.bytes b t
 |.FY b,u=>∃t,u=Value.float b t
 |.ref a,u=>u=Value.ref a
 |.ty n,u=>u=Value.type n
abbrev Vals:List V->List UA->Prop:=Paired RelV
theorem Vals.length(r:Vals xs us):xs.length=us.length:=Rk r
theorem Vals.get:∀{xs:List V}{us:List UA}{i:Nat}{x:V},Vals xs us->xs[i]?=some x->∃u,us[i]?=some u/\RelV x u
 |_,_,_,_,.nil,e=>by simp at e
 |_,_,0,_,.cons r _,e=>by simp at e;subst e;exact⟨_,rfl,r⟩
 |_,_,i+1,x,.cons _ t,e=>by obtain⟨u,h1,h2⟩:=Vals.get (i:=i) (x:=x) t (by simpa using e);exact⟨u,by simpa using h1,h2⟩
theorem Vals.append:∀{xs a:List V}{us ws:List UA},Vals xs us->Vals a ws->Vals (xs++a) (us++ws)
 |_,_,_,_,.nil,s=>s
 |_,_,_,_,.cons r t,s=>.cons r (Vals.append t s)
theorem Vals.take:∀{xs:List V}{us:List UA}(n:Nat),Vals xs us->Vals (xs.take n) (us.take n)
 |_,_,0,_=>.nil
 |_,_,_+1,.nil=>.nil
 |_,_,n+1,.cons r t=>.cons r (Vals.take n t)
theorem Vals.drop:∀{xs:List V}{us:List UA}(n:Nat),Vals xs us->Vals (xs.drop n) (us.drop n)
 |_,_,0,r=>r
 |_,_,_+1,.nil=>.nil
 |_,_,n+1,.cons _ t=>Vals.drop n t
def RelO:Option V->Option UA->Prop
 |some v,some u=>RelV v u
 |none,none=>True
 |_,_=>False
def KV{κ:Type}:List (κ×V)->List (κ×UA)->Prop:=Paired λ(p:κ×V)(q:κ×UA)=>p.1=q.1/\RelV p.2 q.2
def kV:bI->V
 |.inl i=>.int i
 |.inr x=>.str x
inductive HO where
  
 |lst (xs:List V)
  
 |tup (xs:List V)
  
 |dK (kvs:List (bI×V))|dT (kvs:List (List bI×V))
  
 |set (S:Int->Bool) (n:Nat)
  
 |ins (C dx:Addr) (fs:List (Str×V))
  
 |own (x:Addr)
  
 |xd (fs:List (Str×V))
  
 |met (f x:Addr)
  
 |LK (lo hi:Int)
  
 |bP (o:Obj) (u:HO)
  
 |qN (ps:Array UA)
  
 |ext (φ:Heap->Prop)
abbrev Hp:=Addr->Option HO
def upd(H:Hp)(a:Addr)(o:HO):Hp:=λb=>if b=a then some o else H b
def ag:upd H a o a=some o:=by unfold upd;rw[PN rfl]
def ai(h:b≠a):upd H a o b=H b:=by unfold upd;rw[PK h]
def yU{H:Hp}(h:H a=some o)(h':H b=some u)(d:o≠u):a≠b:=by intro e;subst e;rw[h]at h';exact d (QH h')
def ax{H:Hp}(h:H a=some o)(h':H b=none):a≠b:=by intro e;subst e;rw[h]at h';cases h'
section
variable(P:Uz)(w:World)
def ObjOk(H:Hp)(h:Heap)(a:Addr):HO->Prop
 |.lst xs=>xs.length<=sizeLine/\∃(its:List UA)(n:Nat),Vals xs its/\h.get? a=some { cls:=.type "list",data:=.seq its.toArray n }
 |.tup xs=>xs.length<=sizeLine/\∃its:List UA,Vals xs its/\IsTup h a its.toArray
 |.dK kvs=>kvs.length<=sizeLine/\(a==sysModules)=false/\∃vs,KV kvs vs/\h.DictOf (aK P w) a vs
 |.dT kvs=>kvs.length<=sizeLine/\(a==sysModules)=false/\∃xs:List (List bI×Addr×UA),
  Paired (λ(p:List bI×V)(q:List bI×Addr×UA)=>p.1=q.1/\H q.2.1=some (.tup (p.1.map kV))/\RelV p.2 q.2.2) kvs xs/\
  ∃o es ep,h.get? a=some o/\o.ExactDict/\o.data=.dict es ep/\es.toList=xs.map (entryOfKey (tupleKind (aK P w)))/\(xs.map (·.1)).Nodup
 |.set S n=>h.SetOf (intKind P w) a S n
 |.ins C dx fs=>H dx=some (.own a)/\fs.length<=1000/\dx≠a/\h.get? a=some (instObj C dx)/\
  ∃b,h.Ns1 dx b/\(∀f,RelO (fs.lookup f) (b f))/\PySem.Within b (fs.map (·.1))
 |.own _=>∃o,h.get? a=some o
 |.xd fs=>∃b,h.Ns1 a b/\∀f,RelO (fs.lookup f) (b f)
 |.LK lo d=>∃t u v,h.get? a=some { cls:=.type "range",data:=.fields #[.int lo t,.int d u,.int 1 v] }
 |.bP o u=>h.get? a=some o/\ObjOk H h a u
 |.qN ps=>h.get? a=some {cls:=.none,data:=.fields ps}
 |.met f x=>h.get? a=some (PySem.W.methodObj (.ref f) (.ref x))
 |.ext c=>c h/\(∃o,h.get? a=some o)/\∀h1 h2:Heap,c h1->(∀o,h1.get? a=some o->h2.get? a=some o)->c h2
def HOk(H:Hp)(h:Heap):Prop:=∀a o,H a=some o->ObjOk P w H h a o
end
section
theorem ObjOk.lt(x:ObjOk P w H h a o):a<h.objs.size:=by
 cases o with
 |lst xs=>obtain⟨_,_,_,_,e⟩:=x;exact PD e
 |tup xs=>obtain⟨_,_,_,p⟩:=x;exact p.lt
 |dK kvs=>obtain⟨_,_,_,_,o,_,_,e,_⟩:=x;exact PD e
 |dT kvs=>obtain⟨_,_,_,_,o,_,_,e,_⟩:=x;exact PD e
 |set S n=>obtain⟨o,_,_,_,e,_⟩:=x;exact PD e
 |ins C dx fs=>obtain⟨_,_,_,e,_⟩:=x;exact PD e
 |own y=>obtain⟨_,e⟩:=x;exact PD e
 |xd fs=>obtain⟨_,⟨_,_,_,e,_⟩,_⟩:=x;exact PD e
 |LK lo b=>obtain⟨_,_,_,e⟩:=x;exact PD e
 |bP ob u=>obtain⟨e,_⟩:=x;exact PD e
 |qN ps=>exact PD (show h.get? a=some _ from x)
 |met f y=>exact PD (show h.get? a=some _ from x)
 |ext c=>obtain⟨_,⟨_,e⟩,_⟩:=x;exact PD e
def Paired.E6{α e:Type}{F G:α->e->Prop}{c:List α}{d:List e}(h:Paired F c d)(f:∀a b,F a b->G a b):Paired G c d:=by
 induction h with
 |nil=>exact .nil
 |cons r _ g=>exact .cons (f _ _ r) g
def Paired.imp'{α e:Type}{F G:α->e->Prop}(f:∀a b,F a b->G a b){c:List α}{d:List e}(r:Paired F c d):Paired G c d:=Paired.E6 r f
def ObjOk.stay(x:ObjOk P w H h a o)(k:∀b u,(b=a\/H b=some (.own a))->h.get? b=some u->h'.get? b=some u)
 (i:∀b,H b=some (.own a)->H' b=some (.own a)) (j:∀b xs,H b=some (.tup xs)->H' b=some (.tup xs)):ObjOk P w H' h' a o:=by
 induction o with
 |lst xs=>obtain⟨z,its,n,r,e⟩:=x;exact⟨z,its,n,r,k _ _ (.inl rfl) e⟩
 |tup xs=>obtain⟨z,its,r,ob,e,c⟩:=x;exact⟨z,its,r,ob,k _ _ (.inl rfl) e,c⟩
 |dK kvs=>obtain⟨z,y,vs,r,ob,es,ep,e,c⟩:=x;exact⟨z,y,vs,r,ob,es,ep,k _ _ (.inl rfl) e,c⟩
 |dT kvs=>obtain⟨z,y,xs,r,ob,es,ep,e,c⟩:=x;exact⟨z,y,xs,Paired.E6 r λp q z=>⟨z.1,j _ _ z.2.1,z.2.2⟩,ob,es,ep,k _ _ (.inl rfl) e,c⟩
 |set S n=>obtain⟨ob,es,ep,t,e,c⟩:=x;exact⟨ob,es,ep,t,k _ _ (.inl rfl) e,c⟩
 |ins C dx fs=>obtain⟨d,z,ne,e,g,⟨od,es,ep,e2,c⟩,r⟩:=x;exact⟨i _ d,z,ne,k _ _ (.inl rfl) e,g,⟨od,es,ep,k _ _ (.inr d) e2,c⟩,r⟩
 |own y=>obtain⟨ob,e⟩:=x;exact⟨ob,k _ _ (.inl rfl) e⟩
 |xd fs=>obtain⟨g,⟨od,es,ep,e,c⟩,r⟩:=x;exact⟨g,⟨od,es,ep,k _ _ (.inl rfl) e,c⟩,r⟩
 |LK lo m=>obtain⟨t,u,v,e⟩:=x;exact⟨t,u,v,k _ _ (.inl rfl) e⟩
 |bP ob u l=>obtain⟨e,q⟩:=x;exact⟨k _ _ (.inl rfl) e,l q⟩
 |qN ps=>have e:h.get? a=some {cls:=.none,data:=.fields ps}:=x;show h'.get? a=some {cls:=.none,data:=.fields ps};exact k a _ (.inl rfl) e
 |met f y=>have e:h.get? a=some (PySem.W.methodObj (.ref f) (.ref y)):=x;show h'.get? a=some (PySem.W.methodObj (.ref f) (.ref y));exact k a _ (.inl rfl) e
 |ext s=>obtain⟨p,⟨o,e⟩,st⟩:=x;exact⟨st _ _ p λo q=>k _ _ (.inl rfl) q,⟨o,k _ _ (.inl rfl) e⟩,st⟩
theorem HOk.lt(x:HOk P w H h)(e:H a=some o):a<h.objs.size:=(x a o e).lt
def HOk.fresh(x:HOk P w H h)(e:h.objs.size<=a):H a=none:=by
 cases q:H a with
 |none=>rfl
 |some u=>exact absurd (Qr (x.lt q) e) (RM _)
def HOk.kept(x:HOk P w H h)(k:∀b u,h.get? b=some u->h'.get? b=some u):HOk P w H h':=λa o e=>(x a o e).stay (λb u _ q=>k b u q) (λ_ q=>q) λ_ _ q=>q
def HOk.laid(x:HOk P w H h)(k:∀b u,h.get? b=some u->h'.get? b=some u)(f:h.objs.size<=a)(new:ObjOk P w (upd H a o) h' a o):HOk P w (upd H a o) h':=λb u e=>by
 have d:=x.fresh f;by_cases hb:b=a
 .subst hb;rw[ag]at e;cases e;exact new
 .rw[ai hb]at e;exact(x b u e).stay (λc v _ q=>k c v q) (λc q=>by rw[ai (ax q d)];exact q) λc xs q=>by rw[ai (ax q d)];exact q
end
def Rd(H:Hp)(a:Addr)(u:HO):Prop:=H a=some u\/∃o,H a=some (.bP o u)
def Rd.ok(r:Rd H a u)(x:HOk P w H h):ObjOk P w H h a u:=by
 rcases r with r|⟨o,r⟩
 .exact x a u r
 .obtain⟨_,q⟩:=x a _ r;exact q
def II:Option HO->Prop
 |some (.lst _)=>True
 |some (.dK _)=>True
 |some (.dT _)=>True
 |some (.set _ _)=>True
 |some (.ins _ _ _)=>True
 |some (.ext _)=>True
 |_=>False
section
def HOk.write(ok:HOk P w H h)(f:II (H x))(m:e=x\/H e=some (.own x))(k:∀b u,b≠e->h.get? b=some u->h'.get? b=some u)(g:∃u,h'.get? e=some u)
 (new:ObjOk P w (upd H x o') h' x o'):HOk P w (upd H x o') h':=λb u q=>by
 have a:∀c y,H c=some (.own y)->c≠x:=λc y r z=>by subst z;rw[r]at f;exact f
 have d:∀c xs,H c=some (.tup xs)->c≠x:=λc xs r z=>by subst z;rw[r]at f;exact f
 by_cases hb:b=x
 .subst hb;rw[ag]at q;cases q;exact new
 .rw[ai hb]at q;by_cases i:b=e
  .have j:H b=some (.own x):=by
    grind
   rw[q]at j;cases j;obtain⟨v,l⟩:=g;exact⟨v,by rw[i];exact l⟩
  .refine(ok b u q).stay (λc v n r=>k c v ?_ r) (λc r=>by rw[ai (a c b r)];exact r) λc xs r=>by rw[ai (d c xs r)];exact r
   grind
end
def Qt(H:Hp)(b:Addr):Prop:=H b=none\/∃xs,H b=some (.tup xs)
structure Un(fs ex:List Addr) (H H':Hp) (h h':Heap):Prop where
 keep:∀b o,h.get? b=some o->Qt H b->b∉fs->b∉ex->h'.get? b=some o
 slot:∀b o,h.get? b=some o->H b=none->b∈fs->b∉ex->∃sl,h'.get? b=some {o with slots:=sl}
 free:∀b o,h.get? b=some o->H b=none->b∉ex->H' b=none
 there:∀b o,h.get? b=some o->b∉ex->∃o',h'.get? b=some o'
 iU:∀b xs,H b=some (.tup xs)->H' b=some (.tup xs)
 jh:∀b o u,H b=some (.bP o u)->H' b=some (.bP o u)
 lz:∀b ps,H b=some (.qN ps)->∃more,H' b=some (.qN (ps++more))
section
def Un.any(u:Un fs ex H H1 h h1)(q:h.get? b=some ob)(n:H b=none)(a:b∉ex):∃c,h1.get? b=some {ob with slots:=c}:=by
 by_cases hb:b∈fs
 .exact u.slot b ob q n hb a
 .exact⟨ob.slots,u.keep b ob q (.inl n) hb a⟩
def Un.kept(k:∀b u,h.get? b=some u->h'.get? b=some u):Un fs ex H H h h':=⟨λb ob q _ _ _=>k b ob q,λb ob q _ _ _=>⟨ob.slots,k b ob q⟩,λ_ _ _ n _=>n,λb ob q _=>⟨ob,k b ob q⟩,λ_ _ q=>q,λ_ _ _ q=>q,λ_ ps q=>⟨#[],by rw[q];simp⟩⟩
def Un.refl:Un fs ex H H h h:=Un.kept λ_ _ q=>q
def Un.laid(k:∀b u,h.get? b=some u->h'.get? b=some u)(hp:h.objs.size<=a)(hn:H a=none):Un fs ex H (upd H a o) h h' where
 keep:=λb u q _ _ _=>k b u q
 slot:=λb u q _ _ _=>⟨u.slots,k b u q⟩
 free:=λb u q n _=>by rw[ai (P7 (Qr (PD q) hp))];exact n
 there:=λb u q _=>⟨u,k b u q⟩
 iU:=λb xs q=>by rw[ai (ax q hn)];exact q
 jh:=λb u xs q=>by rw[ai (ax q hn)];exact q
 lz:=λb ps q=>⟨#[],by rw[ai (ax q hn),q];simp⟩
def Un.write(a:II (H x))(g:e=x\/H e=some (.own x))(k:∀b u,b≠e->h.get? b=some u->h'.get? b=some u)(d:∃u,h'.get? e=some u):Un fs ex H (upd H x o) h h':=by
 have i:∀b,H b=none->b≠x:=λb n z=>by subst z;rw[n]at a;exact a
 have hb:∀b,H b=none->b≠e:=λb n z=>by grind
 have hm:∀b u,H b=some u->¬II (some u)->b≠x:=λb u q nm z=>by subst z;rw[q]at a;exact nm a
 refine⟨λb u q n _ _=>k b u (n.elim (hb b) λ⟨xs,f⟩ z=>by rcases g with r|r;(·rw[<- r,<- z,f]at a;exact a);(·rw[<- z,f]at r;cases r)) q,λb u q n _ _=>⟨u.slots,k b u (hb b n) q⟩,λb u q n _=>by rw[ai (i b n)];exact n,λb u q _=>?_,
  λb xs q=>by rw[ai (hm b _ q λz=>z)];exact q,λb u xs q=>by rw[ai (hm b _ q λz=>z)];exact q,λb ps q=>⟨#[],by rw[ai (hm b _ q λz=>z),q];simp⟩⟩
 by_cases c:b=e
 .subst c;exact d
 .exact⟨u,k b u c q⟩
end
def qQ(h:Heap)(H:Hp):List Addr:=(List.range h.objs.size).filter λa=>(H a).isSome
def qR(h:Heap)(H:Hp):Heap:=hideAll h (qQ h H)
def wM(h:Heap)(H:Hp):(qR h H).objs.size=h.objs.size:=PySem.W.hideAll_size _ _
def qS(e:h.get? b=some o)(n:H b=none):(qR h H).get? b=some o:=PySem.W.hideAll_get _ e λhm=>by have q:(H b).isSome=true:=(P_.mp hm).2;rw[n]at q;simp at q
def CO(e:(qR h H).get? b=some o):h.get? b=some o/\H b=none:=by
 have a:h.get? b=some o:=T9 (qQ h H) e;refine⟨a,?_⟩;cases q:H b with
 |none=>rfl
 |some x=>have hm:b∈qQ h H:=P_.mpr ⟨Qh.mpr (PD a),by simp[q]⟩;have z:(qR h H).get? b=none:=PySem.W.hideAll_none (qQ h H) hm;rw[z]at e;cases e
def CS(g h:Heap)(L:Addr):List (Addr×Obj):=(List.range h.objs.size).filterMap λa=>if a=L\/(g.get? a).isSome=true then none else(h.get? a).map λo=>(a,o)
def rest(g h:Heap)(L d:Addr):List (Addr×Obj):=(CS g h L).filter λp=>decide (p.1≠d)
def N_:UA->V
 |.str x _=>.str x
 |.ref a=>.ref a
 |_=>.bB
def F4(o:Obj):Option (Addr×List V):=match o.cls with
 |.type n=>if n=="kt" then(match o.data with
  |.seq its _=>(match its.toList with
   |.ref a::r=>some (a,r.map N_)
   |_=>none)
  |_=>none)else none
 |_=>none
def LP(K:Uy)(H:Hp):Prop:=∀p∈K,∀a xs,F4 p.2=some (a,xs)->H a=some (.tup xs)
structure Mod(K:Uy) (mg:Str->Option UA) (base:Heap):Prop where
 IB:K.In base
 glob:base.Ns mainGlobals mg
 blt:∃mb,base.Ns builtinsNs mb/\∀x:Str,x≠"__name__"->mb x=bootBuiltins x
 nolimit:base.NoLimit
structure Cx where
 prog:Uz
 w:World
 K:Uy
 mg:Str->Option UA
 base:Heap
 A:UB
 N:List Str
 s₀:Ux
 H₀:Hp
 env:Env
 outer:List Env
 stack:List Env
 ex:List Addr
 fn:Str->Bool
 calm:Bool
 pn:List (Addr×Obj)
 xe:UA->Ux->Prop
abbrev wX(X:Cx){α:Type}(m:Sem α):(α->Ux->Prop)->(UA->Ux->Prop)->Ux->Prop:=wpAny (model X.prog X.w) X.A m
abbrev sE(X:Cx)(e:Expr)(es:List Expr):Prop:=starEach (e::es) X.env=(false,eval e X.env)::starEach es X.env
abbrev bT(X:Cx)(p:Pos)(es:List Expr):Prop:=(backTo p (starEach es X.env)).any (·.1)=false
abbrev dB(x:Str):Prop:=(x==("__debug__" : Str))=false
def ij(l:List Env):List Addr:=l.filterMap (·.frame)
abbrev Cx.fs(X:Cx):List Addr:=ij X.outer
def LQ(a:Scope)(x:Str):Prop:=a.names.lookup x=some .local\/a.names.lookup x=some .cell\/a.names.lookup x=some .free
def IT(a:Scope)(x:Str):Prop:=a.names.lookup x=some .local\/a.names.lookup x=some .cell
def LR(env:Env)(h:Heap)(m:Str->Option UA)(x:Str)(u:UA):Prop:=(env.kindOf x=some .local/\m x=some u)\/((env.kindOf x=some .cell\/env.kindOf x=some .free)/\∃c,env.cells.lookup x=some c/\h.IsCell c (some u))
structure Cx.Ok(X:Cx):Prop where
 mod:Mod X.K X.mg X.base
 kind:X.env.scope.kind=.function
 glob:X.env.globals=mainGlobals
 blt:X.env.builtins=builtinsNs
 above:X.s₀.heap.objs.size<=X.env.locals
 inj:∀x y c,X.env.cells.lookup x=some c->X.env.cells.lookup y=some c->x=y
 has:∀x,(X.env.kindOf x=some .cell\/X.env.kindOf x=some .free)->∃c,X.env.cells.lookup x=some c
 Ik:∀x c,X.fn x=true->X.env.cells.lookup x=some c->X.s₀.heap.objs.size<=c
 hd:X.calm=true->X.A.handled=none
 frames:X.A.frames=some X.stack
 aS:X.stack=X.outer\/(X.stack=X.env::X.outer/\X.env.frame=some X.env.locals)
 LL:∀b∈X.ex,b≠X.env.locals/\∀x c,X.env.cells.lookup x=some c->c≠b
 bs:∀b o,X.base.get? b=some o->X.s₀.heap.get? b=some o/\X.H₀ b=none
 B3:X.base.objs.size<=X.s₀.heap.objs.size
 vm:∀b o,X.base.get? b=some o->b∉X.ex
 yC:∀b∈X.ex,b∉X.fs
 ku:X.s₀.heap.FunFrames X.base X.outer
 E5:∀b∈X.fs,X.H₀ b=none
 kt:LP X.K X.H₀
structure Inv(X:Cx) (ac:List (Addr×Obj)) (σ:List (Option V)) (H:Hp) (s:Ux):Prop where
 ok:X.Ok
 os:s.os=X.s₀.os
 bare:AllBare s.gens
 base:Un X.fs X.ex X.H₀ H X.s₀.heap s.heap
 loc:∃m,s.heap.Ns X.env.locals m/\∀(i:Nat)(x:Str)(v:V),X.N[i]?=some x->σ[i]?=some (some v)->LQ X.env.scope x->∃u,RelV v u/\LR X.env s.heap m x u
 cell:∀x c,X.env.cells.lookup x=some c->∃v,s.heap.IsCell c v
 free:H X.env.locals=none
 fO:∀x c,X.env.cells.lookup x=some c->H c=none
 pin:∀p∈X.pn++ac,s.heap.get? p.1=some p.2/\H p.1=none/\p.1≠X.env.locals/\p.1∉X.fs/\∀v,p.2.data≠.cell v
 aT:HOk X.prog X.w H s.heap
 len:σ.length=X.N.length
section
variable{X:Cx}{ac:List (Addr×Obj)}{σ:List (Option V)}{H H':Hp}{s:Ux}
def Cx.Ok.NG(ok:X.Ok)(e:X.base.get? b=some o):b∉X.fs:=λhb=>by have:=(ok.ku.mem hb).1;rw[e]at this;cases this
theorem Inv.bs(I:Inv X ac σ H s):∀b o,X.base.get? b=some o->s.heap.get? b=some o/\H b=none:=λb o e=>⟨I.base.keep b o (I.ok.bs b o e).1 (.inl (I.ok.bs b o e).2) (I.ok.NG e) (I.ok.vm b o e),I.base.free b o (I.ok.bs b o e).1 (I.ok.bs b o e).2 (I.ok.vm b o e)⟩
theorem Inv.kt(I:Inv X ac σ H s):LP X.K H:=λp b a xs e=>I.base.iU a xs (I.ok.kt p b a xs e)
def Inv.bk(I:Inv X ac σ H s):∀b o,X.base.get? b=some o->s.heap.get? b=some o:=λb o e=>(I.bs b o e).1
theorem Inv.mod(I:Inv X ac σ H s):Mod X.K X.mg X.base:=I.ok.mod
def Inv.jK(I:Inv X ac σ H s):X.K.In s.heap:=I.ok.mod.IB.keeps I.bk
theorem Inv.lt(I:Inv X ac σ H s):X.env.locals<s.heap.objs.size:=let ⟨_,a,_⟩:=I.loc;a.lt
def Inv.sz(I:Inv X ac σ H s):X.s₀.heap.objs.size<=s.heap.objs.size:=Qb I.ok.above (Re I.lt)
def Inv.NJ(I:Inv X ac σ H s)(h:s.heap.objs.size<=a):a∉X.fs:=λhb=>by obtain⟨_,o,b,_⟩:=I.ok.ku.mem hb;exact absurd (Qr (PD b) (Qb I.sz h)) (RM _)
def Inv.Iv(I:Inv X ac σ H s):∀x c,X.env.cells.lookup x=some c->c≠X.env.locals:=λx c e z=>by obtain⟨v,o,d,hd⟩:=I.cell x c e;obtain⟨m,⟨f,es,ep,a,b,_⟩,_⟩:=I.loc;rw[z,a]at d;cases d;rw[b]at hd;cases hd
theorem Inv.ku(I:Inv X ac σ H s):s.heap.FunFrames X.base X.outer:=by
 have all:∀(l:List Env),(∀b∈ij l,b∈X.fs)->X.s₀.heap.FunFrames X.base l->s.heap.FunFrames X.base l:=by
  intro l;induction l with
  |nil=>intro _ _;trivial
  |cons env r d=>intro hs f;obtain⟨g,⟨L,o,a,h,i,hd⟩,j⟩:=f;have c:L∈X.fs:=hs L (by unfold ij;rw[Sa,a];exact Pu);obtain⟨k,e⟩:=I.base.slot L o i (I.ok.E5 L c) c λz=>I.ok.yC L z c;exact⟨g,⟨L,_,a,h,e,hd⟩,d (λb hb=>hs b (by unfold ij;rw[Sa,a];exact Pw _ hb)) j⟩
 exact all X.outer (λ_ hb=>hb) I.ok.ku
theorem Inv.stack(I:Inv X ac σ H s):s.heap.FunFrames X.base X.stack:=by
 rcases I.ok.aS with e|⟨e,a⟩
 .rw[e];exact I.ku
 .rw[e];obtain⟨m,b,_⟩:=I.loc;refine .cons (by rw[I.ok.kind];decide) a b ?_ I.ku;exact Heap.get?_none_of_le (Qb I.ok.B3 I.ok.above)
def Inv.nA(I:Inv X ac σ H s):∀b∈ij X.stack,b∈X.env.locals::X.fs:=λb hb=>by
 rcases I.ok.aS with e|⟨e,a⟩
 .rw[e]at hb;exact Pw _ hb
 .rw[e]at hb;unfold ij at hb;rw[Sa,a]at hb;exact hb
def Inv.qJ(I:Inv X ac σ H s):∀b∈ij X.stack,H b=none:=λb hb=>by
 rcases PB.mp (I.nA b hb)with e|hb
 .rw[e];exact I.free
 .obtain⟨_,o,a,_⟩:=I.ok.ku.mem hb;exact I.base.free b o a (I.ok.E5 b hb) λz=>I.ok.yC b z hb
theorem Inv.step{d':Drawn}{ch:List Addr}(I:Inv X ac σ H s)
 (f:∀b∈ch,(b∈X.ex\/X.s₀.heap.objs.size<=b)/\b≠X.env.locals/\(∀x c,X.env.cells.lookup x=some c->c≠b)/\∀p∈X.pn++ac,p.1≠b)
 (keep:∀b o,b≠X.env.locals->b∉X.fs->b∉ch->s.heap.get? b=some o->Qt H b->h'.get? b=some o)
 (slot:∀b o,b≠X.env.locals->b∈X.fs->b∉ch->s.heap.get? b=some o->H b=none->∃B,h'.get? b=some {o with slots:=B}) (free:∀b o,b∉ch->s.heap.get? b=some o->H b=none->H' b=none)
 (there:∀b o,b∉ch->s.heap.get? b=some o->∃y,h'.get? b=some y)
 (iU:∀b xs,H b=some (.tup xs)->H' b=some (.tup xs)) (jh:∀b o u,H b=some (.bP o u)->H' b=some (.bP o u)) (lz:∀b ps,H b=some (.qN ps)->∃more,H' b=some (.qN (ps++more)))
 (ns:∀m,s.heap.Ns X.env.locals m->h'.Ns X.env.locals m) (aT:HOk X.prog X.w H' h') (G:AllBare g') :
 Inv X ac σ H' {s with heap:=h',gens:=g',drawn:=d',toks:=t'}:=by
 have A:∀b o,X.s₀.heap.get? b=some o->b≠X.env.locals:=λb o e=>P7 (Qr (PD e) I.ok.above);have j:∀b o,X.s₀.heap.get? b=some o->b∉X.ex->b∉ch:=λb o e a hb=>by
  rcases(f b hb).1 with z|z
  .exact a z
  .exact absurd (Qr (PD e) z) (RM _)
 have g:∀x c,X.env.cells.lookup x=some c->∀v,s.heap.IsCell c v->h'.IsCell c v:=λx c e v ⟨o,t,hd⟩=>by
  have h:c∉ch:=λz=>(f c z).2.2.1 x c e rfl;by_cases D:c∈X.fs
  .obtain⟨B,q⟩:=slot c o (I.Iv x c e) D h t (I.fO x c e);exact⟨_,q,hd⟩
  .exact⟨o,keep c o (I.Iv x c e) D h t (.inl (I.fO x c e)),hd⟩
 refine⟨I.ok,I.os,G,⟨λb o e n hb a=>?_,λb o e n hb a=>?_,λb o e n a=>?_,λb o e a=>?_,λb xs e=>iU b xs (I.base.iU b xs e),λb o xs e=>jh b o xs (I.base.jh b o xs e),λb ps e=>?_⟩,?_,λx c e=>?_,?_,λx c e=>?_,λp E=>?_,aT,I.len⟩
 .exact keep b o (A b o e) hb (j b o e a) (I.base.keep b o e n hb a) (n.imp (λn=>I.base.free b o e n a) λ⟨xs,q⟩=>⟨xs,I.base.iU b xs q⟩)
 .obtain⟨B,e1⟩:=I.base.slot b o e n hb a;obtain⟨C,e2⟩:=slot b _ (A b o e) hb (j b o e a) e1 (I.base.free b o e n a);exact⟨C,e2⟩
 .obtain⟨y,e1⟩:=I.base.there b o e a;exact free b y (j b o e a) e1 (I.base.free b o e n a)
 .obtain⟨y,e1⟩:=I.base.there b o e a;exact there b y (j b o e a) e1
 .obtain⟨M,e1⟩:=I.base.lz b ps e
  grind
 .obtain⟨m,J,K⟩:=I.loc;refine⟨m,ns m J,λi x v e1 e2 L=>?_⟩;obtain⟨u,r,l⟩:=K i x v e1 e2 L;refine⟨u,r,?_⟩;rcases l with l|⟨k,c,e,z⟩
  .exact .inl l
  .exact .inr ⟨k,c,e,g x c e _ z⟩
 .obtain⟨v,z⟩:=I.cell x c e;exact⟨v,g x c e v z⟩
 .obtain⟨m,⟨o,_,_,t,_⟩,_⟩:=I.loc;exact free _ o (λz=>(f _ z).2.1 rfl) t I.free
 .obtain⟨v,o,t,hd⟩:=I.cell x c e;exact free c o (λz=>(f c z).2.2.1 x c e rfl) t (I.fO x c e)
 .obtain⟨e,n,ne,F,d⟩:=I.pin p E;have h:p.1∉ch:=λz=>(f p.1 z).2.2.2 p E rfl;exact⟨keep p.1 p.2 ne F h e (.inl n),free p.1 p.2 h e n,ne,F,d⟩
theorem Inv.un{t':Nat}(I:Inv X ac σ H s)(u:Un X.fs [] H H' s.heap h')(aT:HOk X.prog X.w H' h'):Inv X ac σ H' {s with heap:=h',toks:=t'}:=by obtain⟨m,⟨o,es,ep,f,r⟩,_⟩:=id I.loc;obtain⟨i,g⟩:=u.any f I.free (by simp);exact I.step (g':=s.gens) (d':=s.drawn) (ch:=[]) (λ_ z=>nomatch z) (λb o _ hb _ e n=>u.keep b o e n hb (by simp)) (λb o _ hb _ e n=>u.slot b o e n hb (by simp)) (λb o _ e n=>u.free b o e n (by simp)) (λb o _ e=>u.there b o e (by simp)) u.iU u.jh u.lz (λj hm=>by obtain⟨k,c,d,a,h⟩:=hm;rw[f]at a;cases a;exact⟨_,c,d,g,h⟩) aT I.bare
theorem Inv.call{d':Drawn}{ch:List Addr}(I:Inv X ac σ H s)(u:Un (ij X.stack) ch H H' s.heap h')(aT:HOk X.prog X.w H' h')(k:AllBare g')
 (d:∀b∈ch,(b∈X.ex\/X.s₀.heap.objs.size<=b)/\b≠X.env.locals/\(∀x c,X.env.cells.lookup x=some c->c≠b)/\∀p∈X.pn++ac,p.1≠b) :
 Inv X ac σ H' {s with heap:=h',gens:=g',drawn:=d',toks:=t'}:=by
 obtain⟨m,⟨o,es,ep,j,r⟩,_⟩:=id I.loc;obtain⟨q,g⟩:=u.any j I.free λz=>(d _ z).2.1 rfl;exact I.step (ch:=ch) d (λb o g hb a e n=>u.keep b o e n (λz=>(PB.mp (I.nA b z)).elim g hb) a) (λb o _ _ a e n=>u.any e n a) (λb o a e n=>u.free b o e n a) (λb o a e=>u.there b o e a) u.iU u.jh u.lz (λt hm=>by obtain⟨v,h,i,f,l⟩:=hm;rw[j]at f;cases f;exact⟨_,h,i,g,l⟩) aT k
theorem Inv.turned{it:Addr}(I:Inv X ac σ H s)(k:∀b o,b≠it->s.heap.get? b=some o->h'.get? b=some o)(g:H it=none)(f:it≠X.env.locals)
 (h1:it∈X.ex\/X.s₀.heap.objs.size<=it) (h2:∀x c,X.env.cells.lookup x=some c->c≠it) (h3:∀p∈X.pn++ac,p.1≠it):Inv X ac σ H {s with heap:=h',toks:=t'}:=by
 have d:∀b u,H b=some u->b≠it:=λb u e z=>by rw[z,g]at e;cases e
 refine I.step (g':=s.gens) (d':=s.drawn) (ch:=[it]) (λb hb=>?_) (λb o _ _ a e _=>k b o (λz=>a (by simp[z])) e) (λb o _ _ a e _=>⟨o.slots,k b o (λz=>a (by simp[z])) e⟩) (λ_ _ _ _ n=>n)
  (λb o a e=>⟨o,k b o (λz=>a (by simp[z])) e⟩) (λ_ _ e=>e) (λ_ _ _ e=>e) (λb ps e=>⟨#[],by rw[e];simp⟩) (λm hm=>?_) (λb u e=>?_) I.bare
 .have e:b=it:=by simpa using hb
  subst e;exact⟨h1,f,h2,h3⟩
 .obtain⟨o,es,ep,h,r⟩:=hm;exact⟨o,es,ep,k _ o (QQ f) h,r⟩
 .refine(I.aT b u e).stay (λc v a q=>k c v ?_ q) (λ_ q=>q) λ_ _ q=>q;rcases a with z|z
  .rw[z];exact d b u e
  .exact d c _ z
def Inv.tok(I:Inv X ac σ H s)(t:Nat):Inv X ac σ H {s with toks:=t}:=I.un (h':=s.heap) (t':=t) Un.refl I.aT
theorem Inv.kept(I:Inv X ac σ H s)(k:∀b u,s.heap.get? b=some u->h'.get? b=some u):Inv X ac σ H {s with heap:=h',toks:=t'}:=I.un (Un.kept k) (I.aT.kept k)
theorem Inv.laid(I:Inv X ac σ H s)(k:∀b u,s.heap.get? b=some u->h'.get? b=some u)(c:s.heap.objs.size<=a)(new:ObjOk X.prog X.w (upd H a o) h' a o) :
 Inv X ac σ (upd H a o) {s with heap:=h',toks:=t'}:=I.un (Un.laid k c (I.aT.fresh c)) (I.aT.laid k c new)
theorem Inv.write(I:Inv X ac σ H s)(c:II (H x))(d:e=x\/H e=some (.own x))(k:∀b u,b≠e->s.heap.get? b=some u->h'.get? b=some u)(a:∃u,h'.get? e=some u)
 (new:ObjOk X.prog X.w (upd H x o) h' x o):Inv X ac σ (upd H x o) {s with heap:=h',toks:=t'}:=I.un (Un.write c d k a) (I.aT.write c d k a new)
def Inv.wJ(I:Inv X ac σ H s)(h:∀p∈pins',s.heap.get? p.1=some p.2/\H p.1=none/\p.1≠X.env.locals/\p.1∉X.fs/\∀v,p.2.data≠.cell v):Inv X pins' σ H s:=⟨I.ok,I.os,I.bare,I.base,I.loc,I.cell,I.free,I.fO,λp a=>(PP.mp a).elim (λz=>I.pin p (Qd _ z)) (h p),I.aT,I.len⟩
def qT{N:List Str}(c:N.Nodup){i j:Nat}{x:Str}(a:N[i]?=some x)(b:N[j]?=some x):i=j:=by obtain⟨h1,e1⟩:=PF.mp a;obtain⟨h2,e2⟩:=PF.mp b;exact(List.getElem_inj c).mp (e1.trans e2.symm)
def om{E:UA->Ux->Prop}{x:Str}{v:V}{u:UA}{Q:Unit->Ux->Prop}(I:Inv X ac σ H s)(hN:X.N.Nodup)(D:X.N[i]?=some x)(g:IT X.env.scope x)(r:RelV v u)
 (h:∀L,Inv X ac (σ.set i (some v)) H L->(∃a,Heap.SameBut a s.heap L.heap/\(a=X.env.locals\/X.env.cells.lookup x=some a))->Q () L) (hf:autoParam (X.fn x=true\/X.env.scope.names.lookup x=some .local) UD._auto_1):wpAny M A (storeName X.env x u) Q E s:=by
 obtain⟨m,O,hl⟩:=id I.loc;have F:(X.env.scope.kind==.class ||(X.env.scope.kind==.module&&X.env.locals != X.env.globals))=false:=by rw[I.ok.kind];rfl
 have t:i<σ.length:=by rw[I.len];exact(PF.mp D).1
 have Iv:=I.Iv;have f:∀{a:Addr}{h':Heap},(∃o,s.heap.get? a=some o/\H a=none)->Heap.SameBut a s.heap h'->HOk X.prog X.w H h':=λ{a h'} ha hs b ob e=>by
  obtain⟨_,_,P⟩:=ha;refine(I.aT b ob e).stay (λc R l q=>(hs.2 c ?_).trans q) (λ_ q=>q) λ_ _ q=>q
  grind
 rcases g with hk|hk
 .refine wpAny_storeName_local hk O (λh' S hs=>?_) F;obtain⟨oL,_,_,T,_⟩:=id O;refine h _ ⟨I.ok,I.os,I.bare,⟨λb o e n hb g=>?_,λb o e n hb g=>?_,I.base.free,λb o e g=>?_,I.base.iU,I.base.jh,I.base.lz⟩,⟨_,S,λj y U e1 e2 W=>?_⟩,λy c e=>?_,I.free,I.fO,λp Y=>?_,f ⟨oL,T,I.free⟩ hs,by simpa using I.len⟩ ⟨_,hs,.inl rfl⟩
  .exact(hs.2 b (P7 (Qr (PD e) I.ok.above))).trans (I.base.keep b o e n hb g)
  .obtain⟨Z,e1⟩:=I.base.slot b o e n hb g;exact⟨Z,(hs.2 b (P7 (Qr (PD e) I.ok.above))).trans e1⟩
  .obtain⟨o',e1⟩:=I.base.there b o e g;exact⟨o',(hs.2 b (P7 (Qr (PD e) I.ok.above))).trans e1⟩
  .by_cases B:j=i
   .subst B;rw[D]at e1;cases e1;rw[List.getElem?_set_self t]at e2;cases e2;exact⟨u,r,.inl ⟨hk,by simp⟩⟩
   .rw[List.getElem?_set_ne (QQ B)]at e2;obtain⟨u',r',q⟩:=hl j y U e1 e2 W;refine⟨u',r',?_⟩;rcases q with⟨k,e⟩|⟨k,c,e,z⟩
    .refine .inl ⟨k,?_⟩;have:y≠x:=λe=>B (qT hN e1 (e▸D));simp[this,e]
    .exact .inr ⟨k,c,e,z.sameBut hs (Iv y c e)⟩
  .obtain⟨R,z⟩:=I.cell y c e;exact⟨R,z.sameBut hs (Iv y c e)⟩
  .obtain⟨e,n,ne,nf,d⟩:=I.pin p Y;exact⟨(hs.2 p.1 ne).trans e,n,ne,nf,d⟩
 .have C:X.fn x=true:=by
   rcases hf with z|z
   .exact z
   .rw[z]at hk;cases hk
  obtain⟨c,l⟩:=I.ok.has x (.inl hk);obtain⟨R,z⟩:=I.cell x c l;refine wpAny_storeName_cell I.ok.kind hk l z (λh' G hs=>?_);obtain⟨oc,hoc,hocd⟩:=id z;refine h {s with heap:=h'} ⟨I.ok,I.os,I.bare,⟨λb o e n hb g=>?_,λb o e n hb g=>?_,I.base.free,λb o e g=>?_,I.base.iU,I.base.jh,I.base.lz⟩,⟨m,O.sameBut hs (QQ (Iv x c l)),λj y U e1 e2 W=>?_⟩,λy K e=>?_,I.free,I.fO,λp Y=>?_,f ⟨oc,hoc,I.fO x c l⟩ hs,by simpa using I.len⟩ ⟨c,hs,.inr l⟩
  .exact(hs.2 b (P7 (Qr (PD e) (I.ok.Ik x c C l)))).trans (I.base.keep b o e n hb g)
  .obtain⟨Z,e1⟩:=I.base.slot b o e n hb g;exact⟨Z,(hs.2 b (P7 (Qr (PD e) (I.ok.Ik x c C l)))).trans e1⟩
  .obtain⟨o',e1⟩:=I.base.there b o e g;exact⟨o',(hs.2 b (P7 (Qr (PD e) (I.ok.Ik x c C l)))).trans e1⟩
  .by_cases B:j=i
   .subst B;rw[D]at e1;cases e1;rw[List.getElem?_set_self t]at e2;cases e2;exact⟨u,r,.inr ⟨.inl hk,c,l,G⟩⟩
   .rw[List.getElem?_set_ne (QQ B)]at e2;obtain⟨u',r',q⟩:=hl j y U e1 e2 W;refine⟨u',r',?_⟩;rcases q with q|⟨k,K,e,z'⟩
    .exact .inl q
    .refine .inr ⟨k,K,e,z'.sameBut hs ?_⟩;rintro rfl;exact B (qT hN e1 (I.ok.inj _ _ _ e l▸D))
  .by_cases J:K=c
   .subst J;exact⟨_,G⟩
   .obtain⟨w2,z2⟩:=I.cell y K e;exact⟨w2,z2.sameBut hs J⟩
  .obtain⟨e,n,ne,nf,d⟩:=I.pin p Y;refine⟨(hs.2 p.1 ?_).trans e,n,ne,nf,d⟩
   grind
def lM(I:Inv X ac σ H s)(b:X.N.Nodup)(c:X.N[i]?=some x)(d:IT X.env.scope x)(r:RelV v u)
 (h:∀a,Inv X ac (σ.set i (some v)) H a->Q () a) (e:autoParam (X.fn x=true\/X.env.scope.names.lookup x=some .local) UD._auto_1):wpAny M A (storeName X.env x u) Q E s:=
 om I b c d r (λa f _=>h a f) e
def Inv.FU(I:Inv X ac σ H s)(d:s'.os=s.os)(u:Un (ij X.stack) ch H H' s.heap s'.heap)(aT:HOk X.prog X.w H' s'.heap)(f:AllBare s'.gens)
 (a:∀b∈ch,(b∈X.ex\/X.s₀.heap.objs.size<=b)/\b≠X.env.locals/\(∀x c,X.env.cells.lookup x=some c->c≠b)/\∀p∈X.pn++ac,p.1≠b):Inv X ac σ H' s':=by
 obtain⟨h',g',d',t',g⟩:=s';have e:g=s.os:=d;subst e;exact I.call (g':=g') (t':=t') (d':=d') u aT f a
end
abbrev XK:=UA->Option Addr->Hp->Prop
abbrev St:=List (Option V)
abbrev VK:=V->Hp->Prop
abbrev TE:=St->Hp->VK->Prop
abbrev TT:=St->Hp->(Bool->Hp->Prop)->Prop
abbrev TA:=St->Hp->(List V->Hp->Prop)->Prop
structure Ends where
 nx:St->Hp->Prop
 rt:VK
 bk:St->Hp->Prop:=λ_ _=>False
 ct:St->Hp->Prop:=λ_ _=>False
abbrev TS:=Ends->St->Hp->Prop
def EP(X:Cx)(ac:List (Addr×Obj))(σ:St)(Q:VK)(u:UA)(a:Ux):Prop:=∃v H',Inv X ac σ H' a/\RelV v u/\Q v H'
def TP(X:Cx)(ac:List (Addr×Obj))(σ:St)(Q:Bool->Hp->Prop)(b:Bool)(a:Ux):Prop:=∃H',Inv X ac σ H' a/\Q b H'
def AP(X:Cx)(ac:List (Addr×Obj))(σ:St)(Q:List V->Hp->Prop)(us:List UA)(a:Ux):Prop:=∃vs H',Inv X ac σ H' a/\Vals vs us/\Q vs H'
def SP(X:Cx)(ac:List (Addr×Obj))(D:Ends)(f:Flow)(b:Ux):Prop:=
 match f with
 |.next=>∃a H',Inv X ac a H' b/\D.nx a H'
 |.brk=>∃a H',Inv X ac a H' b/\D.bk a H'
 |.cont=>∃a H',Inv X ac a H' b/\D.ct a H'
 |.ret u=>∃v a H',Inv X ac a H' b/\RelV v u/\D.rt v H'
def PE(X:Cx)(e:Expr)(t:TE):Prop:=∀(ac:List (Addr×Obj))(s:Ux)(σ:St)(H:Hp)(Q:VK),Inv X ac σ H s->t σ H Q->wpAny (model X.prog X.w) X.A (eval e X.env) (EP X ac σ Q) X.xe s
def PT(X:Cx)(e:Expr)(t:TT):Prop:=∀(ac:List (Addr×Obj))(s:Ux)(σ:St)(H:Hp)(Q:Bool->Hp->Prop),Inv X ac σ H s->t σ H Q->wpAny (model X.prog X.w) X.A (isTrue e X.env (eval e X.env)) (TP X ac σ Q) X.xe s
def PW(X:Cx)(e:Expr)(t:TT):Prop:=∀(a:Sem UA)(ac:List (Addr×Obj))(s:Ux)(σ:St)(H:Hp)(Q:Bool->Hp->Prop),Inv X ac σ H s->t σ H Q->wpAny (model X.prog X.w) X.A (isTrue e X.env a) (TP X ac σ Q) X.xe s
def PW.pt(h:PW X e t):PT X e t:=h _
def PA(X:Cx)(es:List Expr)(t:TA):Prop:=∀(a:Pos)(ac:List (Addr×Obj))(s:Ux)(σ:St)(H:Hp)(Q:List V->Hp->Prop),Inv X ac σ H s->t σ H Q->wpAny (model X.prog X.w) X.A (spliced (backTo a (starEach es X.env))) (AP X ac σ Q) X.xe s
def PS(X:Cx)(st:Stmt)(t:TS):Prop:=∀(ac:List (Addr×Obj))(s:Ux)(σ:St)(H:Hp)(D:Ends),Inv X ac σ H s->t D σ H->wpAny (model X.prog X.w) X.A (exec st X.env) (SP X ac D) X.xe s
def PSs(X:Cx)(st:List Stmt)(t:TS):Prop:=∀(ac:List (Addr×Obj))(s:Ux)(σ:St)(H:Hp)(D:Ends),Inv X ac σ H s->t D σ H->wpAny (model X.prog X.w) X.A (execs st X.env) (SP X ac D) X.xe s
def cD{α:Type}{t:Sem α}{Q b:α->Ux->Prop}{M:Model}{A:UB}{E:UA->Ux->Prop}{s:Ux}(h:wpAny M A t Q E s)(c:∀a s,Q a s->b a s):wpAny M A t b E s:=Rl h c λ_ _ x=>x
section
variable{X:Cx}
def ao(i:Nat):TE:=λσ H Q=>∃v,σ[i]?=some (some v)/\Q v H
def tC(v:V):TE:=λ_ H Q=>Q v H
def F5(g:X.N[i]?=some x)(j:LQ X.env.scope x)(hd:autoParam (dB x) ae) (d:autoParam ((x==("__classdict__" : Str))=false) ae):PE X (.Name x pos) (ao i):=by
 intro ac s σ H Q I h;obtain⟨v,e,h⟩:=h;obtain⟨m,k,n⟩:=I.loc;obtain⟨u,r,l⟩:=n i x v g e j;have b:EP X ac σ Q u s:=⟨v,H,I,r,h⟩;rcases l with⟨hk,hm⟩|⟨hk,c,f,a⟩
 .exact wpAny_Name (wpAny_loadName_local I.ok.kind hk k hm b) hd
 .rcases hk with hk|hk
  .exact wpAny_Name (wpAny_loadName_cell I.ok.kind hk f a b) hd
  .exact wpAny_Name (wpAny_loadName_free I.ok.kind hk f a b d) hd
def ay{i j pos}:PE X (.Constant (.int i) j pos) (tC (.int i)):=λ_ _ _ H _ I h=>wpAny_Constant_int ⟨.int i,H,I.tok _,⟨_,rfl⟩,h⟩
def fP{b j pos}:PE X (.Constant (.bool b) j pos) (tC (.bl b)):=λ_ _ _ H _ I h=>Constant_bool ⟨.bl b,H,I,rfl,h⟩
def kz{j pos}:PE X (.Constant .none j pos) (tC .bB):=λ_ _ _ H _ I h=>Constant_none ⟨.bB,H,I,rfl,h⟩
def F6{x j pos}:PE X (.Constant (.str x) j pos) (tC (.str x)):=λ_ _ _ H _ I h=>Calls.Constant_str ⟨.str x,H,I.tok _,⟨_,rfl⟩,h⟩
def Gl(X:Cx)(x:Str):Prop:=X.env.kindOf x=some .globalImplicit
def iX(I:Inv X ac σ H s)(a:Gl X x)(hm:X.mg x=some u)(h:Q u s)
 (hd:autoParam (dB x) ae):wX X (eval (.Name x pos) X.env) Q E s:=
 Calls.Name_function_global I.ok.kind a (Calls.loadGlobal_global (by rw[I.ok.glob];exact I.mod.glob.keeps I.bk) hm h) hd
def kA(I:Inv X ac σ H s)(a:Gl X x)(hm:X.mg x=none)(b:bootBuiltins x=some u)(h:Q u s)
 (c:autoParam (x≠"__name__") ae) (hd:autoParam (dB x) ae):wX X (eval (.Name x pos) X.env) Q E s:=by
 obtain⟨d,h1,h2⟩:=I.mod.blt;exact Calls.Name_function_global I.ok.kind a (Calls.loadGlobal_builtin (by rw[I.ok.glob];exact I.mod.glob.keeps I.bk) hm (by rw[I.ok.blt];exact h1.keeps I.bk) ((h2 x c).trans b) h) hd
def o_(a:Gl X x)(hm:X.mg x=none)(b:bootBuiltins x=some u)(r:RelV v u)(c:autoParam (x≠"__name__") ae) (hd:autoParam (dB x) ae):PE X (.Name x pos) (tC v):=λ_ _ _ H _ I h=>kA I a hm b ⟨v,H,I,r,h⟩ c hd
variable{a b:Expr}{ta tb:TE}{pos:Pos}
def PC(X:Cx)(op:CmpOp)(a b:Expr)(t:TE):Prop:=
 ∀(ac:List (Addr×Obj))(s:Ux)(σ:St)(H:Hp)(Q:VK),Inv X ac σ H s->t σ H Q->
  wpAny (model X.prog X.w) X.A (eval a X.env) (λv c=>wpAny (model X.prog X.w) X.A (eval b X.env) (λu d=>wpAny (model X.prog X.w) X.A (compareOp op v u) (EP X ac σ Q) X.xe d) X.xe c) X.xe s
theorem qU(b:Expr)(h:op≠.In)(h2:op≠.NotIn):behindInMarks op b=false:=by
 have e1:(op==CmpOp.In)=false:=by cases op<;>first|rfl|exact absurd rfl h
 have e2:(op==CmpOp.NotIn)=false:=by cases op<;>first|rfl|exact absurd rfl h2
 cases b<;>simp[behindInMarks,e1,e2]
def yV(ta:TE):TE:=λσ H Q=>ta σ H λx H1=>Q (.bl (!decide (x=.bB))) H1
def RelV.B7(r:RelV x v):(v==Value.none)=decide (x=.bB):=by
 cases x with
 |bB=>cases r;rfl
 |bl _=>cases r;rfl
 |int _=>obtain⟨t,rfl⟩:=r;rfl
 |str _=>obtain⟨t,rfl⟩:=r;rfl
 |vq _=>obtain⟨t,rfl⟩:=r;rfl
 |FY _=>obtain⟨t,rfl⟩:=r;rfl
 |ref _=>cases r;rfl
 |ty _=>cases r;rfl
def vx{j pos'}(ha:PE X a ta):PC X .IsNot a (.Constant .none j pos') (yV ta):=by intro ac s σ H Q I h;refine cD (ha ac s σ H _ I h) λv s1 ⟨x,H1,c,d,q1⟩=>?_;exact Constant_none (isnot_none_gen ⟨.bl _,H1,c,by rw[d.B7];rfl,q1⟩)
def tB(t:TE):TT:=λσ H Q=>t σ H λx H1=>∃c,x=.bl c/\Q c H1
theorem F7(h:PC X op a b t)(h1:behindInMarks op b=false:=by first|exact qU _ (by decide) (by decide)|rfl):PE X (.Compare a [op] [b] pos) t:=λac s σ H Q I c=>wpAny_Compare1 (h ac s σ H Q I c) h1
theorem F8(h:PC X op a b t)(h1:behindInMarks op b=false:=by first|exact qU _ (by decide) (by decide)|rfl):PT X (.Compare a [op] [b] pos) (tB t):=by intro ac s σ H Q I e;refine wpAny_isTrue_Compare1 (cD (h ac s σ H _ I e) λv s1 h1=>cD h1 λu s2 h2=>cD h2 λc i ⟨x,H1,f,g,q1⟩=>?_) h1;obtain⟨d,rfl,q⟩:=q1;cases g;exact RD ⟨H1,f,q⟩
def jt(h:PE X e t)(f:autoParam (∀c,isTrue e X.env c=(do let v <- c;standAt e.pos;holding [v] (truthy v))) af):PT X e (tB t):=by intro ac s σ H Q I g;refine isTrue_plain (cD (h ac s σ H _ I g) λv s1 ⟨x,H1,i,j,q1⟩=>?_) (f _);obtain⟨d,rfl,q⟩:=q1;cases j;exact RD ⟨H1,i,q⟩
variable{tA tB':TT}{rest:List Expr}
def F9(t u:TT):TT:=λσ H Q=>t σ H λc H1=>if c=true then u σ H1 Q else Q false H1
def IJ(t u:TT):TT:=λσ H Q=>t σ H λc H1=>if c=true then Q true H1 else u σ H1 Q
def pb(t:TT):TT:=λσ H Q=>t σ H λc H1=>Q (!c) H1
def vy(ha:PT X a tA):PW X (.BoolOp .And [a] pos) tA:=by
 intro d ac s σ H Q I h;refine isTrue_and (cD (ha ac s σ H Q I h) λc s1 e=>?_);cases c with
 |true=>exact isTrue_and_nil e
 |false=>exact e
def lN(ha:PT X a tA):PW X (.BoolOp .Or [a] pos) tA:=by
 intro d ac s σ H Q I h;refine isTrue_or (cD (ha ac s σ H Q I h) λc s1 e=>?_);cases c with
 |false=>exact isTrue_or_nil e
 |true=>exact e
theorem yW(ha:PT X a tA)(hb:PW X (.BoolOp .And (b::rest) pos) tB'):PW X (.BoolOp .And (a::b::rest) pos) (F9 tA tB'):=by
 intro e ac s σ H Q I h;refine isTrue_and (cD (ha ac s σ H _ I h) λc s1 ⟨H1,d,q1⟩=>?_);cases c with
 |true=>exact hb e ac s1 σ H1 Q d q1
 |false=>exact⟨H1,d,q1⟩
theorem qV(ha:PT X a tA)(hb:PW X (.BoolOp .Or (b::rest) pos) tB'):PW X (.BoolOp .Or (a::b::rest) pos) (IJ tA tB'):=by
 intro e ac s σ H Q I h;refine isTrue_or (cD (ha ac s σ H _ I h) λc s1 ⟨H1,d,q1⟩=>?_);cases c with
 |true=>exact⟨H1,d,q1⟩
 |false=>exact hb e ac s1 σ H1 Q d q1
def ik(ha:PT X a tA):PT X (.UnaryOp .Not a pos) (pb tA):=by intro ac s σ H Q I h;exact isTrue_not (ha ac s σ H (λc H1=>Q (!c) H1) I h)
def vz(ta tb:TE):TE:=λσ H Q=>ta σ H λx H1=>∃c,x=.bl c/\if c=true then tb σ H1 Q else Q (.bl false) H1
def IU(ta tb:TE):TE:=λσ H Q=>ta σ H λx H1=>∃c,x=.bl c/\if c=true then Q (.bl true) H1 else tb σ H1 Q
def yX(ta:TE):TE:=λσ H Q=>ta σ H λx H1=>∃c,x=.bl c/\Q (.bl (!c)) H1
def pc{op}(h:PE X a t):PE X (.BoolOp op [a] pos) t:=λac s σ H Q I c=>BoolOp_one (h ac s σ H Q I c)
theorem tO(ha:PE X a ta)(hb:PE X (.BoolOp .And (b::rest) pos) tb):PE X (.BoolOp .And (a::b::rest) pos) (vz ta tb):=by
 intro ac s σ H Q I h;refine BoolOp_and (cD (ha ac s σ H _ I h) λv s1 ⟨x,H1,d,e,q1⟩=>?_);obtain⟨c,rfl,q1⟩:=q1;cases e;refine RD ?_;cases c with
 |true=>exact hb ac s1 σ H1 Q d q1
 |false=>exact⟨.bl false,H1,d,rfl,q1⟩
theorem IV(ha:PE X a ta)(hb:PE X (.BoolOp .Or (b::rest) pos) tb):PE X (.BoolOp .Or (a::b::rest) pos) (IU ta tb):=by
 intro ac s σ H Q I h;refine BoolOp_or (cD (ha ac s σ H _ I h) λv s1 ⟨x,H1,d,e,q1⟩=>?_);obtain⟨c,rfl,q1⟩:=q1;cases e;refine RD ?_;cases c with
 |false=>exact hb ac s1 σ H1 Q d q1
 |true=>exact⟨.bl true,H1,d,rfl,q1⟩
def yY(ha:PE X a ta):PE X (.UnaryOp .Not a pos) (yX ta):=by intro ac s σ H Q I h;refine UnaryOp_ (cD (ha ac s σ H _ I h) λv s1 ⟨x,H1,d,e,q1⟩=>?_);obtain⟨c,rfl,q1⟩:=q1;cases e;exact not_of (RD ⟨.bl (!c),H1,d,rfl,q1⟩)
end
def SqL(K:Uy)(H:Hp)(a:Addr)(xs:List V):Prop:=
 Rd H a (.lst xs)\/
  ∃(o:Obj)(its:Array UA)(n:Nat),K.lookup a=some o/\o.cls=.type "list"/\o.dict=none/\o.data=.seq its n/\its.size<=sizeLine/\Vals xs its.toList
def SqT(K:Uy)(H:Hp)(a:Addr)(xs:List V):Prop:=
 Rd H a (.tup xs)\/
  ∃(o:Obj)(its:Array UA)(n:Nat),K.lookup a=some o/\o.cls=.type "tuple"/\o.data=.seq its n/\its.size<=sizeLine/\Vals xs its.toList
def LS:UA->Option V
 |.none=>some .bB
 |.bool b=>some (.bl b)
 |.int i _=>some (.int i)
 |.str x _=>some (.str x)
 |.bytes b _=>some (.vq b)
 |.float b _=>some (.FY b)
 |.ref a=>some (.ref a)
 |.type n=>some (.ty n)
 |_=>none
def RelV.abs(r:RelV x u):LS u=some x:=by
 cases x with
 |bB=>cases r;rfl
 |bl _=>cases r;rfl
 |int _=>obtain⟨t,rfl⟩:=r;rfl
 |str _=>obtain⟨t,rfl⟩:=r;rfl
 |vq _=>obtain⟨t,rfl⟩:=r;rfl
 |FY _=>obtain⟨t,rfl⟩:=r;rfl
 |ref _=>cases r;rfl
 |ty _=>cases r;rfl
def RelV.inj(r:RelV x u)(q:RelV y u):x=y:=QH (r.abs.symm.trans q.abs)
theorem Vals.inj{xs a:List V}{us:List UA}(h:Vals xs us)(k:Vals a us):xs=a:=by
 induction h generalizing a with
 |nil=>cases k;rfl
 |cons r _ b=>
  cases k with
  |cons c t'=>rw[r.inj c,b t']
section
def SqL.of{K:Uy}(h:H a=some (.lst xs)):SqL K H a xs:=.inl (.inl h)
def SqT.of{K:Uy}(h:H a=some (.tup xs)):SqT K H a xs:=.inl (.inl h)
def Inv.list(I:Inv X ac σ H s)(h:SqL X.K H a xs):∃its:List UA,Vals xs its/\PlainL s.heap a its.toArray/\xs.length<=sizeLine:=by
 rcases h with h|⟨o,its,n,b,c,hd,hs,hz,r⟩
 .obtain⟨z,its,n,r,e⟩:=h.ok I.aT;exact⟨its,r,⟨_,n,e,rfl,rfl,rfl⟩,z⟩
 .refine⟨its.toList,r,⟨o,n,I.jK a o b,c,hd,by simpa using hs⟩,?_⟩;have e:=r.length;simp only[QP]at e;lia
def Inv.tuple(I:Inv X ac σ H s)(h:SqT X.K H a xs):∃its:List UA,Vals xs its/\IsTup s.heap a its.toArray/\xs.length<=sizeLine:=by
 rcases h with h|⟨o,its,n,b,c,hs,hz,r⟩
 .obtain⟨z,its,r,p⟩:=h.ok I.aT;exact⟨its,r,p,z⟩
 .refine⟨its.toList,r,⟨o,I.jK a o b,c,n,by simpa using hs⟩,?_⟩;have e:=r.length;simp only[QP]at e;lia
def Inv.sY(I:Inv X ac σ H s)(h:SqL X.K H a xs)(h':SqL X.K H a ys):xs=ys:=by
 obtain⟨its,r,⟨o,n,e,_,_,d⟩,_⟩:=I.list h;obtain⟨its',c,⟨f,g,b,_,_,d'⟩,_⟩:=I.list h';rw[e]at b;cases b;rw[d]at d';injection d' with d1 _;have:its=its':=by simpa using Q1 Array.toList d1
 subst this;exact r.inj c
end
abbrev Cx.nG(X:Cx)(E:UA->Ux->Prop):Cx:={X with xe:=E}
abbrev Cx.Lm(X:Cx):Cx:=X.nG λ_ _=>False
theorem Cx.Ok.nG{X:Cx}(ok:X.Ok)(E:UA->Ux->Prop):(X.nG E).Ok:=⟨ok.mod,ok.kind,ok.glob,ok.blt,ok.above,ok.inj,ok.has,ok.Ik,ok.hd,ok.frames,ok.aS,ok.LL,ok.bs,ok.B3,ok.vm,ok.yC,ok.ku,ok.E5,ok.kt⟩
def Cx.Ok.g7{X:Cx}{E:UA->Ux->Prop}(ok:(X.nG E).Ok):X.Ok:=⟨ok.mod,ok.kind,ok.glob,ok.blt,ok.above,ok.inj,ok.has,ok.Ik,ok.hd,ok.frames,ok.aS,ok.LL,ok.bs,ok.B3,ok.vm,ok.yC,ok.ku,ok.E5,ok.kt⟩
section
theorem Inv.nG(I:Inv X ac σ H s)(E:UA->Ux->Prop):Inv (X.nG E) ac σ H s:=⟨I.ok.nG E,I.os,I.bare,I.base,I.loc,I.cell,I.free,I.fO,I.pin,I.aT,I.len⟩
theorem Inv.g7(I:Inv (X.nG E) ac σ H s):Inv X ac σ H s:=⟨I.ok.g7,I.os,I.bare,I.base,I.loc,I.cell,I.free,I.fO,I.pin,I.aT,I.len⟩
theorem SP.g7(h:SP (X.nG E) ac D f s'):SP X ac D f s':=by
 cases f with
 |next=>obtain⟨a,H',I,q⟩:=h;exact⟨a,H',I.g7,q⟩
 |brk=>obtain⟨a,H',I,q⟩:=h;exact⟨a,H',I.g7,q⟩
 |cont=>obtain⟨a,H',I,q⟩:=h;exact⟨a,H',I.g7,q⟩
 |ret u=>obtain⟨v,a,H',I,r,q⟩:=h;exact⟨v,a,H',I.g7,r,q⟩
theorem PSs.Lm{st:List Stmt}(h:PSs X.Lm st t):PSs X st t:=λac s σ H D I a=>Rl (h ac s σ H D (I.nG _) a) (λ_ _ q=>q.g7) λ_ _ z=>False.elim z
end
section
variable{X:Cx}{st:Stmt}{rest:List Stmt}{t u:TS}
def cb:TS:=λD σ H=>D.nx σ H
def aJ(t u:TS):TS:=λD σ H=>t {D with nx:=u D} σ H
def bu:PSs X [] cb:=λ_ _ σ H _ I h=>Ss ⟨σ,H,I,h⟩
theorem aj(h1:PS X st t)(h2:PSs X rest u):PSs X (st::rest) (aJ t u):=by
 intro ac s σ H D I h;refine wpAny_execs_cons (cD (h1 ac s σ H {D with nx:=u D} I h) λf s1 q=>?_);cases f with
 |next=>obtain⟨a,H',b,q⟩:=q;exact h2 ac s1 a H' D b q
 |ret v=>exact q
 |brk=>exact q
 |cont=>exact q
def aB(h1:PS X st t):PSs X [st] t:=by
 intro ac s σ H D I h;refine wpAny_execs_cons (cD (h1 ac s σ H D I h) λf s1 q=>?_);cases f with
 |next=>exact Ss q
 |ret v=>exact q
 |brk=>exact q
 |cont=>exact q
def Inv.quiet(I:Inv X ac σ H s):interactive X.env=false:=by simp[interactive,I.ok.kind]
def cj(te:TE):TS:=λD σ H=>te σ H λ_ H1=>D.nx σ H1
def bq(a:PE X e te)(hs:autoParam (swapsWith e none pos.line X.env=pure false) az):PS X (.Expr e pos) (cj te):=by intro ac s σ H D I h;exact wpAny_Expr_any (cD (a ac s σ H _ I h) λv s1 ⟨x,H1,b,c,q1⟩=>⟨σ,H1,b,q1⟩) I.quiet hs
def cO(te:TE):TS:=λD σ H=>te σ H D.rt
def aX(a:PE X e te):PS X (.Return (some e) pos) (cO te):=by intro ac s σ H D I h;exact wpAny_Return_some (cD (a ac s σ H _ I h) λv s1 ⟨x,H1,b,c,q1⟩=>⟨x,σ,H1,b,c,q1⟩)
def dD(c:TT)(t u:TS):TS:=λD σ H=>c σ H λb H1=>if b=true then t D σ H1 else u D σ H1
def cq(f:PT X c tc)(ha:PSs X a t)(hb:PSs X b u):PS X (.If c a b pos) (dD tc t u):=by
 intro ac s σ H D I h;refine wpAny_If (cD (f ac s σ H _ I h) λd s1 ⟨H1,e,q1⟩=>?_);cases d with
 |true=>exact ha ac s1 σ H1 D e q1
 |false=>exact hb ac s1 σ H1 D e q1
end
abbrev TG:=V->St->Hp->(St->Hp->Prop)->Prop
abbrev IW:=List V->St->Hp->(St->Hp->Prop)->Prop
def PG(X:Cx)(a:Expr)(t:TG):Prop:=
 ∀(ac:List (Addr×Obj))(s:Ux)(σ:St)(H:Hp)(v:V)(u:UA)(Q:St->Hp->Prop),Inv X ac σ H s->RelV v u->t v σ H Q->
  wpAny (model X.prog X.w) X.A (assign a X.env u) (λ_ c=>∃b H',Inv X ac b H' c/\Q b H') X.xe s
def Ly(X:Cx)(b:List Expr)(t:IW):Prop:=
 ∀(ac:List (Addr×Obj))(s:Ux)(σ:St)(H:Hp)(vs:List V)(us:List UA)(Q:St->Hp->Prop),Inv X ac σ H s->Vals vs us->t vs σ H Q->
  wpAny (model X.prog X.w) X.A (assignInOrder ((assignEach b X.env).map (·.2)) us) (λ_ c=>∃a H',Inv X ac a H' c/\Q a H') X.xe s
section
def aA(i:Nat):TG:=λv σ H Q=>Q (σ.set i (some v)) H
def aI(a:X.N.Nodup)(b:X.N[i]?=some x)(c:IT X.env.scope x)(d:autoParam (X.fn x=true\/X.env.scope.names.lookup x=some .local) UD._auto_1):PG X (.Name x pos) (aA i):=by intro ac s σ H v u Q I r h;exact wpAny_assign_Name (lM I a b c r (λf e=>⟨_,H,e,h⟩) d)
def dY:IW:=λvs σ H Q=>vs=[]/\Q σ H
def aW(t:TG)(u:IW):IW:=λvs σ H Q=>∃v r,vs=v::r/\t v σ H λa H'=>u r a H' Q
def cI:Ly X [] dY:=by intro ac s σ H vs us Q I r h;obtain⟨e,h⟩:=h;subst e;cases r;exact assignInOrder_nil ⟨σ,H,I,h⟩
def aU(h1:PG X e t)(h2:Ly X es u)
 (hs:autoParam ((assignEach (e::es) X.env).map (·.2)=assign e X.env::(assignEach es X.env).map (·.2)) az):Ly X (e::es) (aW t u):=by
 intro ac s σ H vs us Q I r h;obtain⟨v,c,e1,h⟩:=h;subst e1;cases r with
 |cons r rr=>rw[hs];refine assignInOrder_cons (cD (h1 ac s σ H _ _ _ I r h) λ_ s1 ⟨a,H1,b,q1⟩=>?_);exact h2 ac s1 a H1 _ _ Q b rr q1
def dZ(K:Uy)(n:Nat)(t:IW):TG:=λv σ H Q=>∃a xs,v=.ref a/\SqT K H a xs/\xs.length=n/\t xs σ H Q
def dF(g:X.calm=true)(h:Ly X es t)
 (i:autoParam ((assignEach es X.env).length=n) az) (c:autoParam ((assignEach es X.env).findIdx? (·.1)=none) az):PG X (.Tuple es k pos) (dZ X.K n t):=by
 intro ac s σ H v u Q I r d;obtain⟨a,xs,e1,j,l,d⟩:=d;subst e1;cases r;obtain⟨its,f,m,hz⟩:=I.tuple j;refine assign_Tuple_tuple (I.ok.hd g) m (by simp[i,<- l,f.length]) c λh' p=>?_;have q:Inv X ac σ H {s with heap:=h'}:=I.kept (t':=s.toks) λb o e=>p b o (P7 (PD e)) e;exact h ac _ σ H xs _ Q q (by simpa using f) d
def aZ(te:TE)(g:TG):TS:=λD σ H=>te σ H λx H1=>g x σ H1 D.nx
def F_(a:PE X e te)(b:PG X tg g)(hs:autoParam (swapsWithSole [tg] e pos.line X.env=pure false) az)(c:autoParam (swappedStores [tg] e X.env=pure none) az)
 (h1:autoParam ((assignEach [tg] X.env).map (·.2)=[assign tg X.env]) az):PS X (.Assign [tg] e pos) (aZ te g):=by
 intro ac s σ H D I h;refine wpAny_Assign_stores (cD (a ac s σ H _ I h) λv s1 ⟨x,H1,d,f,q1⟩=>?_) hs c;rw[h1];exact cD (b ac s1 σ H1 x v _ d f q1) λ_ s2 q=>q
def aG(a:X.N.Nodup)(b:X.N[i]?=some x)(c:IT X.env.scope x)(d:PE X e te)(hs:autoParam (swapsWith e (some (.Name x pos')) pos.line X.env=pure false) az)(f:autoParam (X.fn x=true\/X.env.scope.names.lookup x=some .local) UD._auto_1) :
 PS X (.Assign [.Name x pos'] e pos) (aZ te (aA i)):=by
 intro ac s σ H D I h;refine wpAny_Assign_Name (cD (d ac s σ H _ I h) λv s1 ⟨y,H1,g,j,q1⟩=>?_) hs;exact lM g a b c j (λs2 k=>⟨_,H1,k,q1⟩) f
end
section
def lP(c:TT)(tb:TS):TS:=λD σ H=>∃W:Nat->St->Hp->Prop,(∃m,W m σ H)/\∀m σ H,W m σ H->
 c σ H λb H1=>if b=true then ∃N:St->Hp->Prop,(∀a H',N a H'->∃d,d<m/\W d a H')/\tb {D with nx:=N,ct:=N,bk:=D.nx} σ H1 else D.nx σ H1
def jM(o:PassesOwn (model X.prog X.w) X.A X.env X.xe)(t:PT X c tc)(hb:PSs X body tb):PS X (.While c body [] pos) (lP tc tb):=by
 intro ac s σ H D I h;obtain⟨W,⟨m0,u⟩,turn⟩:=h;refine wpAny_While (codeAny_whileLoop (λn x=>∃e H',Inv X ac e H' x/\W n e H') ?_ m0 ⟨σ,H,I,u⟩);rintro n s1 ⟨d,H1,y,z⟩;refine R4 o (cD (t ac s1 d H1 _ y (turn n d H1 z)) λb s2 ⟨p,q,q2⟩=>?_);cases b with
 |true=>
  obtain⟨N,r,q2⟩:=q2;rw[PN rfl];refine R4 o (cD (hb ac s2 d p _ q q2) λf B i=>?_);cases f with
  |next=>obtain⟨a,g,j,k⟩:=i;obtain⟨l,hm,m⟩:=r a g k;exact⟨l,hm,a,g,j,m⟩
  |cont=>obtain⟨a,g,j,k⟩:=i;obtain⟨l,hm,m⟩:=r a g k;exact⟨l,hm,a,g,j,m⟩
  |brk=>exact i
  |ret v=>exact i
 |false=>rw[PK Qg];exact Ss ⟨d,p,q,q2⟩
end
structure It where
 go:Nat->Hp->Prop
 BY:Nat->Hp->V->Hp->Prop
 stop:Nat->Hp->Prop
def je(X:Cx)(ac:List (Addr×Obj))(H:Hp)(b:Addr):Prop:=H b=none/\b≠X.env.locals/\b∉X.fs/\(b∈X.ex\/X.s₀.heap.objs.size<=b)/\(∀x c,X.env.cells.lookup x=some c->c≠b)/\∀p∈X.pn++ac,p.1≠b
def Inv.tp(I:Inv X ac σ H s)(hb:s.heap.objs.size<=b)(a:H' b=none):je X ac H' b:=by
 refine⟨a,RV (Qr I.lt hb),I.NJ hb,.inr (Qb I.sz hb),λx c e z=>?_,λp d z=>?_⟩
 .obtain⟨v,q⟩:=I.cell x c e;exact absurd (Qr q.lt (by rw[z];exact hb)) (RM _)
 .exact absurd (Qr (PD (I.pin p d).1) (by rw[z];exact hb)) (RM _)
structure Turn(P:Uz) (w:World) (K:Uy) (tg:Expr) (J:It) (fp:List Addr) (it:Addr) (tn:Nat->Heap->Prop):Prop where
 mem:it∈fp
 obj:∀i h,tn i h->∀b∈fp,∃o,h.get? b=some o/\∀v,o.data≠.cell v
 keep:∀i h h',tn i h->(∀b∈fp,∀o,h.get? b=some o->h'.get? b=some o)->tn i h'
 item:∀(X:Cx),X.prog=P->X.w=w->X.K=K->X.calm=true->∀(i:Nat)(ac:List (Addr×Obj))(s:Ux)(σ:St)(H:Hp)(E:UA->Ux->Prop),Inv X ac σ H s->(∀b∈fp,je X ac H b)->tn i s.heap->J.go i H->
  wpAny (model P w) X.A (pyNext (.ref it)) (λr s1=>∃u,r=some u/\
   wpAny (model P w) X.A (letOwnedTupleGo tg (.ref it) u) (λ_ s2=>∃x H',Inv X ac σ H' s2/\RelV x u/\J.BY i H x H'/\tn (i+1) s2.heap/\∀b∈fp,H' b=none) E s1) E s
 done:∀(X:Cx),X.prog=P->X.w=w->X.K=K->X.calm=true->∀(i:Nat)(ac:List (Addr×Obj))(s:Ux)(σ:St)(H:Hp)(E:UA->Ux->Prop),Inv X ac σ H s->(∀b∈fp,je X ac H b)->tn i s.heap->J.stop i H->
  wpAny (model P w) X.A (pyNext (.ref it)) (λr s1=>r=none/\Inv X ac σ H s1) E s
 self:∀(A:UB)(i:Nat)(s:Ux)(Q:UA->Ux->Prop)(E:UA->Ux->Prop),tn i s.heap->Q (.ref it) s->wpAny (model P w) A (pyIter (.ref it)) Q E s
abbrev TI:=St->Hp->(It->Hp->Prop)->Prop
def Lz(X:Cx)(ac:List (Addr×Obj))(σ:St)(tg:Expr)(R:It->Hp->Prop)(a:UA)(s2:Ux):Prop:=∃(it:Addr)(fp:List Addr)(tn:Nat->Heap->Prop)(J:It)(H':Hp),a=.ref it/\Inv X ac σ H' s2/\Turn X.prog X.w X.K tg J fp it tn/\tn 0 s2.heap/\(∀b∈fp,je X ac H' b)/\R J H'
def PI(X:Cx)(tg iter:Expr)(a:TI):Prop:=
 ∀(ac:List (Addr×Obj))(s:Ux)(σ:St)(H:Hp)(R:It->Hp->Prop),Inv X ac σ H s->a σ H R->
  wpAny (model X.prog X.w) X.A (eval iter X.env) (λv s1=>wpAny (model X.prog X.w) X.A (pyIter v) (Lz X ac σ tg R) X.xe s1) X.xe s
def yZ(b:s.heap.get? it=some o)(c:o.cls=.type n)(hd:o.data=.fields vs)
 (d:["enumerate","zip","dict_itemiterator","dict_reverseitemiterator","odict_iterator","itertools.zip_longest","itertools.pairwise"].contains n=false) (a:Q () s):wpAny M A (letOwnedTupleGo tg (.ref it) u) Q E s:=by
 unfold letOwnedTupleGo;cases tg<;>first
  |exact Po a
  |(cases u<;>first
     |exact Po a
     |(refine KE (wpAny_load b ?_)
       rw[c,hd];show wpAny M A (if(["enumerate","zip","dict_itemiterator","dict_reverseitemiterator","odict_iterator","itertools.zip_longest","itertools.pairwise"].contains n&&vs[0]?==some (rawInt _))=true then _ else _) Q E s;rw[PK (by intro h;rw[d,RY]at h;cases h)];exact Po a))
def y8(K:Uy)(a:Addr):It:=⟨λi H=>∃xs x,SqL K H a xs/\xs[i]?=some x,λi H x H'=>H'=H/\∀xs,SqL K H a xs->xs[i]?=some x,λi H=>∃xs,SqL K H a xs/\xs.length<=i⟩
def LU(lo:Int)(n:Nat):It:=⟨λi _=>i<n,λi H x H'=>H'=H/\x=.int (lo+i),λi _=>n<=i⟩
def wN{K:Uy}{tg:Expr}(a it:Addr):Turn P w K tg (y8 K a) [it] it (λi h=>h.IsListIter it a i) where
 mem:=by simp
 obj:=λi h st b hb=>by
  have e:b=it:=by simpa using hb
  subst e;obtain⟨o,e,c,d⟩:=st;exact⟨o,e,λv z=>by rw[d]at z;cases z⟩
 keep:=λi h h' st k=>st.at λo e=>k it (by simp) o e
 item:=by intro X hP hw hK hc i ac s σ H E I hf st hg;subst hP hw hK;obtain⟨xs,x,hq,hx⟩:=hg;obtain⟨its,rv,p,hz⟩:=I.list hq;obtain⟨u,hu,ru⟩:=rv.get hx;obtain⟨f0,f1,f2,f3,f4,f5⟩:=hf it (by simp);refine wpAny_pyNext_list_item st p.isList (x:=u) (by simpa using hu) λh' st' sb=>?_;have I1:Inv X ac σ H {s with heap:=h'}:=I.turned (t':=s.toks) (λb o hb e=>(sb.2 b hb).trans e) f0 f1 f3 f4 f5;obtain⟨o,e,c,d⟩:=id st';exact⟨u,rfl,yZ (s:={s with heap:=h'}) e c d (by decide) ⟨x,H,I1,ru,⟨rfl,λys hy=>by rw[I.sY hy hq];exact hx⟩,st',λb hb=>(hf b hb).1⟩⟩
 done:=by intro X hP hw hK hc i ac s σ H E I hf st hg;subst hP hw hK;obtain⟨xs,hq,hx⟩:=hg;obtain⟨its,rv,p,hz⟩:=I.list hq;obtain⟨f0,f1,f2,f3,f4,f5⟩:=hf it (by simp);have hl:=rv.length;exact wpAny_pyNext_list_end (I.ok.hd hc) st p.isList (by simp;lia) λh' eb=>⟨rfl,I.turned (t':=s.toks) (λb o hb e=>eb b o hb e) f0 f1 f3 f4 f5⟩
 self:=λ_ _ _ _ _ st h=>wpAny_pyIter_listiter st h
def tP{K:Uy}{tg:Expr}(it:Addr)(lo:Int)(n:Nat):Turn P w K tg (LU lo n) [it] it (λi h=>IsRangeIter h it (lo+(i:Nat)*1) ((n:Int)-(i:Nat)) 1) where
 mem:=by simp
 obj:=λi h st b hb=>by grind
 keep:=λi h h' st k=>k it (by simp) _ st
 item:=by intro X hP hw hK hc i ac s σ H E I hf st hg;subst hP hw hK;obtain⟨f0,f1,f2,f3,f4,f5⟩:=hf it (by simp);have W:=Walks.range (prog:=X.prog) (w:=X.w) (I.ok.hd hc) it lo 1 n;refine W.item i s _ _ hg st λv h' tk hv st' kk=>?_;obtain⟨t,rfl⟩:=hv;have I1:Inv X ac σ H {s with heap:=h',toks:=tk}:=I.turned (λb o hb e=>kk b o (by simpa using hb) e) f0 f1 f3 f4 f5;refine⟨_,rfl,yZ (s:={s with heap:=h',toks:=tk}) (n:="range_iterator") st' rfl rfl (by decide) ⟨.int (lo+i),H,I1,⟨t,?_⟩,⟨rfl,rfl⟩,st',λb hb=>(hf b hb).1⟩⟩;rw[Int.mul_one]
 done:=by intro X hP hw hK hc i ac s σ H E I hf st hg;subst hP hw hK;obtain⟨f0,f1,f2,f3,f4,f5⟩:=hf it (by simp);exact wpAny_pyNext_range_end (I.ok.hd hc) st (by have:n<=i:=hg;lia) λh' eb=>⟨rfl,I.turned (t':=s.toks) (λb o hb e=>eb b o hb e) f0 f1 f3 f4 f5⟩
 self:=λ_ _ _ _ _ st h=>wpAny_pyIter_rangeiter st h
section
def ce(K:Uy)(tl:TE):TI:=λσ H R=>tl σ H λx H1=>∃a,x=.ref a/\(∃xs,SqL K H1 a xs)/\R (y8 K a) H1
def bz{tl:TE}(d:PE X l tl):PI X tg l (ce X.K tl):=by
 intro ac s σ H R I h;refine cD (d ac s σ H _ I h) λv s1 ⟨x,H1,c,f,q1⟩=>?_;obtain⟨a,e,⟨xs,g⟩,q⟩:=q1;subst e;cases f;obtain⟨its,i,p,hz⟩:=c.list g;refine Tl p.isList ?_;refine⟨s1.heap.objs.size,[s1.heap.objs.size],_,_,H1,rfl,c.kept (t':=s1.toks) λb o e=>Pp _ e,wN a _,⟨_,PH _ rfl,rfl,rfl⟩,λb hb=>?_,q⟩;have e:b=s1.heap.objs.size:=by simpa using hb
 subst e;exact c.tp (Pq _) (c.aT.fresh (Pq _))
def y9{s:Ux}{R:It->Hp->Prop}{E:UA->Ux->Prop}{lo a:Int}{t u v:Tok}{tk:Nat}(I:Inv X ac σ H s)(h1:-(2^62)<=lo)(h2:lo<2^62)(h3:-(2^62)<=a)(d:a<2^62)
 (q:R (LU lo (a-lo).toNat) H):wX X (pyIter (.ref s.heap.objs.size)) (Lz X ac σ tg R) E { s with heap:=s.heap.push { cls:=.type "range",data:=.fields #[.int lo t,.int a u,.int 1 v] },toks:=tk }:=by
 refine wpAny_pyIter_range (IsRange.new ..) (small_one h1 h2 h3 d) ?_;have c:Inv X ac σ H { s with heap:=s.heap.push { cls:=.type "range",data:=.fields #[.int lo t,.int a u,.int 1 v] },toks:=tk }:=I.kept λb o e=>Pp _ e;refine⟨(s.heap.push { cls:=.type "range",data:=.fields #[.int lo t,.int a u,.int 1 v] }).objs.size,[(s.heap.push { cls:=.type "range",data:=.fields #[.int lo t,.int a u,.int 1 v] }).objs.size],_,_,H,rfl,
  c.kept (t':=tk) λb o e=>Pp _ e,tP _ lo (a-lo).toNat,?_,λb hb=>?_,q⟩
 .have e1:lo+((0:Nat):Int)*1=lo:=by simp
  have e2:(((a-lo).toNat:Nat):Int)-((0:Nat):Int)=Builtin.Range.rangeSize lo a 1:=by rw[rangeSize_one];split<;>lia
  show IsRangeIter _ _ (lo+((0:Nat):Int)*1) ((((a-lo).toNat:Nat):Int)-((0:Nat):Int)) 1;rw[e1,e2];exact PH _ rfl
 .have e:b=(s.heap.push { cls:=.type "range",data:=.fields #[.int lo t,.int a u,.int 1 v] }).objs.size:=by simpa using hb
  subst e;exact c.tp (Pq _) (c.aT.fresh (Pq _))
def y_(ta:TA):TI:=λσ H R=>ta σ H λvs H1=>∃j:Int,vs=[.int j]/\-(2^62)<=j/\j<2^62/\R (LU 0 j.toNat) H1
def oq{a:Expr}{ta:TA}{p b:Pos}(c:Gl X "range") (hm:X.mg "range"=none) (ha:PA X [a] ta) (hs:autoParam (starEach [a] X.env=[(false,eval a X.env)]) az):PI X tg (.Call (.Name "range" p) [a] [] b) (y_ ta):=by
 intro ac s σ H R I h;refine Call_ (kA I c hm boot_range (Su (cD (ha b ac s σ H _ I h) λus s1 ⟨vs,H1,d,f,q1⟩=>?_) hs rfl));obtain⟨j,e,q1,q2,q⟩:=q1;subst e;cases f with
 |cons r rr=>cases rr;obtain⟨t,rfl⟩:=r;exact call_range_1 (y9 d (by lia) (by lia) q1 q2 (by simpa using q))
def d4(d:TI)(g:TG)(tb:TS):TS:=λD σ H=>d σ H λJ H1=>∃W:Nat->Nat->St->Hp->Prop,(∃m,W 0 m σ H1)/\∀i m σ H,W i m σ H->
 (J.stop i H/\D.nx σ H)\/(J.go i H/\∃N:St->Hp->Prop,(∀a H',N a H'->∃c,c<m/\W (i+1) c a H')/\∀x H',J.BY i H x H'->g x σ H' λb e=>tb {D with nx:=N,ct:=N,bk:=D.nx} b e)
def lQ(fp:List Addr)(h:Heap):List (Addr×Obj):=fp.filterMap λb=>(h.get? b).map λo=>(b,o)
def gA(hb:b∈fp)(e:h.get? b=some o):(b,o)∈lQ fp h:=Sm.mpr ⟨b,hb,by rw[e];rfl⟩
def wO(a:p∈lQ fp h):p.1∈fp/\h.get? p.1=some p.2:=by
 obtain⟨b,hb,e⟩:=Sm.mp a;cases q:h.get? b with
 |none=>rw[q]at e;cases e
 |some o=>rw[q]at e;have c:(b,o)=p:=QH e;subst c;exact⟨hb,q⟩
def Inv.pinned(I:Inv X ac σ H s)(a:∀b∈fp,je X ac H b)(d:∀b∈fp,∃o,s.heap.get? b=some o/\∀v,o.data≠.cell v):Inv X (ac++lQ fp s.heap) σ H s:=
 I.wJ λp c=>(PP.mp c).elim (λz=>I.pin p (Qs _ z)) λz=>by
  obtain⟨hb,e⟩:=wO z;obtain⟨f,g,h,_⟩:=a p.1 hb
  grind
def Inv.kr(I:Inv X (ac++pl) σ H s):Inv X ac σ H s:=I.wJ λp a=>I.pin p (Qs _ (Qd _ a))
def bY(y:PassesOwn (model X.prog X.w) X.A X.env X.xe)(O:X.calm=true)(Y:PI X tg iter wi)(Z:PG X tg g)(hb:PSs X body tb)
 (hs:autoParam (∀x,foldedSetIterable iter X.env x=pure x) af):PS X (.For tg iter body [] pos) (d4 wi g tb):=by
 intro ac s σ H D I h;refine wpAny_For (cD (Y ac s σ H _ I h) λv s1 h1=>cD h1 λitv s2 h2=>?_) hs;obtain⟨it,fp,tn,J,H2,e,I2,T,F,P,W,⟨m0,w0⟩,turn⟩:=h2;subst e;have c:∀{H':Hp},(∀b∈fp,H' b=none)->∀b∈fp,je X ac H' b:=λhn b hb=>⟨hn b hb,(P b hb).2⟩;refine codeAny_forLoop_any (λn Q=>∃i j H',Inv X ac j H' Q/\tn i Q.heap/\(∀b∈fp,H' b=none)/\W i n j H') ?_ m0 ⟨0,σ,H2,I2,F,λb hb=>(P b hb).1,w0⟩;rintro n R ⟨i,k,E,S,z,B,w3⟩;rcases turn i n k E w3 with⟨stop,qn⟩|⟨go,N,hN,step⟩
 .refine R4 y (cD (T.done X rfl rfl rfl O i ac R k E X.xe S (c B) z stop) λr s4 ⟨G,I4⟩=>?_);subst G;exact Ss ⟨k,E,I4,qn⟩
 .refine R4 y (cD (T.item X rfl rfl rfl O i ac R k E X.xe S (c B) z go) λr s4 ⟨u,G,h4⟩=>?_);subst G;refine R4 y (cD h4 λ_ U ⟨x,V,I5,r5,y5,t,K⟩=>?_);have L:=I5.pinned (c K) (T.obj _ _ t);refine R4 y (cD (Z _ U k V x u _ L r5 (step x V y5)) λ_ s6 ⟨M,H6,I6,q6⟩=>?_);refine R4 y (cD (hb _ s6 M H6 _ I6 q6) λf s7 q=>?_);have again:∀{a:St}{l:Hp},Inv X (ac++lQ fp U.heap) a l s7->N a l->∃m,m<n/\∃i j H',Inv X ac j H' s7/\tn i s7.heap/\(∀b∈fp,H' b=none)/\W i m j H':=λ{a l} p C=>by obtain⟨m',hm,w7⟩:=hN a l C;refine⟨m',hm,i+1,a,l,p.kr,T.keep _ _ _ t λb hb o e=>(p.pin (b,o) (Qs _ (Qs _ (gA hb e)))).1,λb hb=>?_,w7⟩;obtain⟨o,e,d⟩:=T.obj _ _ t b hb;exact(p.pin (b,o) (Qs _ (Qs _ (gA hb e)))).2.1
  cases f with
  |next=>obtain⟨a,l,p,C⟩:=q;exact again p C
  |cont=>obtain⟨a,l,p,C⟩:=q;exact again p C
  |brk=>obtain⟨a,l,p,q⟩:=q;exact⟨a,l,p.kr,q⟩
  |ret v=>obtain⟨x7,a,l,p,r7,q⟩:=q;exact⟨x7,a,l,p.kr,r7,q⟩
end
def cf{K:Uy}{a:Addr}{xs:List V}{g:TG}{tb:TS}{D:Ends}{σ:St}{H:Hp}(b:Nat->St->Hp->Prop)(h0:b 0 σ H)(k:∀i σ H,i<=xs.length->b i σ H->SqL K H a xs)
 (hs:∀i x σ H,xs[i]?=some x->b i σ H->g x σ H λc h=>tb {D with nx:=b (i+1),ct:=b (i+1),bk:=D.nx} c h) (hd:∀σ H,b xs.length σ H->D.nx σ H) :
 ∃W:Nat->Nat->St->Hp->Prop,(∃m,W 0 m σ H)/\∀i m σ H,W i m σ H->
  ((y8 K a).stop i H/\D.nx σ H)\/((y8 K a).go i H/\∃N:St->Hp->Prop,(∀d H',N d H'->∃j,j<m/\W (i+1) j d H')/\∀x H',(y8 K a).BY i H x H'->g x σ H' λc h=>tb {D with nx:=N,ct:=N,bk:=D.nx} c h):=by
 refine⟨λi m σ H=>m=xs.length-i/\i<=xs.length/\b i σ H,⟨xs.length,by simp,PQ _,h0⟩,?_⟩;rintro i m σ H ⟨rfl,l,p⟩;have q:=k i σ H l p;by_cases f:i<xs.length
 .refine .inr ⟨⟨xs,xs[i],q,by simp[f]⟩,b (i+1),λd H' n=>⟨xs.length-(i+1),by lia,rfl,f,n⟩,λx H' y=>?_⟩;obtain⟨e,y⟩:=y;subst e;exact hs i x σ _ (y xs q) p
 .have e:i=xs.length:=by lia
  subst e;exact .inl ⟨⟨xs,q,Pq _⟩,hd σ H p⟩
abbrev R2:=V->V->Hp->VK->Prop
def nJ(X:Cx)(f:UA->UA->Sem UA)(r:R2):Prop:=
 ∀(ac:List (Addr×Obj))(s:Ux)(σ:St)(H:Hp)(x y:V)(v u:UA)(Q:VK),Inv X ac σ H s->RelV x v->RelV y u->r x y H Q->
  wpAny (model X.prog X.w) X.A (f v u) (EP X ac σ Q) X.xe s
def bV(X:Cx)(f:UA)(r:List V->Hp->VK->Prop):Prop:=
 ∀(ac:List (Addr×Obj))(s:Ux)(σ:St)(H:Hp)(xs:List V)(us:List UA)(Q:VK),Inv X ac σ H s->Vals xs us->r xs H Q->
  wpAny (model X.prog X.w) X.A (call f us) (EP X ac σ Q) X.xe s
def LV(X:Cx)(r:V->Hp->(Bool->Hp->Prop)->Prop):Prop:=
 ∀(ac:List (Addr×Obj))(s:Ux)(σ:St)(H:Hp)(x:V)(v:UA)(Q:Bool->Hp->Prop),Inv X ac σ H s->RelV x v->r x H Q->
  wpAny (model X.prog X.w) X.A (truthy v) (TP X ac σ Q) X.xe s
def bv(r:R2)(ta tb:TE):TE:=λσ H Q=>ta σ H λx H1=>tb σ H1 λy a=>r x y a Q
def rI(C:Int->Int->Prop)(g:Int->Int->V):R2:=λx y H Q=>∃i j,x=.int i/\y=.int j/\C i j/\Q (g i j) H
def yN(g:Int->Int->V):R2:=λx y H Q=>∃i j,x=.int i/\y=.int j/\Q (g i j) H
section
def Ga(ha:PE X a ta)(hb:PE X b tb){R:V->V->Hp->Prop}(I:Inv X ac σ H s)
 (h:ta σ H λx H1=>tb σ H1 λy c=>R x y c) {Q:UA->Ux->Prop} {f:UA->UA->Sem UA}
 (g:∀v u s2 x y c,Inv X ac σ c s2->RelV x v->RelV y u->R x y c->wX X (f v u) Q X.xe s2) :
 wX X (eval a X.env) (λv d=>wX X (eval b X.env) (λu e=>wX X (f v u) Q X.xe e) X.xe d) X.xe s:=by
 refine cD (ha ac s σ H _ I h) λv s1 ⟨x,H1,i,j,q1⟩=>?_;refine cD (hb ac s1 σ H1 _ i q1) λu s2 ⟨y,c,k,l,q2⟩=>?_;exact g v u s2 x y c k j l q2
def aO{op:Operator}(c:nJ X (binaryOp op) r)(ha:PE X a ta)(hb:PE X b tb):PE X (.BinOp a op b pos) (bv r ta tb):=by intro ac s σ H Q I h;exact wpAny_BinOp (Ga ha hb I h λv u s2 x y d e f g q=>c ac s2 σ d x y v u Q e f g q)
def LW{f:UA->UA->Sem UA}{C:Int->Int->Prop}{g:Int->Int->Int}
 (rule:∀(i j:Int)(t u:Tok)(s:Ux)(Q:UA->Ux->Prop)(E:UA->Ux->Prop),C i j->Q (.int (g i j) s.toks) {s with toks:=s.toks+1}->wX X (f (.int i t) (.int j u)) Q E s) :
 nJ X f (rI C λi j=>.int (g i j)):=by
 intro ac s σ H x y v u Q I a b h;obtain⟨i,j,rfl,rfl,c,q⟩:=h;obtain⟨t,rfl⟩:=a;obtain⟨t',rfl⟩:=b;exact rule i j t t' s _ _ c ⟨.int (g i j),H,I.tok _,⟨_,rfl⟩,q⟩
def Gb{f:UA->UA->Sem UA}{g:Int->Int->Int}
 (rule:∀(i j:Int)(t u:Tok)(s:Ux)(Q:UA->Ux->Prop)(E:UA->Ux->Prop),Q (.int (g i j) s.toks) {s with toks:=s.toks+1}->wX X (f (.int i t) (.int j u)) Q E s) :
 nJ X f (yN λi j=>.int (g i j)):=by
 intro ac s σ H x y v u Q I a b h;obtain⟨i,j,rfl,rfl,q⟩:=h;obtain⟨t,rfl⟩:=a;obtain⟨t',rfl⟩:=b;exact rule i j t t' s _ _ ⟨.int (g i j),H,I.tok _,⟨_,rfl⟩,q⟩
def IX{f:UA->UA->Sem UA}{g:Int->Int->Bool}
 (rule:∀(i j:Int)(t u:Tok)(s:Ux)(Q:UA->Ux->Prop)(E:UA->Ux->Prop),Q (.bool (g i j)) s->wX X (f (.int i t) (.int j u)) Q E s) :
 nJ X f (yN λi j=>.bl (g i j)):=by
 intro ac s σ H x y v u Q I a b h;obtain⟨i,j,rfl,rfl,q⟩:=h;obtain⟨t,rfl⟩:=a;obtain⟨t',rfl⟩:=b;exact rule i j t t' s _ _ ⟨.bl (g i j),H,I,rfl,q⟩
def IY(i j:Int):Prop:=0<j/\j<1073741824
def CMul(i j:Int):Prop:=(-(2^64)<i/\i<2^64)\/(-(2^64)<j/\j<2^64)
def CMul.ok(h:CMul i j):IntMulOk i j:=by
 rcases h with⟨h1,h2⟩|⟨h1,h2⟩
 .exact .of_left (intBits_le_64 h1 h2)
 .exact .of_right (intBits_le_64 h1 h2)
def cr:nJ X (binaryOp .Add) (yN λi j=>.int (i+j)):=Gb λ_ _ _ _ _ _ _ q=>add_int q
def Gc:nJ X (binaryOp .Sub) (yN λi j=>.int (i-j)):=Gb λ_ _ _ _ _ _ _ q=>sub_int q
def gB:nJ X (binaryOp .Mult) (rI CMul λi j=>.int (i*j)):=LW λ_ _ _ _ _ _ _ a q=>mul_int q a.ok
def dg:nJ X (binaryOp .FloorDiv) (rI IY λi j=>.int (i/j)):=LW λi j _ _ _ _ _ a q=>by have h1:(0:Int)<j:=a.1;have h2:j<1073741824:=a.2;exact floordiv_int (by lia) (by rw[Int.fdiv_eq_ediv_of_nonneg i (by lia)];exact q) (.inl (PyProof.noPylong_small (by lia)))
def bS:nJ X (binaryOp .Mod) (rI (λ_ j=>0<j) λi j=>.int (i%j)):=LW λi j _ _ _ _ _ a q=>by have h1:(0:Int)<j:=a;exact mod_int' (by lia) (by rw[Int.fmod_eq_emod_of_nonneg i (by lia)];exact q)
def Ge:nJ X (binaryOp .BitXor) (yN λi j=>.int (Builtin.bitXor i j)):=Gb λ_ _ _ _ _ _ _ q=>xor_int q
end
def IZ:V->V->Bool
 |.bB,.bB=>true|.bB,.int _=>true|.int _,.bB=>true|.bB,.bl _=>true|.bl _,.bB=>true|.bB,.str _=>true|.str _,.bB=>true
 |.int _,.int _=>true|.bl _,.bl _=>true|.str _,.str _=>true|.vq _,.vq _=>true
 |.int _,.str _=>true|.str _,.int _=>true|.bl _,.str _=>true|.str _,.bl _=>true
 |_,_=>false
def tQ:R2:=λx y H Q=>IZ x y=true/\Q (.bl (decide (x=y))) H
def LX:R2:=λx y H Q=>IZ x y=true/\Q (.bl (!decide (x=y))) H
def vA:decide (V.int i=V.int j)=(i==j):=by rw[Sv];simp
def za:decide (V.bl i=V.bl j)=(i==j):=by rw[Sv];simp
def vB:decide (V.str i=V.str j)=(i==j):=by rw[Sv];simp
def vC:decide (V.vq i=V.vq j)=(i.toList==j.toList):=by rw[Sv];cases i;cases j;simp
section
def bA(I:Inv X ac σ H s)(q:Q (.bl k) H)(e:k=k'):EP X ac σ Q (.bool k') s:=by subst e;exact⟨.bl k,H,I,rfl,q⟩
def g8:nJ X (compareOp .Eq) tQ:=by
 intro ac s σ H x y v u Q I b a h;obtain⟨hs,q⟩:=h;cases x with
 |bB=>
  cases b;cases y with
  |bB=>cases a;exact PySem.EqNone.eq_none_none (bA I q (by simp))
  |bl j=>cases a;exact PySem.EqNone.eq_none_bool (bA I q (by simp))
  |int j=>obtain⟨t',rfl⟩:=a;exact PySem.EqNone.eq_none_int (bA I q (by simp))
  |str j=>obtain⟨t',rfl⟩:=a;exact PySem.EqNone.eq_none_str (bA I q (by simp))
  |_=>exact absurd (show false=true from hs) Qg
 |bl i=>
  cases b;cases y with
  |bB=>cases a;exact PySem.EqNone.eq_bool_none (bA I q (by simp))
  |bl j=>cases a;exact eq_bool (bA I q za)
  |str j=>obtain⟨t',rfl⟩:=a;exact PySem.EqMixed.eq_bool_str (bA I q (by simp))
  |_=>exact absurd (show false=true from hs) Qg
 |int i=>
  obtain⟨t,rfl⟩:=b;cases y with
  |bB=>cases a;exact PySem.EqNone.eq_int_none (bA I q (by simp))
  |int j=>obtain⟨t',rfl⟩:=a;exact eq_int (bA I q vA)
  |str j=>obtain⟨t',rfl⟩:=a;exact PySem.EqMixed.eq_int_str (bA I q (by simp))
  |_=>exact absurd (show false=true from hs) Qg
 |str i=>
  obtain⟨t,rfl⟩:=b;cases y with
  |bB=>cases a;exact PySem.EqNone.eq_str_none (bA I q (by simp))
  |bl j=>cases a;exact PySem.EqMixed.eq_str_bool (bA I q (by simp))
  |int j=>obtain⟨t',rfl⟩:=a;exact PySem.EqMixed.eq_str_int (bA I q (by simp))
  |str j=>obtain⟨t',rfl⟩:=a;exact eq_str (bA I q vB)
  |_=>exact absurd (show false=true from hs) Qg
 |vq i=>
  obtain⟨t,rfl⟩:=b;cases y with
  |vq j=>obtain⟨t',rfl⟩:=a;exact PySem.W.eq_bytes (bA I q vC)
  |_=>exact absurd (show false=true from hs) Qg
 |_=>cases y<;>exact absurd (show false=true from hs) Qg
def E9:nJ X (compareOp .NotEq) LX:=by
 intro ac s σ H x y v u Q I b a h;obtain⟨hs,q⟩:=h;cases x with
 |bB=>
  cases b;cases y with
  |bB=>cases a;exact PySem.EqNone.ne_none_none (bA I q (by simp))
  |bl j=>cases a;exact PySem.EqNone.ne_none_bool (bA I q (by simp))
  |int j=>obtain⟨t',rfl⟩:=a;exact PySem.EqNone.ne_none_int (bA I q (by simp))
  |str j=>obtain⟨t',rfl⟩:=a;exact PySem.EqNone.ne_none_str (bA I q (by simp))
  |_=>exact absurd (show false=true from hs) Qg
 |bl i=>
  cases b;cases y with
  |bB=>cases a;exact PySem.EqNone.ne_bool_none (bA I q (by simp))
  |bl j=>cases a;exact ne_bool (bA I q (Q1 not za))
  |str j=>obtain⟨t',rfl⟩:=a;exact PySem.EqMixed.ne_bool_str (bA I q (by simp))
  |_=>exact absurd (show false=true from hs) Qg
 |int i=>
  obtain⟨t,rfl⟩:=b;cases y with
  |bB=>cases a;exact PySem.EqNone.ne_int_none (bA I q (by simp))
  |int j=>obtain⟨t',rfl⟩:=a;exact ne_int (bA I q (Q1 not vA))
  |str j=>obtain⟨t',rfl⟩:=a;exact PySem.EqMixed.ne_int_str (bA I q (by simp))
  |_=>exact absurd (show false=true from hs) Qg
 |str i=>
  obtain⟨t,rfl⟩:=b;cases y with
  |bB=>cases a;exact PySem.EqNone.ne_str_none (bA I q (by simp))
  |bl j=>cases a;exact PySem.EqMixed.ne_str_bool (bA I q (by simp))
  |int j=>obtain⟨t',rfl⟩:=a;exact PySem.EqMixed.ne_str_int (bA I q (by simp))
  |str j=>obtain⟨t',rfl⟩:=a;exact ne_str (bA I q (Q1 not vB))
  |_=>exact absurd (show false=true from hs) Qg
 |vq i=>
  obtain⟨t,rfl⟩:=b;cases y with
  |vq j=>obtain⟨t',rfl⟩:=a;exact PySem.W.ne_bytes (bA I q (Q1 not vC))
  |_=>exact absurd (show false=true from hs) Qg
 |_=>cases y<;>exact absurd (show false=true from hs) Qg
def ou:nJ X (compareOp .Lt) (yN λi j=>.bl (decide (i<j))):=IX λ_ _ _ _ _ _ _ q=>lt_int q
def oz:nJ X (compareOp .Gt) (yN λi j=>.bl (decide (j<i))):=IX λ_ _ _ _ _ _ _ q=>gt_int q
def Gf:nJ X (compareOp .Is) (λx y H Q=>y=.bB/\Q (.bl (decide (x=.bB))) H):=by
 intro ac s σ H x y v u Q I a b h;obtain⟨rfl,q⟩:=h;cases b;refine is_none_gen (bA I q ?_);cases x<;>first
  |(cases a;rfl)
  |(obtain⟨t,rfl⟩:=a;rfl)
def bD(b:Expr)(h:autoParam (op≠.In) ae)(h2:autoParam (op≠.NotIn) ae):behindInMarks op b=false:=by
 have e1:(op==CmpOp.In)=false:=by cases op<;>first|rfl|exact absurd rfl h
 have e2:(op==CmpOp.NotIn)=false:=by cases op<;>first|rfl|exact absurd rfl h2
 cases b<;>simp[behindInMarks,e1,e2]
def iY(c:nJ X (compareOp op) r)(ha:PE X a ta)(hb:PE X b tb)(hm:behindInMarks op b=false):PE X (.Compare a [op] [b] pos) (bv r ta tb):=by intro ac s σ H Q I h;exact wpAny_Compare1 (Ga ha hb I h λv u s2 x y d e f g q=>c ac s2 σ d x y v u Q e f g q) hm
def bQ(t:TE):TT:=λσ H Q=>t σ H λx H'=>∃k,x=.bl k/\Q k H'
def bh(d:nJ X (compareOp op) r)(ha:PE X a ta)(hb:PE X b tb)(hm:behindInMarks op b=false):PT X (.Compare a [op] [b] pos) (bQ (bv r ta tb)):=by intro ac s σ H Q I h;refine wpAny_isTrue_Compare1 (cD (ha ac s σ H _ I h) λv s1 ⟨x,H1,f,g,q1⟩=>cD (hb ac s1 σ H1 _ f q1) λu s2 ⟨y,i,j,l,q2⟩=>cD (d ac s2 σ i x y v u _ j g l q2) λc q ⟨z,m,n,o,k,e,p⟩=>?_) hm;subst e;cases o;exact RD ⟨m,n,p⟩
def Gg(K:Uy)(x:V)(H:Hp)(k:Bool):Prop:=
 match x with
 |.bB=>k=false
 |.bl b=>k=b
 |.int i=>k=(i != 0)
 |.str y=>y.length<=sizeLine/\k=((y.length:Int) != 0)
 |.vq y=>y.size<=sizeLine/\k=((y.size:Int) != 0)
 |.ref p=>(∃xs,SqL K H p xs/\k=!xs.isEmpty)\/(∃xs,SqT K H p xs/\k=!xs.isEmpty)\/∃kvs,H p=some (.dK kvs)/\k=!kvs.isEmpty
 |_=>False
def tR{κ:Type}{kvs:List (κ×V)}{vs:List (κ×UA)}(r:KV kvs vs):(!vs.isEmpty)=!kvs.isEmpty:=by cases r<;>rfl
def lR(r:Vals xs its):(!its.toArray.isEmpty)=!xs.isEmpty:=by cases r<;>simp
def pj:(sizeLine:Nat)<2^63:=by rw[Qf];decide
def Gh:LV X (λx H Q=>∃k,Gg X.K x H k/\Q k H):=by
 intro ac s σ H x v Q I c h;obtain⟨k,e,q⟩:=h;have l:=pj;have hs:sizeLine=16777216:=Qf;cases x with
 |bB=>cases c;have a:k=false:=e;subst a;exact truthy_none ⟨H,I,q⟩
 |bl b=>cases c;have a:k=b:=e;subst a;exact RD ⟨H,I,q⟩
 |int i=>obtain⟨t,rfl⟩:=c;have a:k=(i != 0):=e;subst a;exact PySem.P.truthy_int ⟨H,I,q⟩
 |str y=>obtain⟨t,rfl⟩:=c;obtain⟨g,a⟩ : y.length<=sizeLine/\k=((y.length:Int) != 0):=e;subst a;exact PySem.P.truthy_str (by lia) ⟨H,I.tok _,q⟩
 |vq y=>obtain⟨t,rfl⟩:=c;obtain⟨g,a⟩ : y.size<=sizeLine/\k=((y.size:Int) != 0):=e;subst a;exact PySem.W.truthy_bytes (by lia) ⟨H,I.tok _,q⟩
 |ref p=>
  cases c;have a:(∃xs,SqL X.K H p xs/\k=!xs.isEmpty)\/(∃xs,SqT X.K H p xs/\k=!xs.isEmpty)\/∃kvs,H p=some (.dK kvs)/\k=!kvs.isEmpty:=e;rcases a with⟨xs,d,a⟩|⟨xs,d,a⟩|⟨kvs,d,a⟩
  .subst a;obtain⟨its,r,pl,hz⟩:=I.list d;have f:=r.length;exact wpAny_truthy_list pl.isList (by simp only[PL];lia) ⟨H,I.tok _,by rw[lR r];exact q⟩
  .subst a;obtain⟨its,r,pl,hz⟩:=I.tuple d;have f:=r.length;exact truthy_tuple pl (by simp only[PL];lia) ⟨H,I.tok _,by rw[lR r];exact q⟩
  .subst a;obtain⟨hz,j,vs,r,m⟩ : kvs.length<=sizeLine/\(p==sysModules)=false/\∃vs,KV kvs vs/\s.heap.DictOf (aK X.prog X.w) p vs:=I.aT p _ d;have f:kvs.length=vs.length:=Rk r;exact wpAny_truthy_dict j m (by lia) ⟨H,I.tok _,by rw[tR r];exact q⟩
 |_=>exact(show False from e).elim
def jN(ha:PE X a ta)(c:∀b,isTrue a X.env b=(do let v <- b;standAt a.pos;holding [v] (truthy v))) :
 PT X a (λσ H Q=>ta σ H λx H'=>∃k,Gg X.K x H' k/\Q k H'):=by
 intro ac s σ H Q I h;exact isTrue_plain (cD (ha ac s σ H _ I h) λv s1 ⟨x,H1,d,e,q1⟩=>Gh ac s1 σ H1 x v Q d e q1) (c _)
def dU(r:Vals [x] us):∃u,us=[u]/\RelV x u:=by
 cases r with
 |cons a b=>cases b;exact⟨_,rfl,a⟩
def qW(r:Vals [x,y] us):∃u a,us=[u,a]/\RelV x u/\RelV y a:=by
 cases r with
 |cons b c=>
  cases c with
  |cons d e=>cases e;exact⟨_,_,rfl,b,d⟩
def wQ(b:X.calm=true):bV X (.builtin "max") (λxs H Q=>∃i j,xs=[.int i,.int j]/\Q (.int (if j>i then j else i)) H):=by
 intro ac s σ H xs us Q I r h;obtain⟨i,j,rfl,q⟩:=h;obtain⟨u,c,rfl,⟨t,rfl⟩,⟨t',rfl⟩⟩:=qW r;refine max_two_ints (I.ok.hd b) λh' tk k=>⟨_,H,I.kept k,?_,q⟩;by_cases a:j>i
 .rw[PN a,PN a];exact⟨_,rfl⟩
 .rw[PK a,PK a];exact⟨_,rfl⟩
end
structure vw(h:Heap) (x dx C:Addr) (mA:Str->Option UA):Prop where
 obj:h.get? x=some (instObj C dx)
 ns:h.Ns1 dx mA
 ne:dx≠x
def wR{h:Heap}{b:Str->Option UA}(n:h.Ns1 dx b):∃od,h.get? dx=some od/\∀name,lookIn name od=some (b name):=by
 obtain⟨o,es,ep,c,hd,d,_,hm⟩:=n;refine⟨o,c,λname=>?_⟩;have e:=hm name;unfold nsFind findBy at e;rw[<- Array.find?_toList]at e;unfold lookIn;rw[hd];dsimp only;split
 .rename_i y q;rw[q]at e;exact Q1 some e
 .rename_i q;rw[q]at e;have a:es.toList.any (·.refKey)=false:=by rw[List.any_eq_false];intro y f;obtain⟨z,t,g⟩:=d y (Array.mem_toList_iff.mp f);simp[DictEntry.refKey,g]
  have i:¬es.toList.any (·.refKey)=true:=by rw[a];exact Qg
  rw[PK i];exact Q1 some e
def vw.look(I:vw h x dx C mA):∃od,PySem.W.InstAt h x (instObj C dx) C (some od)/\∀name,lookIn name od=some (mA name):=
 let ⟨od,a,b⟩:=wR I.ns
 ⟨od,⟨I.obj,rfl,rfl,a⟩,b⟩
section
variable{prog:Uz}{w:World}{A:UB}{E:UA->Ux->Prop}{s:Ux}{K:Uy}{x dx C f:Addr}{mA:Str->Option UA}{name:Str}{v:UA}
theorem CT(X:K.In s.heap)(I:vw s.heap x dx C mA)(b:plainGet K C name=true)(c:hasDictIn K C=true)
 (ha:findIn K (.ref C) name=some none) (d:mA name=some v) (a:PySem.W.handedIn v=true) (h:Q v {s with toks:=s.toks+1}) :
 wpAny (model prog w) A (getAttr (.ref x) name expr) Q E s:=by
 obtain⟨od,J,e⟩:=I.look;exact PySem.W.get_value X J (T4 b).1 (PySem.W.findObj_own c ha rfl (by rw[e,d])) a h
def zb(X:K.In s.heap)(I:vw s.heap x dx C mA)(a:plainGet K C name=true)
 (b:findIn K (.ref C) name=some (some (.ref f))) (c:isFn K (.ref f)=true) (d:mA name=none) (h:Q (.ref f,[.ref x]) s) :
 wpAny (model prog w) A (getMethod (.ref x) name pl) Q E s:=by
 obtain⟨od,J,e⟩:=I.look;exact PySem.W.method_fn X J (T4 a).1 (T4 a).2 b (Sz.mp c) (by show(lookIn name od).map (·.isSome)=some false;rw[e,d];rfl) h
theorem CU(X:K.In s.heap)(I:vw s.heap x dx C mA)
 (hs:findIn K (.ref C) "__setattr__"=some (some (.builtin "object.__setattr__"))) (k:PySem.W.plainOver K C=true) (l:PySem.W.takerIn K C name=some none) (m:hasDictIn K C=true)
 (n:PySem.Within mA ns) (hsz:ns.length<=sizeLine)
 (h:∀h',vw h' x dx C (λy=>if y=name then some v else mA y)->Heap.SameBut dx s.heap h'->Q () {s with heap:=h',toks:=s.toks+2}) :
 wpAny (model prog w) A (setAttr (.ref x) name v) Q E s:=by
 obtain⟨od,J,u⟩:=I.look;refine PySem.W.set_plain X J hs (PySem.W.osa_open (s:={s with toks:=s.toks+1}) (r:=none) X J k l λb=>?_);obtain⟨z,o,e⟩:=PySem.W.any_some m;have p:s.heap.get? x=some ⟨.ref C,some dx,.plain,#[]⟩:=I.obj;refine KE (Po (KE (KE (wpAny_loadPart p (KE (PySem.W.Looks.here (s:={s with toks:=s.toks+1}) (PySem.W.looks_clsIn X o) ?_))))));rw[e];refine Po (a:=some dx) (KE (Po (KE ?_)));refine wpAny_nsSet1 (s:={s with toks:=s.toks+1}) I.ns λh' c d=>?_;obtain⟨oD,q,t,g,i,j⟩:=c.count (PySem.Within.cons name v n);refine KE (wpAny_lookBehind g (by rw[i];exact pastItsLine_dict (Qb j (by rw[P8];lia))) ?_);exact Po (h _ ⟨(d.2 _ (QQ I.ne)).trans I.obj,c,I.ne⟩ d)
theorem zd(X:K.In s.heap)(hm:PySem.W.makesIn K C=true)
 (a:findIn K (.ref C) "__init__"=some (some (.ref f))) (b:PySem.W.typeIn K (.ref f)=some (.type "function"))
 (h:codeAny (model prog w) (A.under (.builtin "type.__call__" ⟨.ref C::vs,kw⟩)) (.call (.ref f) ⟨.ref (s.heap.objs.size+1)::vs,kw⟩) (PySem.W.InitBack (s.heap.objs.size+1) R)
   {s with heap:=(s.heap.push emptyDict).push (instObj C s.heap.objs.size)}) :
 codeAny (model prog w) A (.call (.ref C) ⟨vs,kw⟩) R s:=by
 obtain⟨c,g,d,t,os⟩:=s;exact PySem.W.make_core (PySem.W.makes_of X hm) (PySem.W.looks_findIn X a) (λself=>PySem.W.bind_fn X self b) (.inl rfl) h
end
def gp(f:Str)(v:V):List (Str×V)->List (Str×V)
 |[]=>[(f,v)]
 |(g,x)::r=>if g=f then(g,v)::r else(g,x)::gp f v r
theorem kW(f g:Str)(v:V):∀fs:List (Str×V),(gp f v fs).lookup g=if g=f then some v else fs.lookup g
 |[]=>by
  show List.lookup g [(f,v)]=_
  grind
 |(k,x)::r=>by
  have a:=kW f g v r
  grind [gp]
theorem kB(f:Str)(v:V):∀fs:List (Str×V),f∈(gp f v fs).map (·.1)/\∀g,g∈fs.map (·.1)->g∈(gp f v fs).map (·.1)
 |[]=>⟨by simp[gp],λg h=>by simp at h⟩
 |(k,x)::r=>by
  obtain⟨a,b⟩:=kB f v r
  grind [gp]
theorem kX(f:Str)(v:V):∀fs:List (Str×V),(gp f v fs).length<=fs.length+1
 |[]=>by simp[gp]
 |(k,x)::r=>by
  have b:=kX f v r;rw[show gp f v ((k,x)::r)=(if k=f then(k,v)::r else(k,x)::gp f v r)from rfl];by_cases a:k=f
  .rw[PN a,P8,P8];lia
  .rw[PK a,P8,P8];lia
def RelO.some_of(r:RelO (some v) o):∃u,o=some u/\RelV v u:=by
 cases o with
 |none=>exact(show False from r).elim
 |some u=>exact⟨u,rfl,r⟩
def RelO.none_of(r:RelO none o):o=none:=by
 cases o with
 |none=>rfl
 |some u=>exact(show False from r).elim
def wU(r:RelV v u):PySem.W.handedIn u=true:=by
 cases v with
 |bB=>cases(show u=Value.none from r);rfl
 |bl b=>cases(show u=Value.bool b from r);rfl
 |int i=>obtain⟨t,e⟩:=(show ∃t,u=Value.int i t from r);cases e;rfl
 |str x=>obtain⟨t,e⟩:=(show ∃t,u=Value.str x t from r);cases e;rfl
 |vq b=>obtain⟨t,e⟩:=(show ∃t,u=Value.bytes b t from r);cases e;rfl
 |FY b=>obtain⟨t,e⟩:=(show ∃t,u=Value.float b t from r);cases e;rfl
 |ref a=>cases(show u=Value.ref a from r);rfl
 |ty n=>cases(show u=Value.type n from r);rfl
section
def lA(aT:HOk P w H h)(e:H a=some (.ins C dx fs)):∃b,vw h a dx C b/\(∀f,RelO (fs.lookup f) (b f))/\PySem.Within b (fs.map (·.1))/\fs.length<=1000/\H dx=some (.own a):=by obtain⟨d,z,ne,ob,b,n,r,q⟩:=(show ObjOk P w H h a (.ins C dx fs)from aT a _ e);exact⟨b,⟨ob,n,ne⟩,r,q,z,d⟩
end
structure qC(K:Uy) (C:Addr):Prop where
 pg:plainGet K C Str.empty=true
 hd:hasDictIn K C=true
 po:PySem.W.plainOver K C=true
 sa:findIn K (.ref C) "__setattr__"=some (some (.builtin "object.__setattr__"))
theorem qC.get{K:Uy}(c:qC K C)(f:Str):plainGet K C f=true:=c.pg
def NoAttr(K:Uy)(C:Addr)(f:Str):Prop:=findIn K (.ref C) f=some none
def NoAttr.taker{K:Uy}(n:NoAttr K C f):PySem.W.takerIn K C f=some none:=by unfold PySem.W.takerIn;rw[show findIn K (.ref C) f=some none from n];rfl
structure Meth(K:Uy) (C:Addr) (m:Str) (f:Addr):Prop where
 at_:findIn K (.ref C) m=some (some (.ref f))
 fn:isFn K (.ref f)=true
 kp:keepIn K (.ref f)=true
section
def tS(I:Inv X ac σ H s)(e:H a=some (.ins C dx fs))(c:qC X.K C)(n:NoAttr X.K C f)(l:fs.lookup f=some v)
 (h:∀u d,Inv X ac σ H d->RelV v u->Q u d):wpAny (model X.prog X.w) A (getAttr (.ref a) f b) Q E s:=by
 obtain⟨g,O,r,_,_,_⟩:=lA I.aT e;obtain⟨u,i,ru⟩:=RelO.some_of (v:=v) (o:=g f) (by rw[<- l];exact r f);exact CT I.jK O (c.get f) c.hd n i (wU ru) (h u _ (I.tok _) ru)
def lS(I:Inv X ac σ H s)(e:H a=some (.ins C dx fs))(c:qC X.K C)(k:Meth X.K C m g)(l:fs.lookup m=none)
 (h:Q (.ref g,[.ref a]) s):wpAny (model X.prog X.w) A (getMethod (.ref a) m pl) Q E s:=by
 obtain⟨b,O,r,_,_,_⟩:=lA I.aT e;have d:b m=none:=RelO.none_of (by rw[<- l];exact r m);exact zb I.jK O (c.get m) k.at_ k.fn d h
def tT(I:Inv X ac σ H s)(e:H a=some (.ins C dx fs))(c:qC X.K C)(n:NoAttr X.K C f)(v:fs.length<1000)(B:RelV y u)
 (h:∀i,Inv X ac σ (upd H a (.ins C dx (gp f y fs))) i->Q () i):wpAny (model X.prog X.w) A (setAttr (.ref a) f u) Q E s:=by
 obtain⟨l,O,r,j,_,k⟩:=lA I.aT e;have hz:(fs.map (·.1)).length<=sizeLine:=by rw[Ps,Qf];lia
 refine CU I.jK O c.sa c.po n.taker c.hd j hz λh' d m=>h _ ?_;have hd:∃o,h'.get? dx=some o:=let ⟨o,_,_,p,_⟩:=d.ns;⟨o,p⟩;refine I.write (x:=a) (e:=dx) (by rw[e];exact True.intro) (.inr k) (λb q hb z=>(m.2 b hb).trans z) hd ?_;refine⟨by rw[ai O.ne];exact k,?_,O.ne,d.obj,_,d.ns,λg=>?_,λg t=>?_⟩
 .have:=kX f y fs;lia
 .grind [RelO,gp,kW]
 .by_cases q:g=f
  .rw[q];exact(kB f y fs).1
  .refine(kB f y fs).2 g (j g λz=>t ?_);show(if g=f then some u else l g)=none;rw[PK q];exact z
def Inv.made(I:Inv X ac σ H s):Inv X ac σ (upd (upd H s.heap.objs.size (.own (s.heap.objs.size+1))) (s.heap.objs.size+1) (.ins C s.heap.objs.size []))
 {s with heap:=(s.heap.push emptyDict).push (instObj C s.heap.objs.size)}:=by
 have e1:(s.heap.push emptyDict).get? s.heap.objs.size=some emptyDict:=PH s.heap rfl;have e2:((s.heap.push emptyDict).push (instObj C s.heap.objs.size)).get? (s.heap.objs.size+1)=some (instObj C s.heap.objs.size):=by
  have:=PH (s.heap.push emptyDict) (o:=instObj C s.heap.objs.size) rfl
  rwa [Sj]at this
 have c:(s.heap.push emptyDict).Ns s.heap.objs.size (λ_=>none):=⟨emptyDict,#[],_,e1,rfl,(λe d=>absurd d (by simp)),λ_=>rfl⟩;have f:=I.laid (a:=s.heap.objs.size) (o:=.own (s.heap.objs.size+1)) (h':=s.heap.push emptyDict) (t':=s.toks) (λb u q=>Pp _ q) (Pq _) ⟨_,e1⟩;refine f.laid (a:=s.heap.objs.size+1) (o:=.ins C s.heap.objs.size []) (t':=s.toks) (λb u q=>Pp _ q) (T_ (Sj _ _)) ?_;have ne:s.heap.objs.size≠s.heap.objs.size+1:=P7 (Rt _);refine⟨by rw[ai ne,ag],PQ _,ne,e2,λ_=>none,(Heap.Ns1.of_empty c).at λo q=>Pp _ q,λ_=>True.intro,λy g=>absurd rfl g⟩
def CV(hb:attributeBase e f env (eval e env)=eval e env)
 (h:wpAny (model prog w) A (eval e env) (λo a=>wpAny (model prog w) A (getAttr o f true) Q E a) E s):wpAny (model prog w) A (eval (.Attribute e f pos) env) Q E s:=
 Attribute_any_ h (by rw[arm_eval_Attribute,hb])
end
def eG(K:Uy)(ta:TE)(f:Str):TE:=λσ H Q=>ta σ H λx H1=>∃a C dx fs v,x=.ref a/\H1 a=some (.ins C dx fs)/\qC K C/\NoAttr K C f/\fs.lookup f=some v/\Q v H1
def pq(K:Uy)(ta c:TE)(f:Str):TS:=λD σ H=>c σ H λy H1=>ta σ H1 λx b=>∃a C dx fs,x=.ref a/\b a=some (.ins C dx fs)/\qC K C/\NoAttr K C f/\fs.length<1000/\
 D.nx σ (upd b a (.ins C dx (gp f y fs)))
section
def cG(b:PE X e ta)(hb:attributeBase e f X.env (eval e X.env)=eval e X.env):PE X (.Attribute e f pos) (eG X.K ta f):=by intro ac s σ H Q I h;refine CV hb (cD (b ac s σ H _ I h) λu s1 z=>?_);obtain⟨x,H1,d,g,a,C,dx,fs,v,rfl,i,c,n,l,q⟩:=z;obtain rfl:u=Value.ref a:=g;exact tS d i c n l λk s2 j ru=>⟨v,H1,j,ru,q⟩
def iq(ha:PE X o ta)(b:PE X value tv)(hs:swapsWith value (some (.Attribute o f pos')) pos.line X.env=pure false):PS X (.Assign [.Attribute o f pos'] value pos) (pq X.K ta tv f):=by intro ac s σ H D I h;refine plainObj_wpAny_Assign_Attribute (cD (b ac s σ H _ I h) λu s1 ⟨y,H1,d,e,q⟩=>cD (ha ac s1 σ H1 _ d q) λg s2 z=>?_) hs;obtain⟨x,p,i,j,a,C,dx,fs,rfl,k,c,n,l,q2⟩:=z;obtain rfl:g=Value.ref a:=j;exact tT i k c n l e λr m=>⟨σ,_,m,q2⟩
end
section
inductive kS(K:Uy) (H:Hp):V->UA->Prop where
 |bB:kS K H .bB (.type "NoneType")
 |bl (x:Bool):kS K H (.bl x) (.type "bool")
 |int (i:Int):kS K H (.int i) (.type "int")
 |str (x:Str):kS K H (.str x) (.type "str")
 |FY (x:UInt64):kS K H (.FY x) (.type "float")
 |lst {a:Addr} {xs:List V} (e:H a=some (.lst xs)):kS K H (.ref a) (.type "list")
 |bP {a:Addr} {o:Obj} {xs:List V} (e:H a=some (.bP o (.lst xs))):kS K H (.ref a) (.type "list")
 |tup {a:Addr} {xs:List V} (e:H a=some (.tup xs)):kS K H (.ref a) (.type "tuple")
 |dK {a:Addr} {kvs:List (bI×V)} (e:H a=some (.dK kvs)):kS K H (.ref a) (.type "dict")
 |dT {a:Addr} {kvs:List (List bI×V)} (e:H a=some (.dT kvs)):kS K H (.ref a) (.type "dict")
 |ins {a C dx:Addr} {fs:List (Str×V)} (e:H a=some (.ins C dx fs)) (cl:qC K C) (ha:findIn K (.ref C) "__class__"=some (some (.builtin "object.__class__")))
  (hn:PySem.W.specialIn K (.builtin "object.__class__") "__get__"=some (some (.builtin "getset_descriptor.__get__"))) (htk:PySem.W.takesIn K (.builtin "object.__class__")=some true)
  (hm:PySem.W.mroIn K C (.type "object")=some true):kS K H (.ref a) (.ref C)
def wV(I:Inv X ac σ H s)(d:RelV x u)(ty:kS X.K H x t)(e:kitOne X.K t c=some b)(h:∀tk,Q (.bool b) {s with toks:=tk}) :
 wpAny (model X.prog X.w) A (call (.builtin "isinstance") [u,c]) Q E s:=by
 cases ty with
 |bB=>cases(show u=Value.none from d);exact Rf PySem.W.kitx_none I.jK True.intro e (λz=>nomatch z) h
 |bl y=>cases(show u=Value.bool y from d);exact Rf PySem.W.kitx_bool I.jK True.intro e (λz=>nomatch z) h
 |int i=>obtain⟨t,q⟩:=(show ∃t,u=Value.int i t from d);cases q;exact Rf PySem.W.kitx_int I.jK True.intro e (λz=>nomatch z) h
 |str y=>obtain⟨t,q⟩:=(show ∃t,u=Value.str y t from d);cases q;exact Rf PySem.W.kitx_str I.jK True.intro e (λz=>nomatch z) h
 |FY y=>obtain⟨t,q⟩:=(show ∃t,u=Value.float y t from d);cases q;exact Rf PySem.W.kitx_float I.jK True.intro e (λz=>nomatch z) h
 |@lst a xs f=>cases(show u=Value.ref a from d);obtain⟨_,_,n,_,h1⟩:=(show ObjOk X.prog X.w H s.heap a (.lst xs)from I.aT a _ f);exact Rf PySem.W.kitx_list I.jK ⟨_,h1,rfl⟩ e (λz=>nomatch z) h
 |@bP a ob xs f=>cases(show u=Value.ref a from d);obtain⟨_,_,_,n,_,h1⟩:=(show ObjOk X.prog X.w H s.heap a (.bP ob (.lst xs))from I.aT a _ f);exact Rf PySem.W.kitx_list I.jK ⟨_,h1,rfl⟩ e (λz=>nomatch z) h
 |@tup a xs f=>cases(show u=Value.ref a from d);obtain⟨_,_,_,p⟩:=(show ObjOk X.prog X.w H s.heap a (.tup xs)from I.aT a _ f);obtain⟨o,h1,h2,_⟩:=p;exact Rf PySem.W.kitx_tuple I.jK ⟨o,h1,h2⟩ e (λz=>nomatch z) h
 |@dK a kvs f=>cases(show u=Value.ref a from d);obtain⟨_,_,vs,_,p⟩:=(show ObjOk X.prog X.w H s.heap a (.dK kvs)from I.aT a _ f);obtain⟨o,es,ep,h1,h2,_⟩:=p;exact Rf Ue I.jK ⟨o,h1,h2.1⟩ e (λz=>nomatch z) h
 |@dT a kvs f=>cases(show u=Value.ref a from d);obtain⟨_,_,xs,_,o,es,ep,h1,h2,_⟩:=(show ObjOk X.prog X.w H s.heap a (.dT kvs)from I.aT a _ f);exact Rf Ue I.jK ⟨o,h1,h2.1⟩ e (λz=>nomatch z) h
 |@ins a C dx fs f cl ha j g hm=>cases(show u=Value.ref a from d);obtain⟨k,O,_⟩:=lA I.aT f;obtain⟨od,J,_⟩:=O.look;exact Rf (PySem.W.kitx_own (cl.get _) cl.hd ha j g hm) I.jK J e (λz=>nomatch z) h
end
structure dE(k:Nat) (A:UB):Prop where
 hd:A.handled=none
 dp:A.depth+3*k+5<recursionLimit
 un:A.units+16*k+200<cLine
def dE.mono(r:dE k A)(h:j<=k):dE j A:=⟨r.hd,by have:=r.dp;lia,by have:=r.un;lia⟩
theorem dE.deeper(r:dE (k+1) A)(env:Env):dE k (A.deeper env):=⟨r.hd,by have:=r.dp;show A.depth+1+3*k+5<_;lia,by have:=r.un;show A.units+3+16*k+200<_;lia⟩
def tU{A:UB}{C:Addr}:(A.under (.builtin "type.__call__" ⟨.ref C::us,kw⟩)).depth=A.depth+1:=by
 first|rfl|simp[Around.under,Code.weight,Code.isCreation,Code.isGuard,Code.isCaller,Code.frames,Code.isFrame,guardIds]
def tV{A:UB}{C:Addr}:(A.under (.builtin "type.__call__" ⟨.ref C::us,kw⟩)).units=A.units+1:=by
 first|rfl|simp[Around.under,Code.cUnits,Code.frames,Code.isFrame]
def dE.make(r:dE (k+1) A) (C:Addr) (us:List UA) (a:List (Str×UA)):dE k (A.under (.builtin "type.__call__" ⟨.ref C::us,a⟩)):=⟨r.hd,by have:=r.dp;rw[tU];lia,by have:=r.un;rw[tV];lia⟩
theorem dE.depth(r:dE k A):A.depth<recursionLimit:=by have:=r.dp;lia
theorem dE.units(r:dE k A):A.units+64<cLine:=by have:=r.un;lia
def aF:TA:=λ_ H Q=>Q [] H
def au(ta:TE)(tr:TA):TA:=λσ H Q=>ta σ H λx H1=>tr σ H1 λxs a=>Q (x::xs) a
section
def av:PA X [] aF:=λ_ _ _ _ H Q I h=>Tn ⟨[],H,I,.nil,h⟩
def aa(ha:PE X e te)(b:PA X es t)(hs:autoParam (starEach (e::es) X.env=(false,eval e X.env)::starEach es X.env) az):PA X (e::es) (au te t):=by intro a ac s σ H Q I h;rw[hs];show wpAny _ _ (spliced ((false,eval e X.env)::backTo a (starEach es X.env))) _ _ s;refine Sn (cD (ha ac s σ H _ I h) λu s1 ⟨x,H1,c,d,q1⟩=>?_);exact cD (b a ac s1 σ H1 _ c q1) λus s2 ⟨xs,f,g,i,q2⟩=>⟨x::xs,f,g,.cons d i,q2⟩
def dc(t:TA):TE:=λσ H Q=>t σ H λxs H1=>xs.length<=sizeLine/\∀p,H1 p=none->Q (.ref p) (upd H1 p (.tup xs))
def eJ(t:TA):TE:=λσ H Q=>t σ H λxs H1=>xs.length<=sizeLine/\∀p,H1 p=none->Q (.ref p) (upd H1 p (.lst xs))
def bw{x1}(h:PA X es t):PE X (.Tuple es x1 pos) (dc t):=by intro ac s σ H Q I c;refine wpAny_Tuple_spliced (cD (h pos ac s σ H _ I c) λus s1 ⟨xs,H1,a,r,z,q⟩=>⟨by rw[<- r.length];exact z,?_⟩);have d:H1 s1.heap.objs.size=none:=a.aT.fresh (Pq _);refine⟨.ref s1.heap.objs.size,upd H1 s1.heap.objs.size (.tup xs),a.laid (t':=s1.toks) (λb u e=>Pp _ e) (Pq _) ?_,rfl,q _ d⟩;exact⟨z,us,r,⟨_,PH _ rfl,rfl,_,rfl⟩⟩
def bN(h:PA X es t):PE X (.List es pos) (eJ t):=by intro ac s σ H Q I c;refine wpAny_List_spliced (cD (h pos ac s σ H _ I c) λus s1 ⟨xs,H1,a,r,z,q⟩=>⟨by rw[<- r.length];exact z,?_⟩);have d:H1 s1.heap.objs.size=none:=a.aT.fresh (Pq _);refine⟨.ref s1.heap.objs.size,upd H1 s1.heap.objs.size (.lst xs),a.laid (t':=s1.toks) (λb u e=>Pp _ e) (Pq _) ?_,rfl,q _ d⟩;exact⟨z,us,0,r,PH _ rfl⟩
end
abbrev Sp:=List V->Hp->VK->XK->Prop
abbrev zf:=List Env->Hp->Ux->XK->UA->Ux->Prop
structure vn(P:Uz) (w:World) (K:Uy) (mg:Str->Option UA) (base:Heap) (A:UB) (outer:List Env) (s:Ux) (H:Hp):Prop where
 frames:A.frames=some outer
 mod:Mod K mg base
 bs:∀b o,base.get? b=some o->s.heap.get? b=some o/\H b=none
 B3:base.objs.size<=s.heap.objs.size
 ku:s.heap.FunFrames base outer
 E5:∀b∈ij outer,H b=none
 aT:HOk P w H s.heap
 bare:AllBare s.gens
 kt:LP K H
def CE(outer:List Env)(P:Uz)(w:World)(H:Hp)(s:Ux)(Q:VK)(u:UA)(a:Ux):Prop:=∃v H',a.os=s.os/\AllBare a.gens/\Un (ij outer) [] H H' s.heap a.heap/\HOk P w H' a.heap/\RelV v u/\Q v H'
def CR(CX:zf)(outer:List Env)(P:Uz)(w:World)(H:Hp)(s:Ux)(Q:VK)(E:XK)(r:Result)(a:Ux):Prop:=
 match r with
 |.ok (.ret u)=>CE outer P w H s Q u a
 |.ok _=>False
 |.error e=>CX outer H s E e a
structure bJ(P:Uz) (w:World) (K:Uy) (mg:Str->Option UA) (base:Heap) (CX:zf) (k:Nat) (f:Addr) (fd:FuncData) (ps:List Str) (sp:Sp):Prop where
 len:∀vs H Q E,sp vs H Q E->vs.length=ps.length
 run:∀(A:UB)(outer:List Env)(s:Ux)(H:Hp)(args:Args)(us:List UA)(vs:List V)(Q:VK)(E:XK),dE k A->vn P w K mg base A outer s H->BindsTo s fd args (ps.zip us)->Vals vs us->sp vs H Q E->
  codeAny (model P w) A (.call (.ref f) args) (CR CX outer P w H s Q E) s
def bJ.imp{P:Uz}{w:World}{K:Uy}{mg:Str->Option UA}{base:Heap}{CX:zf}(F:bJ P w K mg base CX k f fd ps sp)
 (h:∀vs H Q E,sp' vs H Q E->sp vs H Q E):bJ P w K mg base CX k f fd ps sp':=
 ⟨λvs H Q E q=>F.len vs H Q E (h _ _ _ _ q),λA outer s H args us vs Q E a b hb c hs=>F.run A outer s H args us vs Q E a b hb c (h _ _ _ _ hs)⟩
def vn.make{P:Uz}{w:World}{K:Uy}{mg:Str->Option UA}{base:Heap}(e:vn P w K mg base A outer s H)(C:Addr)(us:List UA)(a:List (Str×UA)) :
 vn P w K mg base (A.under (.builtin "type.__call__" ⟨.ref C::us,a⟩)) outer s H:=⟨by first|exact e.frames|(simpa[Around.under,Code.envs,Code.isFrame,pushEnvs]using e.frames),e.mod,e.bs,e.B3,e.ku,e.E5,e.aT,e.bare,e.kt⟩
section
def Inv.ID(I:Inv X ac σ H s):vn X.prog X.w X.K X.mg X.base X.A X.stack s H:=⟨I.ok.frames,I.ok.mod,I.bs,Qb I.ok.B3 I.sz,I.stack,I.qJ,I.aT,I.bare,I.kt⟩
def Inv.after(I:Inv X ac σ H s)(h:CE X.stack X.prog X.w H s Q u s'):EP X ac σ Q u s':=by obtain⟨v,H',os,bare,un,aT,r,q⟩:=h;obtain⟨c,g,d,t,a⟩:=s';obtain rfl:a=s.os:=os;exact⟨v,H',I.call (h':=c) (g':=g) (d':=d) (t':=t) (ch:=[]) un aT bare (λb z=>absurd z (by simp)),r,q⟩
end
def bO(sp:Sp)(dvs:List V)(E:XK)(t:TA):TE:=λσ H Q=>t σ H λvs H1=>sp (vs++dvs) H1 Q E
def eS(C:Addr)(m:Str)(sp:Sp)(dvs:List V)(E:XK)(ta:TE)(t:TA):TE:=λσ H Q=>ta σ H λx H1=>∃a dx fs,x=.ref a/\H1 a=some (.ins C dx fs)/\fs.lookup m=none/\
 t σ H1 λvs b=>sp (x::(vs++dvs)) b Q E
def vD(C:Addr)(sp:Sp)(dvs:List V)(E:XK)(t:TA):TE:=λσ H Q=>t σ H λvs H1=>∀x dx,H1 x=none->H1 dx=none->dx≠x->
 sp (.ref x::(vs++dvs)) (upd (upd H1 dx (.own x)) x (.ins C dx [])) (λv a=>v=.bB/\Q (.ref x) a) E
def Binds(K:Uy)(fd:FuncData)(ps:List Str)(ds:List UA):Prop:=∀(s:Ux)(us:List UA),K.In s.heap->(us++ds).length=ps.length->BindsTo s fd ⟨us,[]⟩ (ps.zip (us++ds))
def Binds.all{K:Uy}(h:∀us:List UA,us.length=ps.length->bindArgs fd ⟨us,[]⟩=pure (ps.zip us)):Binds K fd ps []:=λs us _ a=>by rw[QR]at a ⊢;exact .of_eq (h us a)
def gc(CX:zf)(X:Cx)(E:XK):Prop:=∀(ac:List (Addr×Obj))(σ:St)(H:Hp)(s:Ux)(e:UA)(a:Ux),Inv X ac σ H s->CX X.stack H s E e a->X.xe e a
section
def tW(F:bJ X.prog X.w X.K X.mg X.base CX k f fd ps sp)(c:dE k X.A)(hb:Binds X.K fd ps ds)(hd:Vals dvs ds)(d:gc CX X E)
 (I:Inv X ac σ H s) (r:Vals vs us) (h:sp (vs++dvs) H Q E):wX X (call (.ref f) us) (EP X ac σ Q) X.xe s:=by
 have b:Vals (vs++dvs) (us++ds):=r.append hd;have g:(us++ds).length=ps.length:=by rw[<- b.length];exact F.len _ _ _ _ h
 refine wpAny_call (S1 (F.run X.A X.stack s H ⟨us,[]⟩ (us++ds) (vs++dvs) Q E c I.ID (hb s us I.jK g) b h) λr i a=>?_);cases r with
 |error e=>exact d ac σ H s e i I a
 |ok fl=>
  cases fl with
  |ret u=>exact I.after a
  |next=>exact False.elim a
  |brk=>exact False.elim a
  |cont=>exact False.elim a
def aR(F:bJ X.prog X.w X.K X.mg X.base CX k f fd ps sp)(d:dE k X.A)(g:Gl X x)(hm:X.mg x=some (.ref f))(i:keepIn X.K (.ref f)=true)(hb:Binds X.K fd ps ds)(hd:Vals dvs ds)(j:gc CX X E)
 (ha:PA X (e::es) t) (a:autoParam (dB x) ae) (l:autoParam (sE X e es) az) (b:autoParam (bT X pos es) az) :
 PE X (.Call (.Name x p) (e::es) [] pos) (bO sp dvs E t):=by
 intro ac s σ H Q I h;refine RJ (iX I g hm ?_ a);refine S6 (h₀:=X.base) I.ok.mod.IB i (cD (ha pos ac s σ H _ I h) λus s1 ⟨vs,H1,c,r,q⟩=>⟨c.jK,?_⟩) l b;exact tW F d hb hd j c r q
def eZ(n:PE X o ta)(c:qC X.K C)(hm:Meth X.K C m f)(F:bJ X.prog X.w X.K X.mg X.base CX k f fd ps sp)(p:dE k X.A)(hb:Binds X.K fd ps ds)(hd:Vals dvs ds)(v:gc CX X E)(ha:PA X (e::es) t)
 (b:autoParam (starEach (e::es) X.env=(false,eval e X.env)::starEach es X.env) az) (d:autoParam (bT X pos es) az)
 (y:autoParam (eval (.Call (.Attribute o m apos) (e::es) [] pos) X.env=(do
   let g <- eval o X.env
   standAt apos.atName
   let (f,first) <- holding [g] (getMethod g m pl)
   callWith pos f first (backTo pos (starEach (e::es) X.env)) (backToKw pos (keywordEach [] X.env)))) az) :
 PE X (.Call (.Attribute o m apos) (e::es) [] pos) (eS C m sp dvs E ta t):=by
 intro ac s σ H Q I h;refine PySem.W.methodCall_KW (pl:=pl) (cD (n ac s σ H _ I h) λu s1 z=>?_) y;obtain⟨x,H1,i,B,a,dx,fs,rfl,D,l,q⟩:=z;obtain rfl:u=Value.ref a:=B;refine lS i D c hm l ?_;refine S6 (first:=[.ref a]) (h₀:=X.base) I.ok.mod.IB hm.kp (cD (ha pos ac s1 σ H1 _ i q) λus s2 ⟨vs,G,j,r,q2⟩=>⟨j.jK,?_⟩) b d;exact tW (us:=.ref a::us) (vs:=.ref a::vs) F p hb hd v j (.cons rfl r) q2
def lT(e:PE X o ta)(c:qC X.K C)(hm:Meth X.K C m f)(F:bJ X.prog X.w X.K X.mg X.base CX k f fd ps sp)(g:dE k X.A)(hb:Binds X.K fd ps ds)(hd:Vals dvs ds)(i:gc CX X E)
 (j:autoParam (eval (.Call (.Attribute o m apos) [] [] pos) X.env=(do
   let d <- eval o X.env
   standAt apos.atName
   let (f,first) <- holding [d] (getMethod d m pl)
   callWith pos f first (backTo pos (starEach [] X.env)) (backToKw pos (keywordEach [] X.env)))) az) :
 PE X (.Call (.Attribute o m apos) [] [] pos) (eS C m sp dvs E ta aF):=by
 intro ac s σ H Q I h;refine PySem.W.methodCall_KW (pl:=pl) (cD (e ac s σ H _ I h) λu s1 z=>?_) j;obtain⟨x,H1,b,n,a,dx,fs,rfl,p,l,q⟩:=z;obtain rfl:u=Value.ref a:=n;refine lS b p c hm l ?_;exact PySem.W.callWith_K0 (first:=[.ref a]) b.jK hm.kp (tW (us:=[.ref a]) (vs:=[.ref a]) F g hb hd i b (.cons rfl .nil) q)
structure Mk(K:Uy) (C f:Addr):Prop where
 makes:PySem.W.makesIn K C=true
 init:findIn K (.ref C) "__init__"=some (some (.ref f))
 fn:isFn K (.ref f)=true
 kp:keepIn K (.ref C)=true
def qX(M:Mk X.K C f)(F:bJ X.prog X.w X.K X.mg X.base CX k f fd ps sp)(g:dE (k+1) X.A)(hb:Binds X.K fd ps ds)(hd:Vals dvs ds)
 (i:gc CX X E) (I:Inv X ac σ H s) (r:Vals vs us)
 (h:∀x dx,H x=none->H dx=none->dx≠x->sp (.ref x::(vs++dvs)) (upd (upd H dx (.own x)) x (.ins C dx [])) (λv j=>v=.bB/\Q (.ref x) j) E) :
 wX X (call (.ref C) us) (EP X ac σ Q) X.xe s:=by
 have c:=h (s.heap.objs.size+1) s.heap.objs.size (I.aT.fresh (Ui _)) (I.aT.fresh (Pq _)) (P7 (Rt _));have b:=Inv.made (C:=C) I;have d:Vals (V.ref (s.heap.objs.size+1)::(vs++dvs)) (Value.ref (s.heap.objs.size+1)::(us++ds)):=.cons rfl (r.append hd);have l:(Value.ref (s.heap.objs.size+1)::us++ds).length=ps.length:=by have e:=d.length;rw[F.len _ _ _ _ c]at e;exact e.symm
 refine wpAny_call (zd (f:=f) I.jK M.makes M.init (Sz.mp M.fn) (S1 (F.run _ X.stack _ _ ⟨Value.ref (s.heap.objs.size+1)::us,[]⟩ (Value.ref (s.heap.objs.size+1)::(us++ds)) _ _ E (g.make C us [])
  (b.ID.make C us []) (hb _ (Value.ref (s.heap.objs.size+1)::us) b.jK l) d c) λr m a=>?_))
 cases r with
 |error e=>exact i ac σ _ _ e m b a
 |ok fl=>
  cases fl with
  |ret u=>obtain⟨v,H',n,o,p,q⟩:=b.after a;subst p;exact⟨o,⟨V.ref (s.heap.objs.size+1),H',n,rfl,q⟩⟩
  |next=>exact False.elim a
  |brk=>exact False.elim a
  |cont=>exact False.elim a
def CW(M:Mk X.K C f)(F:bJ X.prog X.w X.K X.mg X.base CX k f fd ps sp)(d:dE (k+1) X.A)(g:Gl X x)(hm:X.mg x=some (.ref C))(hb:Binds X.K fd ps ds)(hd:Vals dvs ds)(i:gc CX X E)
 (ha:PA X (e::es) t) (a:autoParam (dB x) ae) (j:autoParam (sE X e es) az) (b:autoParam (bT X pos es) az) :
 PE X (.Call (.Name x p) (e::es) [] pos) (vD C sp dvs E t):=by
 intro ac s σ H Q I h;refine RJ (iX I g hm ?_ a);refine S6 (h₀:=X.base) I.ok.mod.IB M.kp (cD (ha pos ac s σ H _ I h) λus s1 ⟨vs,H1,c,r,q⟩=>⟨c.jK,?_⟩) j b;exact qX M F d hb hd i c r q
def zg(M:Mk X.K C f)(F:bJ X.prog X.w X.K X.mg X.base CX k f fd ps sp)(b:dE (k+1) X.A)(c:Gl X x)(hm:X.mg x=some (.ref C))(hb:Binds X.K fd ps ds)(hd:Vals dvs ds)(d:gc CX X E)
 (a:autoParam (dB x) ae):PE X (.Call (.Name x p) [] [] pos) (vD C sp dvs E aF):=by
 intro ac s σ H Q I h;refine RJ (iX I c hm ?_ a);exact PySem.W.callWith_K0 I.jK M.kp (qX (us:=[]) M F b hb hd d I .nil h)
end
structure aP(N P:List Str) (sc:Scope):Prop where
 kind:sc.kind=.function
 co:sc.isCoroutine=false
 gen:sc.isGenerator=false
 nd:N.Nodup
 pre:N.take P.length=P
 par:∀x∈P,sc.names.lookup x=some .local\/sc.names.lookup x=some .cell
 IE:∀y∈sc.names,y.2≠.free
theorem oA{kindOf:Str->Option NameKind}:∀{binds:List (Str×UA)}{m:Str->Option UA},(∀v,(x,v)∉binds)->bindL kindOf binds m x=m x
 |[],_,_=>rfl
 |(n,v)::r,m,h=>by
  unfold bindL;rw[oA λw a=>h w (Pw _ a)];split
  .have:x≠n:=by rintro rfl;exact h v Pu
   simp[this]
  .rfl
theorem oB{kindOf:Str->Option NameKind}:∀{binds:List (Str×UA)}{m:Str->Option UA},(∀v,(x,v)∉binds)->bindC kindOf binds m x=m x
 |[],_,_=>rfl
 |(n,v)::r,m,h=>by
  unfold bindC;rw[oB λw a=>h w (Pw _ a)];split
  .rfl
  .have:x≠n:=by rintro rfl;exact h v Pu
   simp[this]
theorem oC{kindOf:Str->Option NameKind}:∀{P:List Str}{vs:List UA}{i:Nat}{m:Str->Option UA},P.Nodup->P[i]?=some x->vs[i]?=some v->kindOf x=some .local->
 bindL kindOf (P.zip vs) m x=some v
 |[],_,_,_,_,h,_,_=>by simp at h
 |_::_,[],_,_,_,_,h,_=>by simp at h
 |p::P,w::vs,0,m,nd,h1,h2,a=>by simp at h1 h2;subst h1;subst h2;show bindL kindOf ((p,w)::P.zip vs) m p=_;unfold bindL;rw[oA λv b=>(Qu.mp nd).1 (List.of_mem_zip b).1,PN a];simp
 |p::P,w::vs,i+1,m,nd,h1,h2,a=>by show bindL kindOf ((p,w)::P.zip vs) m x=_;unfold bindL;exact oC (i:=i) (Qu.mp nd).2 (by simpa using h1) (by simpa using h2) a
theorem oE{kindOf:Str->Option NameKind}:∀{P:List Str}{vs:List UA}{i:Nat}{m:Str->Option UA},P.Nodup->P[i]?=some x->vs[i]?=some v->kindOf x≠some .local->
 bindC kindOf (P.zip vs) m x=some v
 |[],_,_,_,_,h,_,_=>by simp at h
 |_::_,[],_,_,_,_,h,_=>by simp at h
 |p::P,w::vs,0,m,nd,h1,h2,a=>by simp at h1 h2;subst h1;subst h2;show bindC kindOf ((p,w)::P.zip vs) m p=_;unfold bindC;rw[oB λv b=>(Qu.mp nd).1 (List.of_mem_zip b).1,PK a];simp
 |p::P,w::vs,i+1,m,nd,h1,h2,a=>by show bindC kindOf ((p,w)::P.zip vs) m x=_;unfold bindC;exact oE (i:=i) (Qu.mp nd).2 (by simpa using h1) (by simpa using h2) a
def br(N:List Str)(vs:List V):St:=vs.map some++List.replicate (N.length-vs.length) none
def tX(CX:zf)(P:Uz)(w:World)(K:Uy)(mg:Str->Option UA)(base:Heap)(N:List Str)(qual:Str)(scope:Scope)(f:Addr)(cd:UA)(A:UB)(outer:List Env)(s:Ux)(H:Hp)(E:XK):Cx where
 prog:=P
 w:=w
 K:=K
 mg:=mg
 base:=base
 A:=A.deeper (envOfC qual scope s.heap.objs.size f cd)
 N:=N
 s₀:=s
 H₀:=H
 env:=envOfC qual scope s.heap.objs.size f cd
 outer:=outer
 stack:=envOfC qual scope s.heap.objs.size f cd::outer
 ex:=[]
 calm:=true
 fn:=λ_=>true
 pn:=[]
 xe:=λe s'=>wpAny (model P w) (A.deeper (envOfC qual scope s.heap.objs.size f cd)) (leaving (envOfC qual scope s.heap.objs.size f cd) e) (λ_ s''=>CX outer H s E e s'') (λe' s''=>CX outer H s E e' s'') s'
def qY{a:Scope}(h:a.names.lookup x=some .cell):∃c,(cellsFrom n a.names []).lookup x=some c:=by have q:=PySem.W.cellsFrom_some a.names n [] (.inl h);exact Option.isSome_iff_exists.mp q
def wW{CX:zf}{P:Uz}{w:World}{K:Uy}{mg:Str->Option UA}{base:Heap}{N ps:List Str}{qual:Str}{scope:Scope}
 (S:aP N ps scope) (hd:A.handled=none) (a:vn P w K mg base A outer s H) (B:vs.length=ps.length) (r:Vals vs us)
 (x:InCallC s s.heap.objs.size (bindL (envOfC qual scope s.heap.objs.size f cd).kindOf (ps.zip us) λ_=>none) (cellsFrom (s.heap.objs.size+1) scope.names []) (bindC (envOfC qual scope s.heap.objs.size f cd).kindOf (ps.zip us) λ_=>none) s1) :
 Inv (tX CX P w K mg base N qual scope f cd A outer s H E) [] (br N vs) H s1:=by
 have o:ps.length<=N.length:=by have:=Q1 List.length S.pre;rw[QN]at this;lia
 obtain⟨h1,tk,rfl,l⟩:=x.done;have d:∀b:Addr,b∉(tX CX P w K mg base N qual scope f cd A outer s H E).ex:=λb z=>absurd (show b∈([]:List Addr)from z) (by simp);refine⟨⟨a.mod,S.kind,rfl,rfl,Pq _,λy z c h1 h2=>?_,λy hy=>?_,λy c _ h=>?_,λ_=>hd,Around.frames_deeper a.frames,.inr ⟨rfl,rfl⟩,λb z=>absurd z (d b),a.bs,a.B3,λb _ _=>d b,λb z=>absurd z (d b),a.ku,a.E5,a.kt⟩,
  rfl,a.bare,Un.kept l,⟨_,x.toInCall.ns,λi y v h1 h2 h3=>?_⟩,λy c h=>⟨_,x.cell y c h⟩,a.aT.fresh (Pq _),λy c h=>?_,λp g=>absurd (show p∈([]:List (Addr×Obj))from g) (by simp),a.aT.kept l,?_⟩
 .exact name_of_addr x.apart (RE h1) (RE h2)
 .have hy:scope.names.lookup y=some .cell\/scope.names.lookup y=some .free:=hy;rcases hy with hy|hy
  .exact qY hy
  .exact absurd rfl (S.IE _ (RE hy))
 .exact Re (x.above y c (RE h))
 .have C:i<vs.length:=by
   grind [br]
  have ha:vs[i]?=some v:=by grind [br]
  obtain⟨u,m,t⟩:=r.get ha;have g:ps[i]?=some y:=by rw[<- S.pre,List.getElem?_take_of_lt (by lia)];exact h1
  have j:ps.Nodup:=by rw[<- S.pre];exact S.nd.sublist (List.take_sublist _ _)
  refine⟨u,t,?_⟩;rcases S.par y (PY g)with k|k
  .exact .inl ⟨k,oC j g m k⟩
  .obtain⟨c,e⟩:=qY (n:=s.heap.objs.size+1) k;refine .inr ⟨.inl k,c,e,?_⟩;have q:=x.cell y c e;rw[oE j g m (by show scope.names.lookup y≠_;rw[k];decide)]at q;exact q
 .exact a.aT.fresh (Re (x.above y c (RE h)))
 .unfold br;show _=N.length;rw[PJ,Ps,List.length_replicate];lia
def E_{CX:zf}{P:Uz}{w:World}{K:Uy}{mg:Str->Option UA}{base:Heap}{k:Nat}{f:Addr}{name qual:Str}{a:Arguments}{c:List Stmt}{scope:Scope}{C kV doc pm cdv ct oc:UA}{an od:Option Addr}
 {osl:Array (Option UA)} {N ps:List Str} {sp:Sp} (lk:K.lookup f=some ⟨oc,od,.func (fnOf name qual a c scope C kV doc pm an cdv ct),osl⟩) (m:codeIn K cdv qual=true) (S:aP N ps scope)
 (len:∀vs H Q E,sp vs H Q E->vs.length=ps.length)
 (g:∀(A:UB)(outer:List Env)(s:Ux)(H:Hp)(vs:List V)(Q:VK)(E:XK),dE k (A.deeper (envOfC qual scope s.heap.objs.size f cdv))->sp vs H Q E->
   ∃t,PSs (tX CX P w K mg base N qual scope f cdv A outer s H E) c t/\t {nx:=λ_ H'=>Q .bB H',rt:=Q} (br N vs) H) :
 bJ P w K mg base CX (k+1) f (fnOf name qual a c scope C kV doc pm an cdv ct) ps sp:=by
 refine⟨len,λA outer s H args us vs Q E p i hb r j=>?_⟩;have F:=len _ _ _ _ j;have D:K.In s.heap:=i.mod.IB.keeps λb o e=>(i.bs b o e).1;have lim:s.heap.NoLimit:=i.mod.nolimit.keeps λb o e=>(i.bs b o e).1;have h:∀y∈ps.zip us,scope.names.lookup y.1=some .local\/(scope.names.lookup y.1=some .cell/\((cellsFrom (s.heap.objs.size+1) scope.names []).lookup y.1).isSome=true):=λ⟨n,v⟩ G=>by
  rcases S.par n (List.of_mem_zip G).1 with q|q
  .exact .inl q
  .exact .inr ⟨q,PySem.W.cellsFrom_some _ _ _ (.inl q)⟩
 refine codeAny_call_function p.depth (D _ _ lk) rfl S.co S.gen rfl (PySem.W.codeRec_of D m) (hb _ _ _ _ ?_);refine wpAny_newFunctionEnv_cells S.kind h λenv L s1 x=>?_;subst L;refine⟨lim.keeps x.toInCall.keep,codeAny_func ?_⟩;obtain⟨t,M,O⟩:=g A outer s H vs Q E (p.deeper _) j;have I:Inv (tX CX P w K mg base N qual scope f cdv A outer s H E) [] (br N vs) H s1:=wW S p.hd i F r x;refine Rl (M [] s1 (br N vs) H _ I O) (λfl z hs=>?_) λe z hs=>hs;have l:∀{d:St}{H':Hp}{v:V}{u:UA},Inv (tX CX P w K mg base N qual scope f cdv A outer s H E) [] d H' z->RelV v u->Q v H'->CE outer P w H s Q u z:=λ{d H' v u} J B q=>⟨v,H',J.os,J.bare,J.base,J.aT,B,q⟩;cases fl with
 |ret u=>obtain⟨v,d,H',J,B,q⟩:=hs;exact l J B q
 |next=>obtain⟨d,H',J,q⟩:=hs;exact l (v:=V.bB) (u:=Value.none) J rfl q
 |brk=>obtain⟨_,_,_,q⟩:=hs;exact False.elim q
 |cont=>obtain⟨_,_,_,q⟩:=hs;exact False.elim q
section
variable{X:Cx}{x:Str}{p pos:Pos}{e:Expr}{es:List Expr}{t:TA}{id T:String}{r:List V->Hp->VK->Prop}
def fQ(r:List V->Hp->VK->Prop)(t:TA):TE:=λσ H Q=>t σ H λvs H1=>r vs H1 Q
theorem a_(c:bV X (.builtin id) r) (d:Gl X x) (hm:X.mg x=none) (f:bootBuiltins x=some (.builtin id)) (ha:PA X (e::es) t) (g:autoParam (x≠"__name__") ae) (a:autoParam (dB x) ae)
 (i:autoParam (starEach (e::es) X.env=(false,eval e X.env)::starEach es X.env) az) (b:autoParam (bT X pos es) az):PE X (.Call (.Name x p) (e::es) [] pos) (fQ r t):=by
 intro ac s σ H Q I h;refine RJ (kA I d hm f ?_ g a);exact PyProof.Rows.callWith_builtin1 (cD (ha pos ac s σ H _ I h) λus s1 ⟨vs,H1,j,k,q1⟩=>c ac s1 σ H1 vs us Q j k q1) i b
theorem bW(c:bV X (.type T) r) (d:Gl X x) (hm:X.mg x=none) (f:bootBuiltins x=some (.type T)) (ha:PA X (e::es) t) (g:autoParam (x≠"__name__") ae) (a:autoParam (dB x) ae)
 (i:autoParam (starEach (e::es) X.env=(false,eval e X.env)::starEach es X.env) az) (b:autoParam (bT X pos es) az):PE X (.Call (.Name x p) (e::es) [] pos) (fQ r t):=by
 intro ac s σ H Q I h;refine RJ (kA I d hm f ?_ g a);exact Su (cD (ha pos ac s σ H _ I h) λus s1 ⟨vs,H1,j,k,q1⟩=>c ac s1 σ H1 vs us Q j k q1) i b
end
end L2
namespace HT
open PySem PyProof.Rows
section
def sIx(n d:Nat):Option Int->Nat
 |none=>d
 |some v=>if v<0 then(v+(n:Int)).toNat else min v.toNat n
def sIx_nat(n d k:Nat):sIx n d (some (k:Int))=min k n:=by show(if(k:Int)<0 then((k:Int)+(n:Int)).toNat else min (k:Int).toNat n)=min k n;rw[PK (by lia),SB]
def Gi(n d:Nat)(hd:d<=n)(o:Option Int):sIx n d o<=n:=by
 cases o with
 |none=>exact hd
 |some v=>
  show(if v<0 then(v+(n:Int)).toNat else min v.toNat n)<=n
  grind
def vE(v:Int)(n d:Nat):(if v<0 then max (v+(n:Int)) 0 else min v (n:Int))=((sIx n d (some v):Nat):Int):=by
 show(if v<0 then max (v+(n:Int)) 0 else min v (n:Int))=(((if v<0 then(v+(n:Int)).toNat else min v.toNat n):Nat):Int)
 grind
def tY(lo a:Option Int)(n:Nat):Builtin.Slice.sliceAdjust lo a 1 (n:Int)=(((sIx n 0 lo:Nat):Int),((sIx n n a:Nat):Int)):=by
 have h1:¬((1:Int)<0):=by lia
 unfold Builtin.Slice.sliceAdjust;simp only[h1,Q5];refine TY ?_ ?_
 .cases lo with
  |none=>rfl
  |some v=>exact vE v n 0
 .cases a with
  |none=>rfl
  |some v=>exact vE v n n
def tZ(i j:Nat):Builtin.Slice.slicePlaces (i:Int) (j:Int) 1=j-i:=by
 unfold Builtin.Slice.slicePlaces
 grind
def lU(p:IsPart v o)(h:Q o s):wpAny (model prog w) A (Builtin.Slice.slicePartIndex v) Q E s:=by
 cases p with
 |none=>exact slicePart_none h
 |int i t=>exact slicePart_int h
def sliceApplied_gen{lo a:Option Int}{n:Nat}{Q:Int×Int×Nat->Ux->Prop}(hs:s.heap.IsSliceOf sl vl vu .none)(pl:IsPart vl lo)(d:IsPart vu a)
 (h:Q (((sIx n 0 lo:Nat):Int),1,sIx n n a-sIx n 0 lo) s):wpAny (model prog w) A (Builtin.Slice.sliceApplied (.ref sl) (pure (n:Int))) Q E s:=by
 obtain⟨os,b,e,c⟩:=id hs;unfold Builtin.Slice.sliceApplied Builtin.Slice.sliceFields;refine KE (KE (To b c (x:=vl) rfl (KE (To b c (x:=vu) rfl (KE (To b c (x:=.none) rfl (Po ?_)))))));refine KE (slicePart_none ?_);show wpAny _ _ (if((1:Int)==0)=true then _ else _) _ _ s;rw[PK (by decide)];refine KE (lU pl (KE (lU d (KE (Po ?_)))));show wpAny _ _ (match Builtin.Slice.sliceAdjust lo a 1 (n:Int)with|(lo,a)=>pure (lo,(1:Int),Builtin.Slice.slicePlaces lo a 1)) _ _ s;rw[tY lo a n];show wpAny _ _ (pure (((sIx n 0 lo:Nat):Int),(1:Int),Builtin.Slice.slicePlaces ((sIx n 0 lo:Nat):Int) ((sIx n n a:Nat):Int) 1)) _ _ s;rw[tZ];exact Po h
def zh(xs:Array UA)(i k:Nat):((List.range k).filterMap λ(m:Nat)=>xs[((i:Int)+(m:Int)*1).toNat]?).toArray=((xs.toList.drop i).take k).toArray:=by
 have e:(λ(m:Nat)=>xs[((i:Int)+(m:Int)*1).toNat]?)=λm=>xs[i+m]?:=by grind
 rw[e];have:=pick_run xs i k;rw[List.filterMap_map]at this;have e2:((λx=>xs[x]?) ∘ λx=>i+x)=λm=>xs[i+m]?:=rfl;rw[e2]at this;rw[this]
def getItem_tuple_cut{i j:UA}{lo b:Option Int}{Q:UA->Ux->Prop}(c:IsTup s.heap t items)(hs:s.heap.IsSliceOf sl i j .none)(pl:IsPart i lo)(k:IsPart j b)
 (n:¬(sIx items.size 0 lo=0/\sIx items.size items.size b=items.size))
 (h:Q (.ref s.heap.objs.size) { s with heap:=s.heap.push { cls:=.type "tuple",data:=.seq ((items.toList.drop (sIx items.size 0 lo)).take (sIx items.size items.size b-sIx items.size 0 lo)).toArray } })
 (hsz:items.size<=sizeLine):wpAny (model prog w) A (getItem (.ref t) (.ref sl)) Q E s:=by
 have a:sizeOk (.seq ((items.toList.drop (sIx items.size 0 lo)).take (sIx items.size items.size b-sIx items.size 0 lo)).toArray):=by
  show((items.toList.drop (sIx items.size 0 lo)).take (sIx items.size items.size b-sIx items.size 0 lo)).toArray.size<=sizeLine
  grind
 have o:sIx items.size items.size b<=items.size:=Gi _ _ (Pq _) b;obtain⟨os,d,e,l⟩:=id hs;have f:s.TypeIs (.ref sl) "slice":=⟨os,d,e⟩;unfold getItem
 try with_reducible refine Qz ?_
 first|refine KE (Po ?_)|skip
 refine KE (wpAny_sequenceKey c.typeIs (by decide) ?_);refine KE (Q7 (name:=Str.ofString "__getitem__") c.typeIs QZ
  (QF QZ c.typeIs entry_tuple_getitem ?_ (args_tuple_getitem _ _)))
 show wpAny _ _ (Builtin.Tuple.tupleItemsOf (.ref t) >>= _) _ _ s;refine KE (tupleItemsOf_ c ?_);refine KE (R9 f ?_);rw[PN (by decide)];refine KE (sliceApplied_gen hs pl k ?_);have g:¬((((sIx items.size 0 lo:Nat):Int)==0&&(1:Int)==1&&(sIx items.size items.size b-sIx items.size 0 lo)==items.size)=true):=by grind
 show wpAny _ _ (if(((sIx items.size 0 lo:Nat):Int)==0&&(1:Int)==1&&(sIx items.size items.size b-sIx items.size 0 lo)==items.size)=true then _ else _) _ _ s;rw[PK g,zh]
 first
  |exact KE (m:=Builtin.Tuple.tupleExact _) (QD (Po ⟨_,rfl,Po h⟩) a)
  |exact KE (m:=Builtin.Tuple.tupleExact _) (QD (KE (Po (Po ⟨_,rfl,Po h⟩))) a)
  |exact KE (KE (m:=Builtin.Tuple.tupleExact _) (QD (Po (Po ⟨_,rfl,Po h⟩)) a))
  |exact KE (KE (m:=Builtin.Tuple.tupleExact _) (QD (Po ⟨_,rfl,Po h⟩) a))
end
end HT
namespace L2
open PySem PySem.Spec PyProof.Rows
abbrev TO:=St->Hp->(Option Int->Hp->Prop)->Prop
def PO(X:Cx)(e:Option Expr)(t:TO):Prop:=
 ∀(ac:List (Addr×Obj))(s:Ux)(σ:St)(H:Hp)(Q:Option Int->Hp->Prop),Inv X ac σ H s->t σ H Q->
  wpAny (model X.prog X.w) X.A (evalPart e X.env) (λu a=>∃o H',Inv X ac σ H' a/\IsPart u o/\Q o H') X.xe s
def lB:TO:=λ_ H Q=>Q none H
def kY(t:TE):TO:=λσ H Q=>t σ H λx H1=>∃i,x=.int i/\Q (some i) H1
section
variable{X:Cx}{e:Expr}{te:TE}{lo hi:Option Expr}{tl th:TO}{pos p2:Pos}
def px:PO X none lB:=by intro ac s σ H Q I h;rw[evalPart_none];exact Po ⟨none,H,I,.none,h⟩
def gC(h:PE X e te):PO X (some e) (kY te):=by intro ac s σ H Q I a;rw[evalPart_some];refine cD (h ac s σ H _ I a) λu s1 ⟨x,H1,b,c,q1⟩=>?_;obtain⟨i,rfl,q⟩:=q1;obtain⟨t,rfl⟩:=c;exact⟨some i,H1,b,.int i t,q⟩
def I0(X:Cx)(r:V->Option Int->Option Int->Hp->VK->Prop):Prop:=
 ∀(ac:List (Addr×Obj))(s:Ux)(σ:St)(H:Hp)(x:V)(v a b:UA)(lo hi:Option Int)(c:Addr)(Q:VK),Inv X ac σ H s->RelV x v->s.heap.IsSliceOf c a b .none->IsPart a lo->IsPart b hi->r x lo hi H Q->
  ∃T id,typeLookup (.type T) "__getitem__"=pure (some (.builtin id))/\s.TypeIs v T/\wpAny (model X.prog X.w) X.A (getItem v (.ref c)) (EP X ac σ Q) X.xe s
def Gj(r:V->Option Int->Option Int->Hp->VK->Prop)(te:TE)(tl th:TO):TE:=λσ H Q=>te σ H λx H1=>tl σ H1 λl a=>th σ a λu b=>r x l u b Q
def iu(f:I0 X r)(g:PE X e te)(i:PO X lo tl)(j:PO X hi th):PE X (.Subscript e (.Slice lo hi none p2) pos) (Gj r te tl th):=by intro ac s σ H Q I h;refine Subscript_ (cD (g ac s σ H _ I h) λv s1 ⟨x,H1,k,m,q1⟩=>?_);refine wpAny_Slice (cD (i ac s1 σ H1 _ k q1) λc s2 ⟨l,n,o,pl,q2⟩=>cD (j ac s2 σ n _ o q2) λvu a ⟨u,d,p,t,w⟩=>?_);rw[evalPart_none];refine Po ?_;have y:Inv X ac σ d { a with heap:=a.heap.push { cls:=.type "slice",data:=.fields #[c,vu,.none] } }:=p.kept (t':=a.toks) λb ob q=>Pp _ q;obtain⟨T,id,z,A,B⟩:=f ac { a with heap:=a.heap.push { cls:=.type "slice",data:=.fields #[c,vu,.none] } } σ d x v c vu l u a.heap.objs.size Q y m (Heap.IsSliceOf.new ..) pl t w;show wX X (subscriptTail e (.Slice lo hi none p2) v (.ref a.heap.objs.size)) (EP X ac σ Q) X.xe { a with heap:=a.heap.push { cls:=.type "slice",data:=.fields #[c,vu,.none] } };exact tail_any (ops:=[.ref a.heap.objs.size,v]) A z B (by with_unfolding_all rfl)
def fB(xs:List V)(lo hi:Option Int):List V:=(xs.drop (HT.sIx xs.length 0 lo)).take (HT.sIx xs.length xs.length hi-HT.sIx xs.length 0 lo)
theorem iz(xs:List V)(lo hi:Option Int):(fB xs lo hi).length<=xs.length:=by unfold fB;rw[QN,SR];lia
def LY(K:Uy):V->Option Int->Option Int->Hp->VK->Prop:=λx lo hi H Q=>∃a xs,x=.ref a/\SqT K H a xs/\
 ¬(HT.sIx xs.length 0 lo=0/\HT.sIx xs.length xs.length hi=xs.length)/\∀p,H p=none->Q (.ref p) (upd H p (.tup (fB xs lo hi)))
theorem Gk:I0 X (LY X.K):=by
 intro ac s σ H x v k l lo hi m Q I f hs pl g h;obtain⟨a,xs,rfl,i,j,q⟩:=h;cases f;obtain⟨its,r,d,hz⟩:=I.tuple i;have c:its.toArray.size=xs.length:=by rw[PL];exact r.length.symm
 refine⟨"tuple",_,QZ.lookup,d.typeIs,?_⟩;refine HT.getItem_tuple_cut d hs pl g (by rw[c];exact j) ?_ (by rw[c];exact hz);rw[c];refine⟨.ref s.heap.objs.size,_,I.laid (t':=s.toks) (o:=.tup (fB xs lo hi)) (λb ob q=>Pp _ q) (Pq _) ?_,rfl,q _ (I.aT.fresh (Pq _))⟩;exact⟨Qb (iz xs lo hi) hz,_,(r.drop (HT.sIx xs.length 0 lo)).take (HT.sIx xs.length xs.length hi-HT.sIx xs.length 0 lo),IsTup.new _ _⟩
end
def Gm(n:Nat)(i:Int):Option Nat:=if 0<=i then(if i<n then some i.toNat else none)else if -(n:Int)<=i then some (i+n).toNat else none
def yO{α:Type}(xs:List α)(i:Int):Option α:=(Gm xs.length i).bind λj=>xs[j]?
def CY(h:Gm n i=some j):seqIndex? i n=some j/\j<n/\-(n:Int)<=i/\i<n:=by
 unfold Gm at h;by_cases h0:0<=i
 .rw[PN h0]at h;by_cases h1:i<n
  .rw[PN h1]at h;have e:i.toNat=j:=QH h;exact⟨by rw[seqIndex_of h0 h1,e],by lia,by lia,h1⟩
  .rw[PK h1]at h;cases h
 .rw[PK h0]at h;by_cases h1:-(n:Int)<=i
  .rw[PN h1]at h;have e:(i+n).toNat=j:=QH h;exact⟨by rw[seqIndex_neg (by lia) h1,e],by lia,h1,by lia⟩
  .rw[PK h1]at h;cases h
def vF{α:Type}{xs:List α}{i:Int}{v:α}(h:yO xs i=some v):∃j,seqIndex? i xs.length=some j/\xs[j]?=some v/\j<xs.length/\-(xs.length:Int)<=i/\i<xs.length:=by
 unfold yO at h;cases e:Gm xs.length i with
 |none=>rw[e]at h;cases h
 |some j=>rw[e]at h;obtain⟨h1,h2,h3,a⟩:=CY e;exact⟨j,h1,h,h2,h3,a⟩
def cV{α:Type}{xs:List α}{j:Nat}{v:α}(h:xs[j]?=some v):yO xs (j:Int)=some v:=by grind [Gm,yO]
def CZ(b:Expr):Prop:=∀o i,subscripted b false o i=operate [o,i] (getItem o i)
def LZ(X:Cx)(r:R2):Prop:=
 ∀(b a:Expr)(ac:List (Addr×Obj))(s:Ux)(σ:St)(H:Hp)(x y:V)(v u:UA)(Q:VK),Inv X ac σ H s->RelV x v->RelV y u->r x y H Q->
  subscripted a false v u=operate [v,u] (getItem v u)->wpAny (model X.prog X.w) X.A (subscriptTail b a v u) (EP X ac σ Q) X.xe s
def C3(X:Cx)(id:String)(r:V->List V->Hp->VK->Prop):Prop:=
 ∀(ac:List (Addr×Obj))(s:Ux)(σ:St)(H:Hp)(x:V)(xs:List V)(v:UA)(us:List UA)(Q:VK),Inv X ac σ H s->RelV x v->Vals xs us->r x xs H Q->
  wpAny (model X.prog X.w) X.A (call (.builtin id) (v::us)) (EP X ac σ Q) X.xe s
section
variable{X:Cx}
def aY(c:LZ X r)(ha:PE X a ta)(hb:PE X b tb)(hs:CZ b):PE X (.Subscript a b pos) (bv r ta tb):=by intro ac s σ H Q I h;exact Subscript_ (Ga ha hb I h λv u s2 x y d e f g q=>c a b ac s2 σ d x y v u Q e f g q (hs _ _))
def pz(K:Uy):R2:=λx y H Q=>∃p xs i v,x=.ref p/\y=.int i/\SqL K H p xs/\yO xs i=some v/\Q v H
def nK(K:Uy):R2:=λx y H Q=>∃p xs i v,x=.ref p/\y=.int i/\SqT K H p xs/\yO xs i=some v/\Q v H
def gD:LZ X (pz X.K):=by
 intro b c ac s σ H x y v u Q I g k h hs;obtain⟨p,xs,i,z,rfl,rfl,l,m,q⟩:=h;cases g;obtain⟨t,rfl⟩:=k;obtain⟨its,r,pl,hz⟩:=I.list l;obtain⟨j,h1,h2,h3,n,o⟩:=vF m;obtain⟨w,f,d⟩:=r.get h2;have A:=r.length;have C:=pj;have a:EP X ac σ Q w s:=⟨z,H,I,d,q⟩;by_cases h0:0<=i
 .have e:i.toNat=j:=by rw[seqIndex_of h0 o]at h1;exact QH h1
  exact item_listR pl.isList h0 (by lia) (by rw[e];simpa using f) a hs
 .have e:(i+(its.toArray.size:Int)).toNat=j:=by rw[seqIndex_neg (by lia) n]at h1;rw[PL,<- A];exact QH h1
  exact subscriptTail_builtinR (x:=w) pl.isList.typeIs slot_list_getitem.lookup
   (wpAny_getItem_list_neg (Q:=λr B=>r=w/\EP X ac σ Q r B) pl.isList (by lia) (by rw[PL]<;>lia) (by lia) (by rw[e];simpa using f) ⟨rfl,a⟩) hs
def aQ:LZ X (nK X.K):=by
 intro a b ac s σ H x y v u Q I e f h hs;obtain⟨p,xs,i,z,rfl,rfl,g,k,q⟩:=h;cases e;obtain⟨t,rfl⟩:=f;obtain⟨its,r,pl,hz⟩:=I.tuple g;obtain⟨j,h1,h2,h3,o,A⟩:=vF k;obtain⟨w,l,c⟩:=r.get h2;have m:=r.length;have B:=pj;have d:EP X ac σ Q w s:=⟨z,H,I,c,q⟩;exact subscriptTail_builtinR (x:=w) pl.typeIs slot_tuple_getitem.lookup
  (getItem_tuple (j:=j) (Q:=λr n=>r=w/\EP X ac σ Q r n) pl (by lia) (by lia) (by rw[PL,<- m];exact h1) (by simpa using l) ⟨rfl,d⟩) hs
def pA(lo a:Option Int)(n:Nat):(sliceBounds lo a none n).1=((HT.sIx n 0 lo:Nat):Int)/\(sliceBounds lo a none n).2.1=((HT.sIx n n a:Nat):Int)/\(sliceBounds lo a none n).2.2=1:=by
 refine⟨?_,?_,rfl⟩
 .cases lo with
  |none=>simp[sliceBounds,HT.sIx]
  |some i=>
   simp only[sliceBounds,HT.sIx,Option.getD_none,show(1:Int)>0 by decide,Sb]
   grind
 .cases a with
  |none=>simp[sliceBounds,HT.sIx]
  |some i=>
   simp only[sliceBounds,HT.sIx,Option.getD_none,show(1:Int)>0 by decide,Sb]
   grind
def nL(its:List UA)(lo a:Option Int):slicePick its.toArray lo a none=((its.drop (HT.sIx its.length 0 lo)).take (HT.sIx its.length its.length a-HT.sIx its.length 0 lo)).toArray:=by obtain⟨h1,h2,h3⟩:=pA lo a its.toArray.size;unfold slicePick;rw[h1,h2,h3];simp only[sliceRange_one,pick_run,PL]<;>rfl
def zi(K:Uy):V->Option Int->Option Int->Hp->VK->Prop:=λx lo b H Q=>∃a xs,x=.ref a/\SqL K H a xs/\∀p,H p=none->Q (.ref p) (upd H p (.lst (fB xs lo b)))
def lC:I0 X (zi X.K):=by intro ac s σ H x v j k lo c l Q I e hs pl f h;obtain⟨a,xs,rfl,g,q⟩:=h;cases e;obtain⟨its,r,d,hz⟩:=I.list g;have i:=r.length;refine⟨"list",_,slot_list_getitem.lookup,d.isList.typeIs,?_⟩;refine wpAny_getItem_list_slice d.isList hs pl f .none (by simp) ?_ (by rw[PL]<;>lia);rw[nL,<- i];refine⟨.ref s.heap.objs.size,_,I.laid (t':=s.toks) (o:=.lst (fB xs lo c)) (λb ob q=>Pp _ q) (Pq _) ?_,rfl,q _ (I.aT.fresh (Pq _))⟩;exact⟨Qb (iz xs lo c) hz,_,0,(r.drop (HT.sIx xs.length 0 lo)).take (HT.sIx xs.length xs.length c-HT.sIx xs.length 0 lo),PH _ rfl⟩
def pB:bV X (.builtin "len") (λxs H Q=>∃p a,xs=[.ref p]/\(SqL X.K H p a\/SqT X.K H p a)/\Q (.int a.length) H):=by
 intro ac s σ H xs us Q I r h;obtain⟨p,a,rfl,hq,q⟩:=h;obtain⟨u,rfl,d⟩:=dU r;cases d;have e:=pj;rcases hq with hq|hq
 .obtain⟨its,b,pl,hz⟩:=I.list hq;have c:=b.length;exact Calls.call_len_list pl.isList (by simp only[PL]<;>lia) ⟨.int a.length,H,I.tok _,⟨s.toks+1,by rw[PL,c]⟩,q⟩
 .obtain⟨its,b,pl,hz⟩:=I.tuple hq;have c:=b.length;exact len_tuple pl (by simp only[PL]<;>lia) ⟨.int a.length,H,I.tok _,⟨s.toks+1,by rw[PL,c]⟩,q⟩
def pC:bV X (.type "list") (λxs H Q=>∃p a,xs=[.ref p]/\(SqL X.K H p a\/SqT X.K H p a)/\∀l,H l=none->Q (.ref l) (upd H l (.lst a))):=by
 intro ac s σ H xs us Q I r h;obtain⟨p,a,rfl,hq,q⟩:=h;obtain⟨u,rfl,k⟩:=dU r;cases k;have f:∀(its:List UA),Vals a its->a.length<=sizeLine->∀(h':Heap)(c:Nat),(∀b j,s.heap.get? b=some j->h'.get? b=some j)->
  h'.get? s.heap.objs.size=some { cls:=.type "list",dict:=none,data:=.seq its.toArray c,slots:=#[] }->EP X ac σ Q (.ref s.heap.objs.size) {s with heap:=h'}:=λits d hz h' c kp e=>
  ⟨.ref s.heap.objs.size,_,I.laid (t':=s.toks) kp (Pq _) (show ObjOk X.prog X.w _ h' _ (.lst a)from⟨hz,its,c,d,e⟩),rfl,q _ (I.aT.fresh (Pq _))⟩
 rcases hq with hq|hq
 .obtain⟨its,d,pl,hz⟩:=I.list hq;have m:=d.length;obtain⟨o,g,i,n,hd⟩:=pl.isList;exact call_list_seq p (.inl rfl) g i hd (λh' c kp e=>f its d hz h' c kp e) (by simp only[PL]<;>lia)
 .obtain⟨its,d,pl,hz⟩:=I.tuple hq;have m:=d.length;obtain⟨o,g,i,n,hd⟩:=pl;exact call_list_seq p (.inr rfl) g i hd (λh' c kp e=>f its d hz h' c kp e) (by simp only[PL]<;>lia)
def I_(K:Uy)(T:String)(x:V)(H:Hp):Prop:=match x with
 |.str _=>T="str"
 |.int _=>T="int"
 |.ref p=>(T="list"/\∃xs,SqL K H p xs)\/(T="tuple"/\∃o,K.lookup p=some o/\o.cls=.type "tuple"/\o.dict=none)\/
  (T="dict"/\((∃kvs,H p=some (.dK kvs))\/∃kvs,H p=some (.dT kvs)))\/(T="set"/\∃S n,H p=some (.set S n))
 |_=>False
def zj(I:Inv X ac σ H s)(r:RelV x v)(ty:I_ X.K T x H) :
 s.TypeIs v T/\∀a,v=.ref a->∃ob,s.heap.get? a=some ob/\ob.dict=none:=by
 cases x with
 |str z=>obtain⟨t,rfl⟩:=r;cases(show T="str" from ty);exact⟨typeIs_str s z t,λ_ e=>nomatch e⟩
 |int i=>obtain⟨t,rfl⟩:=r;cases(show T="int" from ty);exact⟨typeIs_int s i t,λ_ e=>nomatch e⟩
 |ref p=>
  cases r;rcases ty with⟨rfl,xs,d⟩|⟨rfl,o,b,f,hd⟩|⟨rfl,b⟩|⟨rfl,S,n,b⟩
  .obtain⟨its,_,pl,_⟩:=I.list d;refine⟨pl.isList.typeIs,λa e=>?_⟩;cases e;obtain⟨o,n,e,c,hd,_⟩:=pl;exact⟨o,e,hd⟩
  .refine⟨⟨o,I.jK p o b,f⟩,λa e=>?_⟩;cases e;exact⟨o,I.jK _ o b,hd⟩
  .have z:∃o,s.heap.get? p=some o/\o.ExactDict:=by
    rcases b with⟨kvs,b⟩|⟨kvs,b⟩
    .obtain⟨_,_,_,_,o,_,_,e,ex,_⟩:=I.aT p _ b;exact⟨o,e,ex⟩
    .obtain⟨_,_,_,_,o,_,_,e,ex,_⟩:=I.aT p _ b;exact⟨o,e,ex⟩
   obtain⟨o,e,ex⟩:=z;refine⟨⟨o,e,ex.1⟩,λa e2=>?_⟩;cases e2;exact⟨o,e,ex.2.1⟩
  .obtain⟨o,_,_,_,e,ex,_⟩:=I.aT p _ b;refine⟨⟨o,e,ex.1⟩,λa e2=>?_⟩;cases e2;exact⟨o,e,ex.2.1⟩
 |_=>exact False.elim ty
def wY(K:Uy)(T:String)(r:V->List V->Hp->VK->Prop)(to:TE):TE:=λσ H Q=>to σ H λx H1=>I_ K T x H1/\r x [] H1 Q
def qZ(K:Uy)(T:String)(r:V->List V->Hp->VK->Prop)(to:TE)(t:TA):TE:=λσ H Q=>to σ H λx H1=>I_ K T x H1/\t σ H1 λxs a=>r x xs a Q
variable{o e:Expr}{es:List Expr}{to:TE}{t:TA}{name:Str}{apos cpos:Pos}{T id:String}{r:V->List V->Hp->VK->Prop}
def lV(g:PlainAttrs T)(slot:Slot T name id)(c:typeOf (.builtin id)=pure (.type "method_descriptor")) (hm:C3 X id r) (i:PE X o to)
 (a:autoParam (attributeBase o name X.env (eval o X.env)=eval o X.env) az) (b:autoParam ((apos.endLine==cpos.line)=true) az):PE X (.Call (.Attribute o name apos) [] [] cpos) (wY X.K T r to):=by
 intro ac s σ H Q I h;refine wpAny_Call_method0_late a b (cD (i ac s σ H _ I h) λv s1 ⟨x,H1,d,f,ty,q1⟩=>?_);obtain⟨h1,h2⟩:=zj d f ty;exact⟨T,id,g,slot,c,h1,h2,RB rfl (PySem.evalArgs_none (hm ac s1 σ H1 x [] v [] Q d f .nil q1))⟩
theorem cR(k:PlainAttrs T)(slot:Slot T name id)(f:typeOf (.builtin id)=pure (.type "method_descriptor")) (hm:C3 X id r) (l:PE X o to) (ha:PA X (e::es) t)
 (b:autoParam (attributeBase o name X.env (eval o X.env)=eval o X.env) az)
 (d:autoParam (((backTo cpos (starEach (e::es) X.env)).all (λx=>!x.1)&&(backToKw cpos (keywordEach [] X.env)).all (λx=>x.1.isSome)
   && decide ((e::es).length+([]:List Keyword).length+(if([]:List Keyword).isEmpty then 0 else 1)<30))=true) az)
 (c:autoParam ((apos.endLine==cpos.line)=true) az) (hs:autoParam (starEach (e::es) X.env=(false,eval e X.env)::starEach es X.env) az) (a:autoParam (bT X cpos es) az) :
 PE X (.Call (.Attribute o name apos) (e::es) [] cpos) (qZ X.K T r to t):=by
 intro ac s σ H Q I h;refine wpAny_Call_method_late b d c rfl (cD (l ac s σ H _ I h) λv s1 ⟨x,H1,g,i,ty,q1⟩=>?_);obtain⟨h1,h2⟩:=zj g i ty;refine⟨T,id,k,slot,f,h1,h2,?_⟩;have j:=ha cpos ac s1 σ H1 _ g q1;rw[hs]at j ⊢;refine RB (by show(false ||(backTo cpos (starEach es X.env)).any (·.1))=false;rw[a]<;>rfl) (R3 ?_);exact cD j λus s2 ⟨vs,m,n,p,q2⟩=>hm ac s2 σ m x vs v us Q n i p q2
end
def L0(X:Cx)(id:String)(r:V->List V->Hp->VK->Prop):Prop:=
 ∀(ac:List (Addr×Obj))(s:Ux)(σ:St)(H:Hp)(x:V)(xs:List V)(v:UA)(us:List UA)(Q:VK),Inv X ac σ H s->RelV x v->Vals xs us->r x xs H Q->
  wpAny (model X.prog X.w) X.A (call (.builtin id) (v::us)) (EP X ac σ Q) X.xe s
def Vals.one{x:V}{us:List UA}(h:Vals [x] us):∃u,us=[u]/\RelV x u:=dU h
def Vals.zero:∀{us:List UA},Vals [] us->us=[]
 |_,.nil=>rfl
theorem Vals.dropLast(h:Vals xs us):Vals xs.dropLast us.dropLast:=by
 induction h with
 |nil=>exact .nil
 |cons r t a=>
  cases t with
  |nil=>exact .nil
  |cons q t'=>exact .cons r a
def t7{α:Type}(l:List α):l.eraseIdx (l.length-1)=l.dropLast:=by
 induction l with
 |nil=>rfl
 |cons a r c=>
  cases r with
  |nil=>rfl
  |cons b r=>
   have e:(a::b::r).length-1=((b::r).length-1)+1:=by have h1:(a::b::r).length=r.length+2:=rfl;have h2:(b::r).length=r.length+1:=rfl;lia
   rw[e,List.eraseIdx_cons_succ,c]
   all_goals rfl
section
def Inv.Ic{its its':List UA}{f:Array UA->Array UA}(I:Inv X ac σ H s)(a:H l=some (.lst xs))
 (e:s.heap.get? l=some { cls:=.type "list",data:=.seq its.toArray n }) (b:f its.toArray=its'.toArray) (c:Vals ys its') (hz:ys.length<=sizeLine) :
 Inv X ac σ (upd H l (.lst ys)) {s with heap:=s.heap.update l (Obj.mapSeq f),toks:=t'}:=by
 have q:=PySem.IsL.update e f;rw[b]at q;refine I.write (x:=l) (e:=l) (by rw[a];exact trivial) (.inl rfl) (λg u hb d=>(Rb s.heap (Obj.mapSeq f) (QQ hb)).trans d) ⟨_,q⟩ ?_;exact⟨hz,its',_,c,q⟩
def Inv.NH(I:Inv X ac σ H s)(a:Vals ys its)(hz:ys.length<=sizeLine) :
 Inv X ac σ (upd H s.heap.objs.size (.lst ys)) { s with heap:=s.heap.push { cls:=.type "list",data:=.seq its.toArray },toks:=t' }:=
 I.laid (λ_ _ q=>Pp _ q) (Pq _) ⟨hz,its,0,a,PH _ rfl⟩
theorem Inv.fresh(I:Inv X ac σ H s):H s.heap.objs.size=none:=I.aT.fresh (Pq _)
def Inv.yA(I:Inv X ac σ H s)(a:H l=some (.lst xs)):xs.length<=sizeLine/\∃(its:List UA)(n:Nat),Vals xs its/\xs.length=its.length/\s.heap.get? l=some { cls:=.type "list",data:=.seq its.toArray n }:=by obtain⟨z,its,n,r,e⟩:=I.aT l _ a;exact⟨z,its,n,r,r.length,e⟩
def zk(h:n<=sizeLine):Builtin.List.listTooLong n=false:=by unfold Builtin.List.listTooLong;exact QA (by lia)
end
section
def dG:V->List V->Hp->VK->Prop:=λx vs H Q=>∃l xs y,x=.ref l/\vs=[y]/\H l=some (.lst xs)/\xs.length<sizeLine/\Q .bB (upd H l (.lst (xs++[y])))
def b9:L0 X "list.append" dG:=by intro ac s σ H x vs v us Q I b c h;obtain⟨l,xs,y,rfl,rfl,a,hz,q⟩:=h;cases b;obtain⟨u,rfl,ru⟩:=c.one;obtain⟨z,its,n,r,d,e⟩:=I.yA a;refine call_meets F.slot_list_append ⟨_,e,rfl⟩ F.entry_list_append (F.args_list_append_2 _ _) (PySem.list_append l its.toArray n u (by rw[PL];lia)) ⟨e,?_⟩;refine⟨.bB,_,I.Ic (its':=its++[u]) a e (by simp) (r.append (.cons ru .nil)) ?_,rfl,q⟩;rw[PJ,QM];lia
def jO:V->List V->Hp->VK->Prop:=λx vs H Q=>∃l b xs zs,x=.ref l/\vs=[.ref b]/\H l=some (.lst xs)/\H b=some (.lst zs)/\xs.length+zs.length<=sizeLine/\Q .bB (upd H l (.lst (xs++zs)))
def iZ:L0 X "list.extend" jO:=by
 intro ac s σ H x vs v us Q I f g h;obtain⟨l,b,xs,zs,rfl,rfl,d,i,hz,q⟩:=h;cases f;obtain⟨u,rfl,ru⟩:=g.one;cases ru;obtain⟨z,its,n,r,m,e⟩:=I.yA d;obtain⟨o,a,n2,j,k,e2⟩:=I.yA i;have hsz:its.toArray.size+a.toArray.size<=sizeLine:=by rw[PL,PL];lia
 have c:¬(!its.toArray.isEmpty&&Builtin.List.listTooLong (its.toArray.size+a.toArray.size))=true:=by rw[zk hsz,SI];exact Qg
 refine call_meets F.slot_list_extend ⟨_,e,rfl⟩ F.entry_list_extend (F.args_list_extend_2 _ _)
  (AutoSeq1.list_extend_list_list_0 l its.toArray n b a.toArray n2 c (by rw[PL];lia) (by lia)) ⟨e,e2,?_⟩
 refine⟨.bB,_,I.Ic (its':=its++a) d e (by simp) (r.append j) ?_,rfl,q⟩;rw[PJ];lia
def Gn:V->List V->Hp->VK->Prop:=λx vs H Q=>∃l xs y,x=.ref l/\vs=[]/\H l=some (.lst xs)/\xs[xs.length-1]?=some y/\Q y (upd H l (.lst xs.dropLast))
def zl:L0 X "list.pop" Gn:=by
 intro ac s σ H x vs v us Q I d f h;obtain⟨l,xs,y,rfl,rfl,c,g,q⟩:=h;cases d;have a:=f.zero;subst a;obtain⟨z,its,n,r,i,e⟩:=I.yA c;obtain⟨u,j,ru⟩:=r.get g;have b:its.toArray[its.toArray.size-1]?=some u:=by show its.toArray[its.length-1]?=some u;rw[<- Ql,<- i];exact j
 refine call_meets F.slot_list_pop ⟨_,e,rfl⟩ F.entry_list_pop (F.args_list_pop_1 _) (MeetsSeq.list_pop_last l its.toArray n u b (by rw[PL];lia)) ⟨e,?_⟩;refine⟨y,_,I.Ic (its':=its.dropLast) c e ?_ r.dropLast ?_,ru,q⟩
 .show its.toArray.eraseIdxIfInBounds (its.toArray.size-1)=its.dropLast.toArray;rw[PL,List.eraseIdxIfInBounds_toArray,t7]
 .rw[List.length_dropLast];lia
def Gp:R2:=λx y H Q=>∃l b xs zs,x=.ref l/\y=.ref b/\H l=some (.lst xs)/\H b=some (.lst zs)/\xs.length+zs.length<=sizeLine/\∀p,H p=none->Q (.ref p) (upd H p (.lst (xs++zs)))
def zn:nJ X (binaryOp .Add) Gp:=by
 intro ac s σ H x y v u Q I c d h;obtain⟨l,b,xs,zs,rfl,rfl,f,g,hz,q⟩:=h;cases c;cases d;obtain⟨z,its,n,r,m,e⟩:=I.yA f;obtain⟨o,a,n2,i,j,e2⟩:=I.yA g;refine PySem.P.add_list e e2 ?_ (by rw[PL,PL];lia);have k:its.toArray++a.toArray=(its++a).toArray:=by simp
 rw[k];exact⟨.ref _,_,I.NH (t':=s.toks) (r.append i) (by rw[PJ];lia),rfl,q _ I.fresh⟩
end
section
variable{κ:Type}[DecidableEq κ]
def cZ(kvs:List (κ×V))(k:κ):Option V:=(kvs.find? λkv=>decide (kv.1=k)).map (·.2)
def cg(kvs:List (κ×V))(k:κ)(v:V):List (κ×V):=if(kvs.any λkv=>decide (kv.1=k))=true then kvs.map (λkv=>if kv.1=k then(kv.1,v)else kv)else kvs++[(k,v)]
def jk(kvs:List (κ×V))(k:κ):List (κ×V):=kvs.filter λkv=>decide (kv.1≠k)
def fC{p:κ×V}(e:p.1=k):cZ (p::r) k=some p.2:=by simp[cZ,Q9,e]
def fD{p:κ×V}(e:¬p.1=k):cZ (p::r) k=cZ r k:=by simp[cZ,Q9,e]
theorem iA(k:κ):∀kvs:List (κ×V),(kvs.any λkv=>decide (kv.1=k))=(cZ kvs k).isSome
 |[]=>rfl
 |p::r=>by
  rw[Uj];by_cases e:p.1=k
  .simp only[fC e,P3 e,Bool.true_or,Option.isSome_some]
  .rw[fD e,QA e,Bool.false_or];exact iA k r
def eh(kvs:List (κ×V))(k:κ)(v:V):(cg kvs k v).length<=kvs.length+1:=by grind [cg]
def dH{kvs:List (κ×V)}(v:V)(h:cZ kvs k=none):cg kvs k v=kvs++[(k,v)]:=by unfold cg;rw[iA,h];exact PK (by decide)
def RelO.fA(r:RelO o u):o.isSome=u.isSome:=by
 cases o with
 |none=>cases u with
  |none=>rfl
  |some _=>exact(show False from r).elim
 |some _=>cases u with
  |none=>exact(show False from r).elim
  |some _=>rfl
theorem RelO.getD(r:RelO o u)(rd:RelV d d'):RelV (o.getD d) (u.getD d'):=by
 cases o with
 |none=>cases u with
  |none=>exact rd
  |some _=>exact(show False from r).elim
 |some _=>cases u with
  |none=>exact(show False from r).elim
  |some _=>exact r
def KV.val{kvs:List (κ×V)}(r:KV kvs vs)(k:κ):RelO (cZ kvs k) (valueAt vs k):=by
 unfold KV at r;induction r with
 |nil=>exact True.intro
 |@cons p q ps a h t d=>
  obtain⟨h1,h2⟩:=h;by_cases e:p.1=k
  .have c:q.1=k:=h1.symm.trans e;have b:valueAt (q::a) k=some q.2:=by simp[valueAt,Q9,c]
   rw[fC e,b];exact h2
  .have c:¬q.1=k:=λz=>e (h1.trans z);have b:valueAt (q::a) k=valueAt a k:=by simp[valueAt,Q9,c]
   rw[fD e,b];exact d
theorem KV.any(r:KV kvs vs)(k:κ):(kvs.any λkv=>decide (kv.1=k))=vs.any λkv=>decide (kv.1=k):=by
 unfold KV at r;induction r with
 |nil=>rfl
 |cons h t a=>rw[Uj,Uj,a,h.1]
def KV.Iq(r:KV kvs vs)(k:κ)(b:RelV y u) :
 KV (kvs.map λkv=>if kv.1=k then(kv.1,y)else kv) (vs.map λkv=>if kv.1=k then(kv.1,u)else kv):=by
 unfold KV at r ⊢;induction r with
 |nil=>exact .nil
 |@cons p q ps c h t a=>
  rw[PU,PU];refine .cons ?_ a
  grind
def KV.put(r:KV kvs vs)(k:κ)(a:RelV y u):KV (cg kvs k y) (stored vs k u):=by
 unfold cg stored;rw[r.any k];by_cases e:(vs.any λkv=>decide (kv.1=k))=true
 .rw[PN e,PN e];exact r.Iq k a
 .rw[PK e,PK e];exact Paired.snoc r ⟨rfl,a⟩
theorem KV.drop(r:KV kvs vs)(k:κ):KV (jk kvs k) (without vs k):=by
 unfold KV at r ⊢;unfold jk without;induction r with
 |nil=>exact .nil
 |@cons p q ps f h t c=>
  obtain⟨h1,h2⟩:=h;rw[QX,QX];by_cases e:p.1=k
  .grind
  .have d:¬q.1=k:=λz=>e (h1.trans z);have a:decide (p.1≠k)=true:=by simp[e]
   have b:decide (q.1≠k)=true:=by simp[d]
   rw[PN a,PN b];exact .cons ⟨h1,h2⟩ c
theorem KV.length(r:KV kvs vs):kvs.length=vs.length:=Rk r
def zo(kvs:List (κ×V))(k:κ):(jk kvs k).length<=kvs.length:=Rv _ _
end
def jP(r:RelV (kV k) u):(aK P w).is k u=true:=by
 cases k with
 |inl i=>obtain⟨t,e⟩:=(show ∃t,u=Value.int i t from r);subst e;exact qO P w i t
 |inr x=>obtain⟨t,e⟩:=(show ∃t,u=Value.str x t from r);subst e;exact qP P w x t
theorem oF:∀{ks:List bI}{us:List UA},Vals (ks.map kV) us->ItemsAre (aK P w) ks us
 |[],_,r=>by rw[RO]at r;cases r;exact .nil
 |k::ks,_,r=>by
  rw[PU]at r;cases r with
  |cons h t=>exact .cons (jP h) (oF t)
abbrev KT(H:Hp):List (List bI×V)->List (List bI×Addr×UA)->Prop:=Paired λp q=>p.1=q.1/\H q.2.1=some (.tup (p.1.map kV))/\RelV p.2 q.2.2
def KT.val{H:Hp}(r:KT H kvs xs)(k:List bI):RelO (cZ kvs k) ((atKey xs k).map (·.2)):=by
 induction r with
 |nil=>exact True.intro
 |@cons p q ps a h t d=>
  obtain⟨h1,_,h2⟩:=h;by_cases e:p.1=k
  .have c:q.1=k:=h1.symm.trans e;have b:atKey (q::a) k=some q.2:=by simp[atKey,Q9,c]
   rw[fC e,b];exact h2
  .have c:¬q.1=k:=λz=>e (h1.trans z);have b:atKey (q::a) k=atKey a k:=by simp[atKey,Q9,c]
   rw[fD e,b];exact d
def KT.Iq(r:KT H kvs xs)(k:List bI)(b:RelV y u) :
 KT H (kvs.map λkv=>if kv.1=k then(kv.1,y)else kv) (xs.map (putAt k u)):=by
 induction r with
 |nil=>exact .nil
 |@cons p q ps c h t a=>
  rw[PU,PU];refine .cons ?_ a;obtain⟨h1,h2,h3⟩:=h;unfold putAt
  grind
def KT.put(r:KT H kvs xs)(k:List bI)(hb:H b=some (.tup (k.map kV)))(a:RelV y u) :
 KT H (cg kvs k y) (storedH xs k b u):=by
 have e:(kvs.any λkv=>decide (kv.1=k))=(atKey xs k).isSome:=by rw[iA,(r.val k).fA,Ug]
 unfold cg storedH;rw[e];by_cases q:(atKey xs k).isSome=true
 .rw[PN q,PN q];exact r.Iq k a
 .rw[PK q,PK q];exact Paired.snoc r ⟨rfl,hb,a⟩
def KT.keeps(r:KT H kvs xs)(c:∀b a,H b=some (.tup a)->H' b=some (.tup a)):KT H' kvs xs:=Paired.E6 r λ_ _ z=>⟨z.1,c _ _ z.2.1,z.2.2⟩
section
def zp(ok:HOk P w H h)(e:Rd H a u):ObjOk P w H h a u:=e.ok ok
def iB(ok:HOk P w H h)(e:Rd H a (.dK kvs)):kvs.length<=sizeLine/\(a==sysModules)=false/\∃vs,KV kvs vs/\h.DictOf (aK P w) a vs:=show ObjOk P w H h a (.dK kvs)from zp ok e
def vG(ok:HOk P w H h)(e:H a=some (.dK kvs)):kvs.length<=sizeLine/\(a==sysModules)=false/\∃vs,KV kvs vs/\h.DictOf (aK P w) a vs:=iB ok (.inl e)
theorem d5(ok:HOk P w H h)(e:H a=some (.tup (ks.map kV))):(tupleKind (aK P w)).is h ks a:=by obtain⟨_,its,r,o,h1,h2,n,h3⟩:=(show ObjOk P w H h a (.tup (ks.map kV))from ok a _ e);exact⟨o,its.toArray,n,h1,h2,h3,by simpa using oF r⟩
def gq(ok:HOk P w H h)(e:Rd H a (.dT kvs)):kvs.length<=sizeLine/\(a==sysModules)=false/\
 ∃xs,KT H kvs xs/\h.DictOfH (tupleKind (aK P w)) a xs:=by
 obtain⟨z,y,xs,r,o,es,ep,h1,h2,h3,c,d⟩:=(show ObjOk P w H h a (.dT kvs)from zp ok e);refine⟨z,y,xs,r,o,es,ep,h1,h2,h3,c,λx b=>?_,d⟩;have all:∀{l:List (List bI×V)}{m:List (List bI×Addr×UA)},KT H l m->∀x∈m,(tupleKind (aK P w)).is h x.1 x.2.1:=by
  intro l m q;induction q with
  |nil=>intro x b;exact nomatch b
  |@cons p q ps f g t i=>grind [d5]
 exact all r x b
def Fa(ok:HOk P w H h)(e:H a=some (.dT kvs)):kvs.length<=sizeLine/\(a==sysModules)=false/\
 ∃xs,KT H kvs xs/\h.DictOfH (tupleKind (aK P w)) a xs:=gq ok (.inl e)
end
def DGet(H:Hp)(a:Addr)(y:V)(r:Option V):Prop:=(∃kvs k,Rd H a (.dK kvs)/\y=kV k/\r=cZ kvs k)\/∃kvs k b,Rd H a (.dT kvs)/\y=.ref b/\H b=some (.tup (k.map kV))/\r=cZ kvs k
def DPut(H:Hp)(a:Addr)(y v:V)(H':Hp):Prop:=
 (∃kvs k,H a=some (.dK kvs)/\y=kV k/\kvs.length<sizeLine/\H'=upd H a (.dK (cg kvs k v)))\/
 ∃kvs k b,H a=some (.dT kvs)/\y=.ref b/\H b=some (.tup (k.map kV))/\kvs.length<sizeLine/\H'=upd H a (.dT (cg kvs k v))
def DGet.t{kvs:List (List bI×V)}{k:List bI}(e:H a=some (.dT kvs))(c:H b=some (.tup (k.map kV))):DGet H a (.ref b) (cZ kvs k):=.inr ⟨kvs,k,b,.inl e,rfl,c,rfl⟩
def DPut.t{kvs:List (List bI×V)}{k:List bI}{v:V}(e:H a=some (.dT kvs))(c:H b=some (.tup (k.map kV)))(d:kvs.length<sizeLine) :
 DPut H a (.ref b) v (upd H a (.dT (cg kvs k v))):=.inr ⟨kvs,k,b,e,rfl,c,d,rfl⟩
section
def Inv.big(I:Inv X ac σ H s):sysModules<s.heap.objs.size:=by have h:mainGlobals<s.heap.objs.size:=(I.mod.glob.keeps I.bk).lt;exact Nat.lt_trans (by decide) h
def wZ(r:A.units+1<cLine)(I:Inv X ac σ H s)(g:DGet H a y (some v))(n:RelV y u)(h:∀f q,Inv X ac σ H q->RelV v f->Q f q) :
 wpAny (model X.prog X.w) A (getItem (.ref a) u) Q E s:=by
 rcases g with⟨kvs,k,e,i,l⟩|⟨kvs,k,b,e,i,t,l⟩
 .subst i;obtain⟨z,hd,vs,c,dd⟩:=iB I.aT e;obtain⟨f,j,d⟩:=RelO.some_of (v:=v) (o:=valueAt vs k) (by rw[l];exact c.val k);exact wpAny_getItem_of (jP n) dd.mapOf j (h f _ (I.tok _) d)
 .subst i;cases(show u=Value.ref b from n);obtain⟨z,hd,xs,c,dd⟩:=gq I.aT e;obtain⟨f,j,d⟩:=RelO.some_of (v:=v) (o:=(atKey xs k).map (·.2)) (by rw[l];exact c.val k);obtain⟨p,x,m⟩:=QV.mp j;refine wpAny_getItem_heap (RK r) (d5 I.aT t) dd x ?_;rw[m];exact h f _ (I.tok _) d
def C4(j:A.units+1<cLine)(I:Inv X ac σ H s)(g:DGet H a y o)(f:RelV y u)(h:∀i,Inv X ac σ H i->Q (.bool (!o.isSome)) i) :
 wpAny (model X.prog X.w) A (compareOp .NotIn u (.ref a)) Q E s:=by
 rcases g with⟨kvs,k,e,d,l⟩|⟨kvs,k,b,e,d,m,l⟩
 .subst d;obtain⟨z,hd,vs,c,dd⟩:=iB I.aT e;refine wpAny_notIn_of (jP f) hd dd.mapOf ?_;rw[<- (c.val k).fA,<- l];exact h _ (I.tok _)
 .subst d;cases(show u=Value.ref b from f);obtain⟨z,hd,xs,c,dd⟩:=gq I.aT e;refine wpAny_notIn_heap (RK j) (d5 I.aT m) hd dd ?_;have q:=(c.val k).fA;rw[Ug]at q;rw[<- q,<- l];exact h _ (I.tok _)
def i5(I:Inv X ac σ H s)(c:II (H a))(hs:Heap.SameBut a s.heap h')(d:∃q,h'.get? a=some q)(new:ObjOk X.prog X.w (upd H a ob) h' a ob) :
 Inv X ac σ (upd H a ob) {s with heap:=h',toks:=t'}:=
 I.write (x:=a) (e:=a) c (.inl rfl) (λb q hb z=>(hs.2 b hb).trans z) d new
def t_(z:kvs.length<=sizeLine)(hd:(a==sysModules)=false)(b:KV kvs vs)(dd:h'.DictOf (aK P w) a vs) :
 ObjOk P w H' h' a (.dK kvs):=⟨z,hd,vs,b,dd⟩
def w6(C:A.units+1<cLine)(I:Inv X ac σ H s)(g:DPut H a y v H')(o:RelV y u)(p:RelV v r)(h:∀t,Inv X ac σ H' t->Q () t) :
 wpAny (model X.prog X.w) A (setItem (.ref a) u r) Q E s:=by
 rcases g with⟨kvs,k,e,j,l,m⟩|⟨kvs,k,b,e,j,x,l,m⟩
 .subst j m;obtain⟨z,hd,vs,d,dd⟩:=vG I.aT e;have hz:vs.length<=sizeLine:=by rw[<- d.length];exact z
  have n:(cg kvs k v).length<=sizeLine:=by have:=eh kvs k v;lia
  refine wpAny_setItem_pairs (hsz:=hz) (jP o) dd λh' f hs=>h _ ?_;have D:∃q,h'.get? a=some q:=let ⟨q,_,_,i,_⟩:=f;⟨q,i⟩;exact i5 I (by rw[e];exact True.intro) hs D (t_ n hd (d.put k p) f)
 .subst j m;cases(show u=Value.ref b from o);obtain⟨z,hd,xs,d,dd⟩:=Fa I.aT e;have hz:xs.length<=sizeLine:=by rw[<- Rk d];exact z
  have n:(cg kvs k v).length<=sizeLine:=by have:=eh kvs k v;lia
  refine wpAny_setItem_heap (hsz:=hz) (RK C) (d5 I.aT x) dd λh' f hs=>h _ ?_;obtain⟨q,es,ep,i,h2,h3,F,_,G⟩:=f;refine i5 I (by rw[e];exact True.intro) hs ⟨q,i⟩ ⟨n,hd,_,(d.put k x p).keeps λc J B=>?_,q,es,ep,i,h2,h3,F,G⟩;rw[ai (yU B e (λz=>nomatch z))];exact B
end
section
def Ja(I:Inv X ac σ H s)(e:H a=some (.dK kvs))(f:RelV (kV k) u)(l:cZ kvs k=some v)(hm:more=[]\/∃x,more=[x])
 (h:∀c j,Inv X ac σ (upd H a (.dK (jk kvs k))) j->RelV v c->Q c j):wpAny (model X.prog X.w) A (call (.builtin "dict.pop") (.ref a::u::more)) Q E s:=by
 obtain⟨z,hd,vs,b,dd⟩:=vG I.aT e;obtain⟨c,m,g⟩:=RelO.some_of (v:=v) (o:=valueAt vs k) (by rw[<- l];exact b.val k);have n:(keyPart u).isSome=true:=by
  cases k with
  |inl i=>obtain⟨t,q⟩:=(show ∃t,u=Value.int i t from f);subst q;rfl
  |inr x=>obtain⟨t,q⟩:=(show ∃t,u=Value.str x t from f);subst q;rfl
 have ha:argsOk "dict.pop" ⟨.ref a::u::more,[]⟩:=by
  rcases hm with q|⟨x,q⟩
  .subst q;exact PySem.F.args_dict_pop_2 _ _
  .subst q;exact PySem.F.args_dict_pop_3 _ _ _
 refine R_ PySem.F.slot_dict_pop dd.typeIs PySem.F.entry_dict_pop ha (meets_dict_pop_there (aK X.prog X.w) a (jP f) more hm n)
  ⟨vs,c,dd,by rw[<- b.length];exact z,m,λh' d hs=>h c _ ?_ g⟩
 have p:∃q,h'.get? a=some q:=let ⟨q,_,_,r,_⟩:=d;⟨q,r⟩;exact i5 I (by rw[e];exact True.intro) hs p (t_ (Qb (zo kvs k) z) hd (b.drop k) d)
end
def Jb(i:Expr):Prop:=∀a b,subscripted i false a b=operate [a,b] (getItem a b)
def C5{E:UA->Ux->Prop}{env:Env}{b a:Expr}{l:Pos}{T id:String}{Q:UA->Ux->Prop}
 (n:typeLookup (.type T) "__getitem__"=pure (some (.builtin id))) (hs:Jb a)
 (h:wpAny (model prog w) A (eval b env) (λo e=>wpAny (model prog w) A (eval a env) (λi c=>c.TypeIs o T/\wpAny (model prog w) A (getItem o i) Q E c) E e) E s) :
 wpAny (model prog w) A (eval (.Subscript b a l) env) Q E s:=by
 refine Subscript_ (Rl h (λo e j=>Rl j (λi c d=>?_) λ_ _ x=>x) λ_ _ x=>x);obtain⟨m,d⟩:=d;unfold subscriptTail;refine KE ?_;rw[getitemInPython_of_ne m.not_modules];refine KE (S8 m n ?_);have g:wpAny (model prog w) A (subscripted a false o i) (λr f=>wpAny (model prog w) A (letTemporaryGo b o r >>= λ_=>pure r) Q E f) E c:=by rw[hs o i];exact wpAny_operating (Rl d (λr f k=>KE (wpAny_letTemporaryGo (Po k))) λ_ _ x=>x)
 first
  |exact Po (KE g)
  |exact KE (Po (KE g))
  |exact KE g
def q5(I:Inv X ac σ H s)(g:DGet H a y o):s.TypeIs (.ref a) "dict":=by
 rcases g with⟨kvs,k,e,_,_⟩|⟨kvs,k,b,e,_,_,_⟩
 .obtain⟨_,_,vs,_,dd⟩:=iB I.aT e;exact dd.typeIs
 .obtain⟨_,_,xs,_,dd⟩:=gq I.aT e;exact dd.typeIs
def eU(td ty:TE):TE:=λσ H Q=>td σ H λx H1=>ty σ H1 λy b=>∃a v,x=.ref a/\DGet b a y (some v)/\Q v b
def lW(td ty c:TE):TS:=λD σ H=>c σ H λv H1=>td σ H1 λx d=>ty σ d λy e=>∃a b,x=.ref a/\DPut e a y v b/\D.nx σ b
section
def dh(d:X.A.units+1<cLine)(e:PE X o td)(f:PE X i ty)(hs:Jb i):PE X (.Subscript o i pos) (eU td ty):=by intro ac s σ H Q I h;refine C5 PySem.F.slot_dict_getitem.lookup hs (cD (e ac s σ H _ I h) λu s1 ⟨x,H1,j,k,q1⟩=>cD (f ac s1 σ H1 _ j q1) λp s2 ⟨y,l,c,m,a,v,ex,g,q2⟩=>?_);subst ex;obtain rfl:u=Value.ref a:=k;exact⟨q5 c g,wZ d c g m λq r n b=>⟨v,l,n,b,q2⟩⟩
def jQ(b:X.A.units+1<cLine)(c:PE X o td)(d:PE X i ty)(e:PE X value tv)(hs:swapsWith value (some (.Subscript o i pos')) pos.line X.env=pure false) :
 PS X (.Assign [.Subscript o i pos'] value pos) (lW td ty tv):=by
 intro ac s σ H D I h;refine wpAny_Assign_Subscript (cD (e ac s σ H _ I h) λr s1 ⟨v,H1,f,j,q1⟩=>cD (c ac s1 σ H1 _ f q1) λu s2 ⟨x,k,l,m,q2⟩=>cD (d ac s2 σ k _ l q2) λz B ⟨y,C,n,p,a,q,ex,g,t⟩=>?_) hs;subst ex;obtain rfl:u=Value.ref a:=m;exact w6 b n g p j λE w=>⟨σ,q,w,t⟩
end
def zq(h:Heap)(hb:sysModules<h.objs.size):ObjOk P w H (h.push { cls:=.type "dict",data:=.dict #[] }) h.objs.size (.dK []):=⟨PQ _,Ru.mpr (QQ (P7 hb)),[],.nil,Heap.DictOf.new h⟩
def zr(h:Heap)(hb:sysModules<h.objs.size):ObjOk P w H (h.push { cls:=.type "dict",data:=.dict #[] }) h.objs.size (.dT []):=⟨PQ _,Ru.mpr (QQ (P7 hb)),[],.nil,_,#[],0,PH _ rfl,⟨rfl,rfl,rfl⟩,rfl,rfl,Qn⟩
def zt:TE:=λ_ H Q=>∀p,H p=none->Q (.ref p) (upd H p (.dK []))
def eL:TE:=λ_ H Q=>∀p,H p=none->Q (.ref p) (upd H p (.dT []))
section
def zu:PE X (.Dict [] [] pos) zt:=λac s σ H Q I h=>wpAny_Dict_empty ⟨.ref s.heap.objs.size,_,I.laid (a:=s.heap.objs.size) (o:=.dK []) (t':=s.toks) (λ_ _ q=>Pp _ q) (Pq _) (zq s.heap I.big),rfl,h _ (I.aT.fresh (Pq _))⟩
def cS:PE X (.Dict [] [] pos) eL:=λac s σ H Q I h=>wpAny_Dict_empty ⟨.ref s.heap.objs.size,_,I.laid (a:=s.heap.objs.size) (o:=.dT []) (t':=s.toks) (λ_ _ q=>Pp _ q) (Pq _) (zr s.heap I.big),rfl,h _ (I.aT.fresh (Pq _))⟩
end
structure M1(X:Cx) (o:Expr) (m:Str) (apos:Pos) (e:Expr) (cpos:Pos):Prop where
 base:attributeBase o m X.env (eval o X.env)=eval o X.env
 dX:((backTo cpos (starEach [e] X.env)).all (λx=>!x.1)&&(backToKw cpos (keywordEach [] X.env)).all (λx=>x.1.isSome)
  && decide (([e]:List Expr).length+([]:List Keyword).length+(if([]:List Keyword).isEmpty then 0 else 1)<30))=true
 line:(apos.endLine==cpos.line)=true
 trees:backTo cpos (starEach [e] X.env)=[(false,eval e X.env)]
structure M2(X:Cx) (o:Expr) (m:Str) (apos:Pos) (e f:Expr) (cpos:Pos):Prop where
 base:attributeBase o m X.env (eval o X.env)=eval o X.env
 dX:((backTo cpos (starEach [e,f] X.env)).all (λx=>!x.1)&&(backToKw cpos (keywordEach [] X.env)).all (λx=>x.1.isSome)
  && decide (([e,f]:List Expr).length+([]:List Keyword).length+(if([]:List Keyword).isEmpty then 0 else 1)<30))=true
 line:(apos.endLine==cpos.line)=true
 trees:backTo cpos (starEach [e,f] X.env)=[(false,eval e X.env),(false,eval f X.env)]
def Jc(H:Hp)(a:Addr):Prop:=(∃kvs,Rd H a (.dK kvs))\/∃kvs,Rd H a (.dT kvs)
def pE(I:Inv X ac σ H s)(d:Jc H a) :
 s.TypeIs (.ref a) "dict"/\(∀b,Value.ref a=.ref b->∃ob,s.heap.get? b=some ob/\ob.dict=none)/\(a==sysModules)=false:=by
 rcases d with⟨kvs,e⟩|⟨kvs,e⟩
 .obtain⟨_,hd,vs,_,dd⟩:=iB I.aT e;refine⟨dd.typeIs,λb q=>?_,hd⟩;cases q;obtain⟨ob,_,_,h1,h2,_⟩:=dd;exact⟨ob,h1,h2.2.1⟩
 .obtain⟨_,hd,xs,_,dd⟩:=gq I.aT e;refine⟨dd.typeIs,λb q=>?_,hd⟩;cases q;obtain⟨ob,_,_,h1,h2,_⟩:=dd;exact⟨ob,h1,h2.2.1⟩
section
def Gq(m:A.units+1<cLine)(I:Inv X ac σ H s)(g:DGet H a y o)(f:RelV y u)(h:∀i j,Inv X ac σ H j->RelV (o.getD .bB) i->Q i j) :
 wpAny (model X.prog X.w) A (call (.builtin "dict.get") [.ref a,u]) Q E s:=by
 rcases g with⟨kvs,k,e,d,l⟩|⟨kvs,k,b,e,d,n,l⟩
 .subst d;obtain⟨z,hd,vs,c,dd⟩:=iB I.aT e;refine R_ RG dd.typeIs Sk (PySem.F.args_dict_get_2 _ _) (meets_dict_get (aK X.prog X.w) a (jP f) hd) ⟨_,dd.mapOf,h _ _ (I.tok _) ?_⟩;rw[l];exact(c.val k).getD rfl
 .subst d;cases(show u=Value.ref b from f);obtain⟨z,hd,xs,c,dd⟩:=gq I.aT e;refine R_ RG dd.typeIs Sk (PySem.F.args_dict_get_2 _ _) (meetsH_dict_get (tupleKind (aK X.prog X.w)) a b hd) ⟨RK m,k,xs,d5 I.aT n,dd,h _ _ (I.tok _) ?_⟩;rw[l];exact(c.val k).getD rfl
def Gs(n:A.units+1<cLine)(I:Inv X ac σ H s)(g:DGet H a y o)(i:RelV y u)(rd:RelV d r)(h:∀j m,Inv X ac σ H m->RelV (o.getD d) j->Q j m) :
 wpAny (model X.prog X.w) A (call (.builtin "dict.get") [.ref a,u,r]) Q E s:=by
 rcases g with⟨kvs,k,e,f,l⟩|⟨kvs,k,b,e,f,p,l⟩
 .subst f;obtain⟨z,hd,vs,c,dd⟩:=iB I.aT e;refine R_ RG dd.typeIs Sk (PySem.F.args_dict_get_3 _ _ _) (meets_dict_get_default (aK X.prog X.w) a (jP i) hd r) ⟨_,dd.mapOf,h _ _ (I.tok _) ?_⟩;rw[l];exact(c.val k).getD rd
 .subst f;cases(show u=Value.ref b from i);obtain⟨z,hd,xs,c,dd⟩:=gq I.aT e;refine R_ RG dd.typeIs Sk (PySem.F.args_dict_get_3 _ _ _) (meetsH_dict_get_default (tupleKind (aK X.prog X.w)) a b hd r) ⟨RK n,k,xs,d5 I.aT p,dd,h _ _ (I.tok _) ?_⟩;rw[l];exact(c.val k).getD rd
end
def ua(td ty:TE):TE:=λσ H Q=>td σ H λx H1=>∃a,x=.ref a/\Jc H1 a/\ty σ H1 λy b=>∃o,DGet b a y o/\Q (o.getD .bB) b
def dI(td ty c:TE):TE:=λσ H Q=>td σ H λx H1=>∃a,x=.ref a/\Jc H1 a/\ty σ H1 λy d=>c σ d λz b=>∃o,DGet b a y o/\Q (o.getD z) b
def lX(td ty:TE):TE:=λσ H Q=>td σ H λx H1=>∃a,x=.ref a/\Jc H1 a/\ty σ H1 λy b=>∃kvs k v,b a=some (.dK kvs)/\y=kV k/\cZ kvs k=some v/\Q v (upd b a (.dK (jk kvs k)))
section
def zv(f:X.A.units+1<cLine)(i:PE X o td)(j:PE X e ty)(m:M1 X o "get" apos e cpos):PE X (.Call (.Attribute o "get" apos) [e] [] cpos) (ua td ty):=by intro ac s σ H Q I h;refine wpAny_Call_method m.base m.dX m.line Qq RG PySem.F.type_dict_get (cD (i ac s σ H _ I h) λu s1 ⟨x,H1,c,k,a,ex,d,q1⟩=>?_);subst ex;obtain rfl:u=Value.ref a:=k;obtain⟨l,t2,_⟩:=pE c d;refine⟨l,t2,?_⟩;rw[m.trees];refine RB rfl (R3 (Sn (cD (j ac s1 σ H1 _ c q1) λt s2 ⟨y,n,p,q,v,g,q2⟩=>Tn ?_)));exact Gq f p g q λw z r b=>⟨_,n,r,b,q2⟩
def dJ(i:X.A.units+1<cLine)(j:PE X o td)(k:PE X e ty)(l:PE X f tx)(m:M2 X o "get" apos e f cpos):PE X (.Call (.Attribute o "get" apos) [e,f] [] cpos) (dI td ty tx):=by intro ac s σ H Q I h;refine wpAny_Call_method m.base m.dX m.line Qq RG PySem.F.type_dict_get (cD (j ac s σ H _ I h) λu s1 ⟨x,H1,c,n,a,ex,d,q1⟩=>?_);subst ex;obtain rfl:u=Value.ref a:=n;obtain⟨p,t2,_⟩:=pE c d;refine⟨p,t2,?_⟩;rw[m.trees];refine RB rfl (R3 (Sn (cD (k ac s1 σ H1 _ c q1) λE s2 ⟨y,q,r,t,q2⟩=>Sn (cD (l ac s2 σ q _ r q2) λG J ⟨z,v,w,B,K,g,C⟩=>Tn ?_))));exact Gs i w g t B λL M D b=>⟨_,v,D,b,C⟩
def q_(f:PE X o td)(g:PE X e ty)(m:M1 X o "pop" apos e cpos):PE X (.Call (.Attribute o "pop" apos) [e] [] cpos) (lX td ty):=by intro ac s σ H Q I h;refine wpAny_Call_method m.base m.dX m.line Qq PySem.F.slot_dict_pop PySem.F.type_dict_pop (cD (f ac s σ H _ I h) λu s1 ⟨x,H1,c,i,a,ex,d,q1⟩=>?_);subst ex;obtain rfl:u=Value.ref a:=i;obtain⟨j,t2,_⟩:=pE c d;refine⟨j,t2,?_⟩;rw[m.trees];refine RB rfl (R3 (Sn (cD (g ac s1 σ H1 _ c q1) λt s2 z=>Tn ?_)));obtain⟨y,w,n,p,kvs,k,v,q,rfl,l,q2⟩:=z;exact Ja n q p l (.inl rfl) λA B r b=>⟨v,_,r,b,q2⟩
end
end L2
namespace Att
open PySem PySem.W PySem.Calls PyProof.Rows
def lg:∀(ns:List Int)(vs:List UA),WellAll P h vs (ns.map WData.int)->IntsAre vs ns:=by
 intro ns;induction ns with
 |nil=>intro vs w;rw[RO]at w;cases w;exact .nil
 |cons n ns c=>
  intro vs w;rw[PU]at w;cases w with
  |cons a b=>cases a;exact .cons _ _ (c _ b)
def w8{l:OpenLaw}{n:Nat}(i:l.most=some n){P:Params}
 (b:l.row.toRowW.claim.pre args=true) (e:WellAll P h vals args) :
 ∃a vs ns,vals=[Value.ref a]/\args=[WData.list (ns.map WData.int)]/\h.get? a=some { cls:=.type "list",data:=.seq vs.toArray }/\IntsAre vs ns/\ns.length<=n:=by
 have f:WShape.hasAll [] args [.list .int]=true:=(pre_splitW b).1;have g:l.pre.holds [] {args:=args}=true:=(pre_splitW b).2;obtain⟨d,r,rfl,h1,h2⟩:=hasAllW_cons f;obtain rfl:=hasAllW_nil h2;obtain⟨xs,rfl,h3⟩:=hasW_list h1;obtain⟨ns,rfl⟩:=items_int h3;have j:ns.length<=n:=by
  unfold OpenLaw.pre at g;have c:(WTm.not (.lt (.lit (.int (n:Int))) (.len (.arg 0)))).holds [] {args:=[.list (ns.map .int)]}=true:=by have c:=(holds_andW g).1;rw[i]at c;exact c
  have q:=condW_of c (w_not (w_lt w_lit (w_len_list (w_arg rfl))))
  grind
 cases e with
 |cons k m=>
  cases m;cases k with
  |list o p=>exact⟨_,_,ns,rfl,rfl,o,lg ns _ p,j⟩
def w_(l:OpenLaw)(args:List WData):l.row.toRowW.claim.post args (.bool true) args=true:=
 postW_of (r:=l.row.toRowW) (X:=(true==true))
  (show WShape.has [] (.bool true) .bool=true by first|rfl|decide|simp[WShape.has,WShape.arms,WShape.armsAll])
  (show(WTm.eq .res (.lit (.bool true))).value [] {args:=args,res:=some (.bool true),after:=args}=some (.bool (true==true))from w_eq_bool (w_res rfl) w_lit) rfl
def attach_call{l:OpenLaw}{n:Nat}{u:(Str->Option UA)->Heap->Prop}{v:World->Heap->Prop}
 (A:l.most=some n) (k:d.params.defaults=[])
 (call:∀(w:World)(s₀ b:Ux)(mg m:Str->Option UA)(e:Addr)(o:Obj)(pm i doc:UA)(a:Addr)(vs:List UA)(ns:List Int),
   Ground q loose [] u w s₀ mg m b.heap->v w b.heap->
   b.heap.get? e=some o->o.data=.func (docDef d.name d.params d.body d.scope pm i doc)->b.heap.CodeRec i d.name->mg d.name=some (.ref e)->
   b.heap.get? a=some { cls:=.type "list",data:=.seq vs.toArray }->IntsAre vs ns->ns.length<=n->b.gens=#[]->
   codeAny (model l.prog w) callerA (.call (.ref e) ⟨[.ref a],[]⟩) (λr j=>r=.ok (.ret (.bool true))/\OldK b.heap j.heap/\j.os=b.os/\AllBare j.gens) b) :
 WalkO q loose u v l.row.toRowW d [] (λf vs=>PySem.call f vs):=by
 intro w s₀ b mg m G Y e o pm i doc B kV C hd p x s D args y K g z E t F;obtain rfl:B=.none:=Dflts.none x k;obtain rfl:kV=.none:=Dflts.noKw x;obtain⟨a,vs,ns,rfl,rfl,h,c,H⟩:=w8 A g t;refine enter_call (S1 (call w s₀ b mg m e o pm i doc a vs ns G Y C (fd_plain hd) p s h c H D) λr j I=>?_);obtain⟨rfl,h2,h3,J⟩:=I;exact⟨.inl ⟨.bool true,.bool true,[],rfl,λ_=>rfl,.bool true,w_ l _,λ_=>⟨List.Pairwise.nil,λ_ hm=>(nomatch hm)⟩⟩,h2,h3,J⟩
end Att
namespace L2
open PySem PySem.Spec PyProof.Rows
def e9(s:Stmt)(j:Nat):Stmt:=match s with
 |.ClassDef _ _ _ a _ _ _ _ _ _ _=>a.getD j (.Pass ⟨0,0,0,0⟩)
 |_=>.Pass ⟨0,0,0,0⟩
def dL(s:Stmt):Arguments:=match s with
 |.FunctionDef _ a _ _ _ _ _ _ _ _=>a
 |_=>{posonlyargs:=[],args:=[],vararg:=none,kwonlyargs:=[],kw_defaults:=[],kwarg:=none,defaults:=[]}
def cW(s:Stmt):List Stmt:=match s with
 |.FunctionDef _ _ b _ _ _ _ _ _ _=>b
 |_=>[]
def aC(s:Stmt):Scope:=match s with
 |.FunctionDef _ _ _ _ _ _ a _ _ _=>a
 |_=>{kind:=.function,names:=[],isGenerator:=false,isCoroutine:=false}
abbrev hG:zf:=λ_ _ _ _ _ _=>False
abbrev E0:XK:=λ_ _ _=>False
def bo:gc hG X E0:=λ_ _ _ _ _ _ _ h=>h.elim
structure CI(K:Uy) (x qual:Str) (st:Stmt) (f:Addr) (fd:FuncData):Prop where
 ex:∃(oc:UA)(od:Option Addr)(kV doc pm:UA)(an:Option Addr)(cdv ct:UA)(osl:Array (Option UA)),
  fd=fnOf x qual (dL st) (cW st) (aC st) .none kV doc pm an cdv ct/\K.lookup f=some ⟨oc,od,.func fd,osl⟩/\codeIn K cdv qual=true
 kp:keepIn K (.ref f)=true
section
variable{P:Uz}{w:World}{K:Uy}{mg:Str->Option UA}{base:Heap}
def CI.ok{x qual:Str}{st:Stmt}{f:Addr}{fd:FuncData}{N ps:List Str}{k:Nat}{sp:Sp}(F:CI K x qual st f fd)(S:aP N ps (aC st))(len:∀vs H Q E,sp vs H Q E->vs.length=ps.length)
 (a:∀(cdv:UA)(A:UB)(outer:List Env)(s:Ux)(H:Hp)(vs:List V)(Q:VK)(E:XK),dE k (A.deeper (envOfC qual (aC st) s.heap.objs.size f cdv))->sp vs H Q E->
   ∃t,PSs (tX hG P w K mg base N qual (aC st) f cdv A outer s H E).Lm (cW st) t/\t {nx:=λ_ H'=>Q .bB H',rt:=Q} (br N vs) H):bJ P w K mg base hG (k+1) f fd ps sp:=by
 obtain⟨oc,od,kV,doc,pm,an,cdv,ct,osl,rfl,lk,b⟩:=F.ex;refine E_ lk b S len λA outer s H vs Q E d c=>?_;obtain⟨t,h,q⟩:=a cdv A outer s H vs Q E d c;exact⟨t,h.Lm,q⟩
def CI.binds{x qual:Str}{st:Stmt}(F:CI K x qual st f fd)
 (h:∀(kV doc pm:UA)(an:Option Addr)(cdv ct:UA)(us:List UA),us.length=ps.length->bindArgs (fnOf x qual (dL st) (cW st) (aC st) .none kV doc pm an cdv ct) ⟨us,[]⟩=pure (ps.zip us)):Binds K fd ps []:=by
 obtain⟨oc,od,kV,doc,pm,an,cdv,ct,osl,rfl,lk,a⟩:=F.ex;exact .all (h kV doc pm an cdv ct)
def zx{x qual:Str}{st:Stmt}{f:Addr}{oc:UA}{od an:Option Addr}{osl:Array (Option UA)}{kV doc pm cdv ct:UA}(l:K.lookup f=some ⟨oc,od,.func (fnOf x qual (dL st) (cW st) (aC st) .none kV doc pm an cdv ct),osl⟩)
 (c:codeIn K cdv qual=true) (k:keepIn K (.ref f)=true):CI K x qual st f (fnOf x qual (dL st) (cW st) (aC st) .none kV doc pm an cdv ct):=⟨⟨oc,od,kV,doc,pm,an,cdv,ct,osl,rfl,l,c⟩,k⟩
end
def cu(a:dE k A):A.units+1<cLine:=QS (T5 (by decide:1<=64) _) a.units
section
def pv(i:Nat)(b:autoParam (X.N[i]?=some x) az)(c:autoParam (LQ X.env.scope x) UE._auto_1)(hd:autoParam (dB x) ae)
 (a:autoParam ((x==("__classdict__" : Str))=false) ae):PE X (.Name x pos) (ao i):=F5 b c hd a
end
def d6{A B:Prop}(h:B):if false=true then A else B:=by rw[PK Qg];exact h
def hI{A B:Prop}(h:A):if true=true then A else B:=by rw[PN rfl];exact h
def ub{c A B:Prop}[Decidable c](h1:c->A)(h2:¬c->B):if c then A else B:=by
 by_cases h:c
 .rw[PN h];exact h1 h
 .rw[PK h];exact h2 h
def Same(H H':Hp):Prop:=∀b o,H b=some o->H' b=some o
def Same.trans(a:Same H H1)(b:Same H1 H2):Same H H2:=λc o h=>b c o (a c o h)
def Same.free(e:Same H H')(h:H' l=Option.none):H l=Option.none:=by
 cases q:H l with
 |none=>rfl
 |some o=>rw[e l o q]at h;cases h
def yP(P:Uz)(w:World):zf:=λouter H s E e a=>
 ∃(x C t:Addr)(B:Heap)(H':Hp),e=.ref x/\a.os=s.os/\AllBare a.gens/\Un (ij outer) [] H H' s.heap a.heap/\HOk P w H' a.heap/\
  Heap.FlyingW B outer x (.ref C) (.ref t) a.heap/\(∀b u,H' b=some u->∃o,B.get? b=some o)/\(∀b o,s.heap.get? b=some o->Qt H b->b∉ij outer->B.get? b=some o)/\
  (∀b o,s.heap.get? b=some o->b∉ij outer->∃c,B.get? b=some c)/\H' x=none/\E (.ref C) none H'
def kC{H:Hp}{B h1 h2:Heap}(ok:HOk P w H h1)(qQ:∀b u,H b=some u->∃o,B.get? b=some o)(s1:B.StaysIn h1)(s2:B.StaysIn h2):HOk P w H h2:=λa o e=>(ok a o e).stay (λb u hb q=>by have c:∃v,H b=some v:=hb.elim (λz=>⟨o,by rw[z];exact e⟩) λz=>⟨_,z⟩;obtain⟨v,f⟩:=c;obtain⟨g,d⟩:=qQ b v f;have:=s1 b g d;rw[q]at this;cases this;exact s2 b _ d) (λ_ q=>q) λ_ _ q=>q
def lY:∀{o:HO},ObjOk P w H h a o->∃ob,h.get? a=some ob
 |.lst xs,x=>by obtain⟨_,_,_,_,e⟩:=x;exact⟨_,e⟩
 |.tup xs,x=>by obtain⟨_,_,_,⟨_,e,_⟩⟩:=x;exact⟨_,e⟩
 |.dK kvs,x=>by obtain⟨_,_,_,_,o,_,_,e,_⟩:=x;exact⟨_,e⟩
 |.dT kvs,x=>by obtain⟨_,_,_,_,o,_,_,e,_⟩:=x;exact⟨_,e⟩
 |.set S n,x=>by obtain⟨o,_,_,_,e,_⟩:=x;exact⟨_,e⟩
 |.ins C dx fs,x=>by obtain⟨_,_,_,e,_⟩:=x;exact⟨_,e⟩
 |.own y,x=>x
 |.xd fs,x=>by obtain⟨_,⟨_,_,_,e,_⟩,_⟩:=x;exact⟨_,e⟩
 |.LK lo b,x=>by obtain⟨_,_,_,e⟩:=x;exact⟨_,e⟩
 |.bP ob u,x=>by obtain⟨e,_⟩:=x;exact⟨_,e⟩
 |.qN ps,x=>⟨_,(show h.get? a=some _ from x)⟩
 |.met f y,x=>⟨_,(show h.get? a=some _ from x)⟩
 |.ext c,x=>x.2.1
section
variable{P:Uz}{w:World}{K:Uy}{mg:Str->Option UA}{base:Heap}{N:List Str}{qual:Str}{scope:Scope}{f:Addr}{cd:UA}{A:UB}{outer:List Env}{s₀:Ux}{H₀:Hp}{E:XK}
abbrev pF(P:Uz)(w:World)(K:Uy)(mg:Str->Option UA)(base:Heap)(N:List Str)(qual:Str)(scope:Scope)(f:Addr)(cd:UA)(A:UB)(outer:List Env)(s:Ux)(H:Hp)(E:XK):Cx:=tX (yP P w) P w K mg base N qual scope f cd A outer s H E
def rf(I:Inv (pF P w K mg base N qual scope f cd A outer s₀ H₀ E) ac σ H s)(e:s₀.heap.get? b=some o)(hb:b∉ij outer) :
 b∉ij (pF P w K mg base N qual scope f cd A outer s₀ H₀ E).stack:=λz=>by
 rcases PB.mp (I.nA b z)with q|q
 .exact absurd (Qr (PD e) (Qb I.ok.above (T_ q.symm))) (RM _)
 .exact hb q
def uc(hb:b∈ij outer):b∈ij (pF P w K mg base N qual scope f cd A outer s₀ H₀ E).stack:=by show b∈ij (envOfC qual scope s₀.heap.objs.size f cd::outer);unfold ij;rw[Sa];have:(envOfC qual scope s₀.heap.objs.size f cd).frame=some s₀.heap.objs.size:=rfl;rw[this];exact Pw _ hb
def vH:gc (yP P w) (pF P w K mg base N qual scope f cd A outer s₀ H₀ E) E:=by
 intro ac σ H s e m I h;obtain⟨x,C,t,B,H',rfl,os,bare,un,aT,c,qQ,g,i,v,y⟩:=h;show wpAny _ _ (leaving _ _) _ _ m;have nx:∀b:Addr,b∉(pF P w K mg base N qual scope f cd A outer s₀ H₀ E).ex:=λb z=>absurd (show b∈([]:List Addr)from z) (by simp);refine wpAny_leaves_onW I.ok.frames rfl c λh' a up=>?_;have p:∀b,b∈ij outer->∀o,m.heap.get? b=some o->∀vs,o.data≠.fields vs:=λb hb o e=>by obtain⟨_,k,r,d⟩:=c.2.2.1.mem (uc (P:=P) (w:=w) (K:=K) (mg:=mg) (base:=base) (N:=N) (H₀:=H₀) (E:=E) (A:=A) hb);rw[e]at r;cases r;exact d
 refine⟨x,C,t,B,H',rfl,os.trans I.os,bare,⟨λb o e n hb _=>?_,λb o e n hb _=>?_,λb o e n _=>?_,λb o e _=>?_,λb xs q=>un.iU b xs (I.base.iU b xs q),λb o u q=>un.jh b o u (I.base.jh b o u q),λb ps q=>?_⟩,kC aT qQ c.1 a.1,a,qQ,λb o e n hb=>?_,λb o e hb=>?_,v,y⟩
 .exact a.1 b o (g b o (I.base.keep b o e n hb (nx b)) (n.imp (λn=>I.base.free b o e n (nx b)) λ⟨xs,q⟩=>⟨xs,I.base.iU b xs q⟩) (rf I e hb))
 .obtain⟨D,e1⟩:=I.base.slot b o e n hb (nx b);obtain⟨F,e2⟩:=un.slot b _ e1 (I.base.free b o e n (nx b)) (uc hb) (by simp);obtain⟨j,l⟩:=up b _ e2 (p b hb _ e2);exact⟨j,l⟩
 .obtain⟨o1,e1⟩:=I.base.there b o e (nx b);exact un.free b o1 e1 (I.base.free b o e n (nx b)) (by simp)
 .obtain⟨o1,e1⟩:=I.base.there b o e (nx b);by_cases hb:b∈ij outer
  .obtain⟨J,e2⟩:=un.there b o1 e1 (by simp);obtain⟨D,l⟩:=up b _ e2 (p b hb _ e2);exact⟨_,l⟩
  .obtain⟨k,q⟩:=i b o1 e1 (rf I e hb);exact⟨k,a.1 b k q⟩
 .obtain⟨G,e1⟩:=I.base.lz b ps q;obtain⟨m2,e2⟩:=un.lz b _ e1;exact⟨G++m2,by rw[e2,Array.append_assoc]⟩
 .exact g b o (I.base.keep b o e n hb (nx b)) (n.imp (λn=>I.base.free b o e n (nx b)) λ⟨xs,q⟩=>⟨xs,I.base.iU b xs q⟩) (rf I e hb)
 .obtain⟨o1,e1⟩:=I.base.there b o e (nx b);exact i b o1 e1 (rf I e hb)
def C6{s:Ux}{h':Heap}{x C:Addr}{args:List UA}(I:Inv (pF P w K mg base N qual scope f cd A outer s₀ H₀ E) ac σ H s)(g:Heap.MadeExcOf s.heap h' x (.ref C) args)(r:E (.ref C) none H) :
 (pF P w K mg base N qual scope f cd A outer s₀ H₀ E).xe (.ref x) {s with heap:=h'}:=by
 show wpAny _ _ (leaving _ _) _ _ _;have nx:∀b:Addr,b∉(pF P w K mg base N qual scope f cd A outer s₀ H₀ E).ex:=λb z=>absurd (show b∈([]:List Addr)from z) (by simp);have i:∀env∈(pF P w K mg base N qual scope f cd A outer s₀ H₀ E).stack,∀b,env.frame=some b->b∈ij (pF P w K mg base N qual scope f cd A outer s₀ H₀ E).stack:=λenv v b hb=>Sm.mpr ⟨env,v,hb⟩;have l:=I.stack;refine wpAny_leaves_madeW (base:=hideAll s.heap (ij (pF P w K mg base N qual scope f cd A outer s₀ H₀ E).stack)) I.ok.frames rfl (λb o q=>T9 _ q) (PySem.W.funFrames_hide l i) g λy t c _ _ up=>?_;have a:∀b o,s.heap.get? b=some o->b∉ij (pF P w K mg base N qual scope f cd A outer s₀ H₀ E).stack->(hideAll s.heap (ij (pF P w K mg base N qual scope f cd A outer s₀ H₀ E).stack)).get? b=some o:=λb o e hb=>PySem.W.hideAll_get _ e hb;have qQ:∀b u,H b=some u->∃o,(hideAll s.heap (ij (pF P w K mg base N qual scope f cd A outer s₀ H₀ E).stack)).get? b=some o:=λb u e=>by obtain⟨o,h⟩:=lY (I.aT b u e);exact⟨o,a b o h λz=>by rw[I.qJ b z]at e;cases e⟩
 have st:(hideAll s.heap (ij (pF P w K mg base N qual scope f cd A outer s₀ H₀ E).stack)).StaysIn s.heap:=λb o q=>T9 _ q;have m:∀b,b∈ij outer->∀o,s.heap.get? b=some o->∀vs,o.data≠.fields vs:=λb hb o e=>by obtain⟨_,D,p,d⟩:=l.mem (uc (P:=P) (w:=w) (K:=K) (mg:=mg) (base:=base) (N:=N) (H₀:=H₀) (E:=E) (A:=A) hb);rw[e]at p;cases p;exact d
 have j:H x=none:=by
  cases q:H x with
  |none=>rfl
  |some u=>obtain⟨o,h⟩:=lY (I.aT x u q);rw[g.new]at h;cases h
 refine⟨x,C,t,_,H,rfl,I.os,I.bare,⟨λb o e n hb _=>?_,λb o e n hb _=>?_,λb o e n _=>I.base.free b o e n (nx b),λb o e _=>?_,I.base.iU,I.base.jh,I.base.lz⟩,kC I.aT qQ st c.1,c,qQ,λb o e n hb=>?_,λb o e hb=>?_,j,r⟩
 .exact c.1 b o (a b o (I.base.keep b o e n hb (nx b)) (rf I e hb))
 .obtain⟨B,e1⟩:=I.base.slot b o e n hb (nx b);obtain⟨k,e2⟩:=up b _ (g.keeps b _ e1) (m b hb _ e1);exact⟨k,e2⟩
 .obtain⟨o1,e1⟩:=I.base.there b o e (nx b);by_cases hb:b∈ij outer
  .obtain⟨B,e2⟩:=up b _ (g.keeps b _ e1) (m b hb _ e1);exact⟨_,e2⟩
  .exact⟨o1,c.1 b o1 (a b o1 e1 (rf I e hb))⟩
 .exact a b o (I.base.keep b o e n hb (nx b)) (rf I e hb)
 .obtain⟨o1,e1⟩:=I.base.there b o e (nx b);exact⟨o1,a b o1 e1 (rf I e hb)⟩
def L1:PassesOwn (model P w) (pF P w K mg base N qual scope f cd A outer s₀ H₀ E).A (pF P w K mg base N qual scope f cd A outer s₀ H₀ E).env (pF P w K mg base N qual scope f cd A outer s₀ H₀ E).xe:=by
 show PassesOwn _ _ _ (λe a=>wpAny _ _ (leaving _ e) _ _ a)
 passes_own
end
abbrev rh:List UA:=[.type "ValueError",.type "Exception",.type "BaseException",.type "object"]
def zy(h:Heap)(C:Addr)(bm:List UA):Prop:=∃N nm q bs hdct sn sub ab col dd k0 k1 k2 k3 k5 mN,h.get? C=some (excClassObj nm q C N bs bm hdct sn sub ab col dd k0 k1 k2 k3 k5 "ValueError.__new__")/\h.Ns N mN/\mN "__init__"=none/\OwnTail h rh bm
def nM(K:Uy)(C:Addr):List UA:=match K.lookup C with
 |some ⟨_,_,.cls a,_⟩=>a.mro
 |_=>[]
def lZ{K:Uy}(X:K.In h)(q:excIn K C rh "ValueError.__new__"=true):∃bm,nM K C=.ref C::bm/\zy h C bm:=by
 have r:=q;unfold excIn at q;unfold nM;cases c:K.lookup C with
 |none=>rw[c]at q;cases q
 |some ob=>
  rw[c]at q;split at q
  .rename_i dd i e d;injection d with d;subst d;dsimp only;split at q
   .rename_i D bm k0 k1 k2 k3 n k5 hm hs;rw[hm];simp only[Rj,Sz,Bool.not_eq_true']at q;obtain⟨⟨⟨⟨⟨f,j⟩,a⟩,k⟩,aT⟩,b⟩:=q;refine⟨bm,by rw[f],?_⟩;obtain⟨nm,bs,m,ns,o,hd,sn,sub,ab,col,p⟩:=i;dsimp only at hm a aT b;have es:e=#[k0,k1,k2,k3,some (.builtin n),k5]:=by
     cases e with
     |mk l=>simp only at hs;rw[hs]
    rw[j]at es;subst es;have g:=X _ _ c;rw[a,hm,f]at g;exact⟨ns,nm,o,bs,hd,sn,sub,ab,col,dd,k0,k1,k2,k3,k5,_,g,.of_isNs (PySem.W.isNs_of_in X aT),PySem.W.nsMap_none_of_in X aT b,PySem.W.tail_of_in X k⟩
   .cases q
  .cases q
structure XC(K:Uy) (mg:Str->Option UA) (c:Str) (C:Addr):Prop where
 gl:mg c=some (.ref C)
 ex:excIn K C rh "ValueError.__new__"=true
section
variable{X:Cx}{c:Str}{C:Addr}{np cpos pos:Pos}{e₀:Expr}{rest:List Expr}{t:TA}
def zz(t:TA)(EW:Hp->Prop):TS:=λ_ σ H=>t σ H λvs H'=>vs.length<=sizeLine/\EW H'
theorem zA{EW:Hp->Prop}(j:XC X.K X.mg c C)(m:Gl X c)(a:X.calm=true)(ha:PA X (e₀::rest) t)
 (n:∀(ac:List (Addr×Obj))(σ:St)(H:Hp)(s:Ux)(h':Heap)(x:Addr)(args:List UA),Inv X ac σ H s->Heap.MadeExcOf s.heap h' x (.ref C) args->EW H->X.xe (.ref x) {s with heap:=h'})
 (k:autoParam (starEach (e₀::rest) X.env=(false,eval e₀ X.env)::starEach rest X.env) az) (f:autoParam (bT X cpos rest) az) (hd:autoParam (dB c) ae) :
 PS X (.Raise (some (.Call (.Name c np) (e₀::rest) [] cpos)) none pos) (zz t EW):=by
 intro ac s σ H D I h;obtain⟨bm,_,N,nm,q,bs,hdct,sn,sub,ab,col,dd,k0,k1,k2,k3,k5,mN,o,p,g,l⟩:=lZ I.ok.mod.IB j.ex;have i:=PySem.F.excBase_ValueError;refine wpAny_Raise_call_subU (C:=C) (nm:=nm) (q:=q) (N:=N) (bs:=bs) (bm:=bm) (hdct:=hdct) (sn:=sn) (sub:=sub) (ab:=ab) (col:=col) (dd:=dd) (k0:=k0) (k1:=k1) (k2:=k2) (k3:=k3) (k5:=k5) (bmB:=rh)
  i (by decide +kernel) i (mN:=mN) (l.hasType i.hasBase) (I.ok.hd a) ?_ g (iX I m j.gl ⟨rfl,?_⟩ hd)
 .rw[k];show(false ||(backTo cpos (starEach rest X.env)).any (·.1))=false;rw[f];rfl
 .have b:=ha cpos ac s σ H _ I h;rw[k]at b ⊢;refine R3 (Rl b (λus s2 ⟨vs,u,d,r,q2⟩=>?_) λ_ _ y=>y);exact⟨rfl,by rw[<- r.length];exact q2.1,d.bk _ _ o,p.keeps d.bk,l.keeps d.bk,λh' e hm=>n ac σ u s2 h' e us d hm q2.2⟩
end
section
variable{M:Model}{A:UB}{E:UA->Ux->Prop}
def nN(c:zy s.heap C bm)(a:zy s.heap C' bm')(n:s.heap.get? e=some oe)(b:oe.cls=.ref C)
 (k:Q ((Value.ref C::bm).contains (.ref C')) s):wpAny M A (excMatches (.ref e) (.ref C')) Q E s:=by
 obtain⟨N,nm,q,bs,hd,sn,sub,ab,col,dd,k0,k1,k2,k3,k5,mN,c,_,_,_⟩:=c;obtain⟨H,o,I,p,r,u,l,v,m,w,x,y,z,B,D,G,a,_,_,i⟩:=a;obtain⟨h,g,d,t,os⟩:=s;have j:(Value.ref C'::bm').contains (.type "BaseException")=true:=by rw[List.contains_cons,i.hasType PySem.F.excBase_ValueError.hasBase,Bool.or_true]
 have f:=tc_notTuple;unfold excMatches
 repeat (first|(with_reducible refine wpAny_loadPart_at n ?_;rw[b])|with_reducible refine wpAny_loadPart_at a ?_|(with_reducible refine wpAny_isSubtype_exc a ?_;rw[j])|with_reducible refine wpAny_isSubtype_exc c ?_|wp_step)
 cases hb:(Value.ref C::bm).contains (.ref C')<;>(rw[hb]at k;wp_walk;exact k)
end
abbrev TX:=St->Hp->VK->XK->Prop
def NM(X:Cx)(e:Expr)(t:TX):Prop:=∀(ac:List (Addr×Obj))(s:Ux)(σ:St)(H:Hp)(Q:VK)(a:XK),Inv X ac σ H s->t σ H Q a->
 wpAny (model X.prog X.w) X.A (eval e X.env) (EP X ac σ Q) (λb c=>∃H1 s1,Inv X ac σ H1 s1/\yP X.prog X.w X.stack H1 s1 a b c) s
section
variable{X:Cx}{k:Nat}{f:Addr}{fd:FuncData}{ps:List Str}{sp:Sp}{dvs:List V}{ds:List UA}{x:Str}{p pos:Pos}{e:Expr}{es:List Expr}{t:TA}
theorem zB(F:bJ X.prog X.w X.K X.mg X.base (yP X.prog X.w) k f fd ps sp)(j:dE k X.A)(l:Gl X x)(hm:X.mg x=some (.ref f))(m:keepIn X.K (.ref f)=true)(hb:Binds X.K fd ps ds)(hd:Vals dvs ds)(ha:PA X.Lm (e::es) t)
 (b:autoParam (dB x) ae) (n:autoParam (sE X e es) az) (c:autoParam (bT X pos es) az) :
 NM X (.Call (.Name x p) (e::es) [] pos) (λσ H Q d=>t σ H λvs H1=>sp (vs++dvs) H1 Q d):=by
 intro ac s σ H Q d I h;refine RJ (iX I l hm ?_ b);refine S6 (h₀:=X.base) I.ok.mod.IB m (Rl (ha pos ac s σ H _ (I.nG _) h) (λus s1 ⟨vs,H1,g,r,q⟩=>⟨g.jK,?_⟩) λ_ _ z=>False.elim z) n c;have J:Inv X ac σ H1 s1:=g.g7;have i:Vals (vs++dvs) (us++ds):=r.append hd;have o:(us++ds).length=ps.length:=by rw[<- i.length];exact F.len _ _ _ _ q
 refine wpAny_call (S1 (F.run X.A X.stack s1 H1 ⟨us,[]⟩ (us++ds) (vs++dvs) Q d j J.ID (hb s1 us J.jK o) i q) λr v a=>?_);cases r with
 |error y=>exact⟨H1,s1,J,a⟩
 |ok fl=>
  cases fl with
  |ret u=>exact J.after a
  |next=>exact False.elim a
  |brk=>exact False.elim a
  |cont=>exact False.elim a
end
abbrev Cx.caught(X:Cx)(x:Addr):Cx:={X with A:=X.A.mark (some (.ref x)),calm:=false,xe:=λ_ _=>False}
section
variable{X:Cx}{ac:List (Addr×Obj)}{σ:St}{H:Hp}{s:Ux}{x:Addr}
theorem Inv.caught(I:Inv X ac σ H s)(x:Addr):Inv (X.caught x) ac σ H s:=⟨⟨I.ok.mod,I.ok.kind,I.ok.glob,I.ok.blt,I.ok.above,I.ok.inj,I.ok.has,I.ok.Ik,(λz=>by cases z),I.ok.frames,I.ok.aS,I.ok.LL,I.ok.bs,I.ok.B3,I.ok.vm,I.ok.yC,I.ok.ku,I.ok.E5,I.ok.kt⟩,I.os,I.bare,I.base,I.loc,I.cell,I.free,I.fO,I.pin,I.aT,I.len⟩
def Inv.uncaught(I:Inv (X.caught x) ac σ H s)(ok:X.Ok):Inv X ac σ H s:=⟨ok,I.os,I.bare,I.base,I.loc,I.cell,I.free,I.fO,I.pin,I.aT,I.len⟩
theorem SP.uncaught{D:Ends}{f:Flow}{b:Ux}(h:SP (X.caught x) ac D f b)(ok:X.Ok):SP X ac D f b:=by
 cases f with
 |next=>obtain⟨a,H',I,q⟩:=h;exact⟨a,H',I.uncaught ok,q⟩
 |brk=>obtain⟨a,H',I,q⟩:=h;exact⟨a,H',I.uncaught ok,q⟩
 |cont=>obtain⟨a,H',I,q⟩:=h;exact⟨a,H',I.uncaught ok,q⟩
 |ret u=>obtain⟨v,a,H',I,r,q⟩:=h;exact⟨v,a,H',I.uncaught ok,r,q⟩
def Inv.landed{H1:Hp}{s1 a:Ux}{B:Heap}{h:Heap}{C t:Addr}{g6:Array GenState}{l:List Env}(I:Inv X ac σ H1 s1)(os:a.os=s1.os)(bare:AllBare a.gens)(un:Un (ij X.stack) [] H1 H s1.heap a.heap)(aT:HOk X.prog X.w H a.heap)(c:Heap.FlyingW B X.stack x (.ref C) (.ref t) a.heap)
 (qQ:∀b u,H b=some u->∃o,B.get? b=some o) (i:∀b o,s1.heap.get? b=some o->Qt H1 b->b∉ij X.stack->B.get? b=some o) (j:∀b o,s1.heap.get? b=some o->b∉ij X.stack->∃f,B.get? b=some f)
 (st:B.StaysIn h) (up:a.heap.UpToSlots h):Inv X ac σ H {a with heap:=h}:=by
 have k:∀b,b∈ij X.stack->∀o,a.heap.get? b=some o->∀vs,o.data≠.fields vs:=λb hb o e=>by obtain⟨_,f,m,d⟩:=c.2.2.1.mem hb;rw[e]at m;cases m;exact d
 refine I.FU (ch:=[]) os ⟨λb o e n hb _=>st b o (i b o e n hb),λb o e n hb _=>?_,λb o e n p=>un.free b o e n p,λb o e p=>?_,un.iU,un.jh,un.lz⟩ (kC aT qQ c.1 st) bare λb z=>absurd z (by simp)
 .obtain⟨r,e1⟩:=un.slot b o e n hb (by simp);obtain⟨g,e2⟩:=up b _ e1 (k b hb _ e1);exact⟨g,e2⟩
 .by_cases hb:b∈ij X.stack
  .obtain⟨o1,e1⟩:=un.there b o e (by simp);obtain⟨g,e2⟩:=up b _ e1 (k b hb _ e1);exact⟨_,e2⟩
  .obtain⟨f,q⟩:=j b o e hb;exact⟨f,st b f q⟩
end
def oG(X:Cx)(a:Addr)(b:TS)(D:Ends)(σ:St):XK:=λcls _ H1=>∃C,cls=.ref C/\excIn X.K C rh "ValueError.__new__"=true/\(nM X.K C).contains (.ref a)=true/\b D σ H1
section
variable{X:Cx}{hc:Str}{Ch:Addr}{np hpos pos epos:Pos}{b₀:Stmt}{suite:List Stmt}{ts:TS}{te:TX}{e:Expr}
theorem ud{ac:List (Addr×Obj)}{σ:St}{D:Ends}{r:UA}{d:Ux}(g:X.stack=X.env::X.outer)(J:X.env.frame=some X.env.locals)(H:XC X.K X.mg hc Ch)(L:Gl X hc)(hs:∀x,PSs (X.caught x) (b₀::suite) ts)
 (h:∃H1 s1,Inv X ac σ H1 s1/\yP X.prog X.w X.stack H1 s1 (oG X Ch ts D σ) r d) (s:autoParam (dB hc) ae) :
 wX X (noteFrame r X.env) (λ_ s2=>wX X (setFlight r none) (λ_ M=>wX X (handleBy r X.env [.ExceptHandler (some (.Name hc np)) none (b₀::suite) hpos]) (SP X ac D) X.xe M) X.xe s2) X.xe d:=by
 obtain⟨H1,s1,u,x,C,t,B,H',rfl,os,bare,un,aT,c,qQ,i,j,N,W,O,hex,k,q⟩:=h;cases O;have m:Heap.FlyingW B (X.env::X.outer) x (.ref C) (.ref t) d.heap:=g▸c;have fr:X.A.frames=some (X.env::X.outer):=g▸u.ok.frames;refine wpAny_looks_onW fr J m λY n v=>?_;refine wpAny_landsW n λP a y=>?_;have b:=v.trans y;have E:Inv X ac σ H' {d with heap:=P}:=u.landed (l:=[]) (g6:=#[]) os bare un aT c qQ i j a.1 b;obtain⟨bm,em,Q⟩:=lZ E.jK hex;obtain⟨R,S,F⟩:=lZ E.jK H.ex;obtain⟨Z,T,o⟩:=a.there;refine wpAny_handleBy_cons (codeAny_handlers_test (iX (X:=X.caught x) (E.caught x) L H.gl ?_ s)) (by intro z;cases z);refine nN Q F T o ?_;rw[em]at k;rw[k];refine codeAny_handlers_suite ?_;refine lands_againW a λU p G=>?_;have I:Inv X ac σ H' {d with heap:=U}:=u.landed (l:=[]) (g6:=#[]) os bare un aT c qQ i j p.1 (b.trans G);exact Rl (hs x ac _ σ H' D (I.caught x) q) (λf s7 V=>V.uncaught I.ok) λ_ _ z=>False.elim z
theorem C7{i:Nat}{y:Str}{f:Pos}(g:X.N.Nodup)(j:X.N[i]?=some y)(k:IT X.env.scope y)(a:X.stack=X.env::X.outer)(l:X.env.frame=some X.env.locals)(m:XC X.K X.mg hc Ch)(n:Gl X hc)(o:NM X e te)(hs:∀x,PSs (X.caught x) (b₀::suite) ts)
 (b:autoParam (swapsWith e (some (.Name y f)) epos.line X.env=pure false) az) (c:autoParam (dB hc) ae) (d:autoParam (X.fn y=true\/X.env.scope.names.lookup y=some .local) UD._auto_1) :
 PS X (.Try [.Assign [.Name y f] e epos] [.ExceptHandler (some (.Name hc np)) none (b₀::suite) hpos] [] [] pos) (λD σ H=>te σ H (λv H1=>D.nx (σ.set i (some v)) H1) (oG X Ch ts D σ)):=by
 intro ac s σ H D I h;refine wpAny_Try_except ?_;refine wpAny_execs_cons (wpAny_Assign_Name (Rl (o ac s σ H _ _ I h) (λv s1 ⟨z,H1,p,q,q1⟩=>?_) λt u z=>?_) b)
 .exact lM p g j k q (λs2 r=>Ss (Ss ⟨_,H1,r,q1⟩)) d
 .exact ud a l m n hs z c
end
end L2
namespace L2
open PySem PySem.Spec PySem.Calls PyProof.Rows
def li
 (m:s.heap.get? a=some o) (n:o.cls=.type "list") (b:o.data=.seq xs k) (hd:o.dict=none) (f:typeLookup (.type "list") name=pure none) (i:(["__module__","__name__","__qualname__","__doc__","__annotations__"]:List Str).contains name=false) (q:A.handled=none)
 (h:∀h' tk e,Heap.NewExcOf s.heap h' e "AttributeError"->Q none {s with heap:=h',toks:=tk}) (hsz:name.length+100<=sizeLine:=by size_fits) :
 wpAny (model prog w) A (getAttr? (.ref a) name) Q E s:=by
 obtain⟨c,r,t,u⟩:=o;simp only at n b hd;subst n b hd;obtain⟨v,g,d,tk,os⟩:=s;have p:∀j,(⟨v,g,d,j,os⟩ : Ux).TypeIs (.ref a) "list":=λ_=>⟨_,m,rfl⟩;have x:=sub_AttributeError;have y:=PySem.F.slot_list_getattribute.lookup;have z:=PySem.F.slot_list_getattribute.bind (.ref a);have f5:=am_list_getattr_none;unfold getAttr? getAttrBy? getAttrBy
 repeat (any_goals (first|assumption|exact p _|((with_reducible show wpAny _ _ (call (Value.builtin "list.__getattribute__") _ _) _ _ _);refine call_meets PySem.F.slot_list_getattribute (p _) am_entry_list_getattribute (PySem.F.args_list_getattribute_2 _ _) (meets_getattribute_miss_list a xs k u name _ f i hsz) ⟨m,q,λh' j e l=>?_⟩)|wp_step))
 obtain⟨t',B,C⟩:=l.there;show wpAny _ _ (getattributeRaised _ _ _ _ _ _ _) _ _ _;unfold getattributeRaised
 repeat (any_goals (first|assumption|wp_step))
 exact h _ _ _ l.of
abbrev jm:=List bI×Addr×UA
def vI(xs:List jm)(its:List jm):List jm:=its.foldl (λxs x=>storedH xs x.1 x.2.1 x.2.2) xs
def jR:entryFor table "dict.update.loop"=some Builtin.«dict.update.loop»:=entryFor_of_tree (by kernel_rfl)
def e_:plainId "dict.update.loop"=true:=by decide +kernel
section
variable{prog:Uz}{w:World}
abbrev tK(prog:Uz)(w:World):=tupleKind (aK prog w)
def DRaw(prog:Uz)(w:World)(h:Heap)(S:Addr)(xs:List jm):Prop:=∃o es ep,h.get? S=some o/\o.ExactDict/\o.data=.dict es ep/\es.toList=xs.map (entryOfKey (tK prog w))/\(xs.map (·.1)).Nodup
def gE(x:(tK prog w).is h k a)(e:∀b o,h.get? b=some o->h'.get? b=some o):(tK prog w).is h' k a:=by obtain⟨o,c,n,h1,r⟩:=x;exact⟨o,c,n,e _ _ h1,r⟩
def DRaw.of(d:DRaw prog w h S xs)(ks:∀x∈xs,(tK prog w).is hb x.1 x.2.1)(e:∀b o,hb.get? b=some o->h.get? b=some o):h.DictOfH (tK prog w) S xs:=by obtain⟨o,es,ep,h1,h2,h3,a,c⟩:=d;exact⟨o,es,ep,h1,h2,h3,a,λx f=>gE (ks x f) e,c⟩
def uf(ks:∀x∈xs,(tK prog w).is hb x.1 x.2.1)(b:(tK prog w).is hb k a):∀x∈storedH xs k a v,(tK prog w).is hb x.1 x.2.1:=by
 unfold storedH;split
 .intro x hx;obtain⟨y,c,rfl⟩:=Pt.mp hx;have:=ks y c;unfold putAt;split<;>exact this
 .intro x hx;rcases PP.mp hx with hx|hx
  .exact ks x hx
  .simp at hx;subst hx;exact b
def ri{xs:List jm}{k:List bI}:(storedH xs k a v).length<=xs.length+1:=by
 unfold storedH;split
 .rw[Ps];lia
 .rw[PJ];simp
variable{A:UB}{R:Result->Ux->Prop}{I:Addr}{fp wr:List Addr}{G:Array GenState->Array GenState->Prop}{n:Nat}{P:Nat->UA->Prop}{St:Nat->Ux->Prop}
def jS(W:WalksS prog w A.in1 I fp wr G n P St)(S:Addr)(m:S∉fp)(Z:A.in1.units<cLine)(hb:Heap)(hbS:hb.get? S=none)(hbw:∀b∈wr,hb.get? b=none)(its:List jm)(hn:its.length=n)
 (q:∀i v,P i v->∃p x,v=.ref p/\its[i]?=some x/\hb.IsTuple p #[.ref x.2.1,x.2.2]/\(tK prog w).is hb x.1 x.2.1) (hsz:n<=sizeLine) :
 ∀(k i:Nat)(s:Ux)(xs:List jm)(j:Int),n-i=k->i<=n->St i s->(∀b o,hb.get? b=some o->s.heap.get? b=some o)->(∀x∈xs,(tK prog w).is hb x.1 x.2.1)->xs.length<=i->
  DRaw prog w s.heap S xs->
  (∀c,Moved (S::wr) G s c->c.heap.DictOfH (tK prog w) S (vI xs (its.drop i))->R (.ok (.ret .none)) c)->
  codeAny (model prog w) A (.builtin "dict.update.loop" ⟨[.ref S,.ref I,rawInt j,.none],[]⟩) R s:=by
 have r:S∉wr:=λh=>m (W.sub _ h);have d:∀b∈wr,b∈S::wr:=λb hb=>Pw _ hb;intro k;induction k with
 |zero=>
  intro i s xs j hk hi f K ks F H J;have L:i=n:=by lia
  subst L;refine Rg jR ?_;rw[Rn e_ _];show wpAny _ A.in1 (pyNext (.ref I) >>= _) _ _ s;refine KE (W.done s _ _ f λc hm=>?_);have M:=J c (hm.mono d) (by rw[List.drop_of_length_le (by lia)];obtain⟨o,es,ep,N,rest⟩:=H;exact DRaw.of (hb:=hb) ⟨o,es,ep,hm.heap S _ r N,rest⟩ ks λb o e=>hm.heap b o (λz=>by grind) (K b o e));show wpAny _ A.in1 (Builtin.Dict.addKeywords S [] >>= λ_=>ret Value.none) _ _ c;exact KE (Po (Po M))
 |succ k ih=>
  intro i s xs j hk hi f K ks F H J;have t:i<n:=by lia
  refine Rg jR ?_;rw[Rn e_ _];show wpAny _ A.in1 (pyNext (.ref I) >>= _) _ _ s;refine KE (W.item i s _ _ t f λv c hP u hm=>?_);obtain⟨p,x,rfl,X,ht,Y⟩:=q i v hP;have y:∀b o,hb.get? b=some o->c.heap.get? b=some o:=λb o e=>hm.heap b o (λz=>by grind) (K b o e);obtain⟨ot,B,O,nt,Q⟩:=ht;have hT:c.TypeIs (.ref p) "tuple":=⟨ot,y _ _ B,O⟩;have T:DRaw prog w c.heap S xs:=by obtain⟨o,es,ep,N,rest⟩:=H;exact⟨o,es,ep,hm.heap S _ r N,rest⟩
  refine KE (Qz ?_);refine KE ?_;refine Uc ?_;unfold Builtin.Dict.pairItems;refine KE (R9 hT ?_);rw[PN (by decide)];refine KE (Tw (y _ _ B) Q ?_);refine Po ?_;show wpAny _ A.in1 (holding [Value.ref x.2.1,x.2.2] (dictSet S (.ref x.2.1) x.2.2)) _ _ c;refine Qz ?_;refine wpAny_dictSet_heap (knd:=tK prog w) (hsz:=by lia) Z (gE Y y) (DRaw.of T ks y) λh' U g=>?_;have K2:∀b o,hb.get? b=some o->h'.get? b=some o:=λb o e=>(g.2 b (λz=>by grind)).trans (y b o e);have l:its.drop i=x::its.drop (i+1):=by
   have C:i<its.length:=by lia
   rw[SJ C];rw[Px C]at X;rw[QH X]
  refine Po ⟨RN e_ _,ih (i+1) _ (storedH xs x.1 x.2.1 x.2.2) (j+1) (by lia) t (W.frame _ c _ _ u (TF _ _) λb hb o e=>?_) K2 (uf ks Y) (by have:=ri (xs:=xs) (k:=x.1) (a:=x.2.1) (v:=x.2.2);lia) ?_ λV D E=>?_⟩
  .rw[g.2 b (λh:b=S=>m (by grind))];exact e
  .obtain⟨o,es,ep,h1,h2,h3,h4,_,h5⟩:=U;exact⟨o,es,ep,h1,h2,h3,h4,h5⟩
  .refine J V (Moved.trans W.gtrans ((hm.mono d).then_heap (TF _ _) λb o hb e=>?_) D) (by rw[l];exact E);rw[g.2 b (λh:b=S=>hb (by grind))];exact e
end
section
variable{prog:Uz}{w:World}{A:UB}{E:UA->Ux->Prop}{s:Ux}
theorem lj(C:A.handled=none)(H:A.in1.in1.units<cLine)(t:s.heap.get? l=some { cls:=.type "list",data:=.seq items nl }) (I:its.length=items.size) (hsz:items.size<=sizeLine)
 (d:∀(i:Nat)(v:UA),items[i]?=some v->∃(p:Addr)(x:jm),v=.ref p/\its[i]?=some x/\s.heap.IsTuple p #[.ref x.2.1,x.2.2]/\(tK prog w).is s.heap x.1 x.2.1)
 (h:∀(h':Heap)(tk:Nat),h'.DictOfH (tK prog w) s.heap.objs.size (vI [] its)->(∀b o,b<s.heap.objs.size->s.heap.get? b=some o->h'.get? b=some o)->Q (.ref s.heap.objs.size) {s with heap:=h',toks:=tk}) :
 wpAny (model prog w) A (call (.type "dict") [.ref l]) Q E s:=by
 refine callType_codes (Q₁:=λobj c=>obj=.ref s.heap.objs.size/\c={ s with heap:=s.heap.push { cls:=.type "dict",data:=.dict #[] } }) PySem.F.kt_called_dict (PySem.F.kt_typeCall_dict_1 _) PySem.F.entry_dict_init (kt_code_dict_new _ ⟨rfl,rfl⟩) ?_;rintro obj c ⟨rfl,rfl⟩;have D:(s.heap.push { cls:=.type "dict",data:=.dict #[] }).get? s.heap.objs.size=some { cls:=.type "dict",data:=.dict #[] }:=PH _ rfl;have G:Shared.TypeIs { s with heap:=s.heap.push { cls:=.type "dict",data:=.dict #[] } } (.ref s.heap.objs.size) "dict":=⟨_,D,rfl⟩;refine⟨G,PySem.F.args_dict_init_2 _ _,?_⟩;unfold Builtin.«dict.__init__»;refine KE ?_;unfold Builtin.Dict.selfAndRest;refine KE (Rh G ?_);show wpAny _ _ (pure (s.heap.objs.size,[Value.ref l])) _ _ _;refine Po ?_;show wpAny _ _ (Builtin.Dict.updateFrom "dict.__init__" s.heap.objs.size (.ref l) [] .none) _ _ _;unfold Builtin.Dict.updateFrom;have f:(s.heap.push { cls:=.type "dict",data:=.dict #[] }).get? l=some { cls:=.type "list",data:=.seq items nl }:=Pp _ t;refine KE (R9 ⟨_,f,rfl⟩ ?_);rw[PN (by decide)];refine KE (li (s:={ s with heap:=s.heap.push { cls:=.type "dict",data:=.dict #[] } }) f rfl rfl rfl (am_miss_of_fast (by decide +kernel)) (by decide +kernel) (by simp[C]) λh1 tk1 e1 g=>?_);rw[PN (by decide)];refine KE (S3 ?_);have k1:∀b o,s.heap.get? b=some o->h1.get? b=some o:=λb o e=>g.keeps b o (Pp _ e);have j:h1.get? l=some { cls:=.type "list",data:=.seq items nl }:=k1 _ _ t;have k:h1.get? s.heap.objs.size=some { cls:=.type "dict",data:=.dict #[] }:=g.keeps _ _ D;have a:s.heap.objs.size<h1.objs.size:=PD k;have m:l<s.heap.objs.size:=PD t;refine KE (Tl (s:=⟨h1,s.gens,s.drawn,tk1,s.os⟩) ⟨_,j,rfl,nl,rfl⟩ ?_);have u:A.in1.in1.handled=none:=by simp[C]
 have n:∀b,s.heap.objs.size<=b->s.heap.get? b=none:=λb hb=>by
  cases q:s.heap.get? b with
  |none=>rfl
  |some o=>exact absurd (PD q) (Nat.not_lt.mpr hb)
 have r:l≠h1.objs.size:=P7 (Nat.lt_trans m a);have k2:∀b o,h1.get? b=some o->(h1.push { cls:=.type "list_iterator",data:=.fields #[.ref l,.int 0 0] }).get? b=some o:=λb o e=>Pp _ e;refine Po ⟨RN e_ _,jS (A:=A.in1) ((Walks.list u h1.objs.size l r items).toS) s.heap.objs.size ?_ H s.heap (n _ (Pq _)) ?_ its I d hsz (items.size-0) 0 _ [] 0 rfl (PQ _) ⟨⟨_,PH _ rfl,rfl,rfl⟩,⟨_,k2 _ _ j,rfl,nl,rfl⟩⟩ (λb o e=>k2 _ _ (k1 b o e)) (λx J=>nomatch J) (Pq _) ⟨_,#[],0,k2 _ _ k,?_,rfl,rfl,Qn⟩ ?_⟩
 .simp only[PB,PV,Ua,not_or];exact⟨P7 a,RV m⟩
 .intro b hb;simp only[PB,PV,Ua]at hb;subst hb;exact n _ (Re a)
 .exact⟨rfl,rfl,rfl⟩
 .intro K hm y;obtain⟨h',g',d',z,B⟩:=K;have L:g'=s.gens:=hm.gens;have M:d'=s.drawn:=hm.drawn;have N:B=s.os:=hm.os;subst L;subst M;subst N;refine⟨rfl,h h' z y λb o hb e=>hm.heap b o ?_ (k2 _ _ (k1 _ _ e))⟩;simp only[PB,PV,Ua,not_or];exact⟨P7 hb,P7 (Nat.lt_trans hb a)⟩
end
def eQ(t kvs:List (List bI×V)):List (List bI×V):=kvs.foldl (λt x=>cg t x.1 x.2) t
def i6(H:Hp):List V->List (List bI×V)->Prop:=Paired λv kv=>∃p a,v=.ref p/\H p=some (.tup [.ref a,kv.2])/\H a=some (.tup (kv.1.map kV))
section
variable{P:Uz}{w:World}{H:Hp}{h:Heap}
theorem oH(ok:HOk P w H h):∀{vs:List V}{us:List UA}{kvs:List (List bI×V)},i6 H vs kvs->Vals vs us->
 ∃its:List jm,its.length=us.length/\(∀(i:Nat)(v:UA),us[i]?=some v->∃(p:Addr)(x:jm),v=.ref p/\its[i]?=some x/\h.IsTuple p #[.ref x.2.1,x.2.2]/\(tK P w).is h x.1 x.2.1)/\
  ∀t xs,KT H t xs->KT H (eQ t kvs) (vI xs its)
 |_,_,_,.nil,.nil=>⟨[],rfl,λi v e=>by simp at e,λt xs r=>r⟩
 |_,_,_,.cons (a:=v) (b:=kv) q t,.cons (b:=u) r s=>by
  obtain⟨its,j,k,l⟩:=oH ok t s;obtain⟨p,d,rfl,m,c⟩:=q;cases r;obtain⟨_,is,o,y,z,A,n,hd⟩:=(show ObjOk P w H h p (.tup [.ref d,kv.2])from ok p _ m);obtain⟨u1,u2,rfl,f,g⟩:=qW o;cases f;refine⟨(kv.1,d,u2)::its,by simp[j],λi v e=>?_,λt xs rt=>?_⟩
  .cases i with
   |zero=>simp at e;subst e;exact⟨p,(kv.1,d,u2),rfl,rfl,⟨y,z,A,n,hd⟩,d5 ok c⟩
   |succ i=>exact k i v (by simpa using e)
  .exact l _ _ (rt.put kv.1 c g)
theorem l_:∀(kvs t:List (List bI×V)),(eQ t kvs).length<=t.length+kvs.length
 |[],t=>Pq _
 |x::r,t=>by have:=l_ r (cg t x.1 x.2);have h2:=eh t x.1 x.2;show(eQ (cg t x.1 x.2) r).length<=_;simp only[P8];lia
end
section
variable{X:Cx}
def ug(j:X.calm=true)(C:X.A.units+64<cLine):bV X (.type "dict") (λxs H Q=>∃l vs kvs,xs=[.ref l]/\Rd H l (.lst vs)/\i6 H vs kvs/\∀p,H p=none->Q (.ref p) (upd H p (.dT (eQ [] kvs)))):=by
 intro ac s σ H xs us Q I r h;obtain⟨l,vs,kvs,rfl,k,c,q⟩:=h;obtain⟨u,rfl,ru⟩:=dU r;obtain rfl:u=Value.ref l:=ru;obtain⟨hz,its,n,d,m⟩:=(show ObjOk X.prog X.w H s.heap l (.lst vs)from k.ok I.aT);obtain⟨f,pl,pv,t⟩:=oH I.aT c d;have hsz:its.toArray.size<=sizeLine:=by rw[PL,<- d.length];exact hz
 refine lj (I.ok.hd j) (by show X.A.units+1+1<cLine;lia) m (its:=f) (by rw[pl,PL]) hsz (λi v e=>pv i v (by simpa using e)) λh' tk x y=>?_;have g:H s.heap.objs.size=none:=I.aT.fresh (Pq _);refine⟨.ref s.heap.objs.size,_,I.laid (a:=s.heap.objs.size) (o:=.dT (eQ [] kvs)) (t':=tk) (λb o e=>y b o (PD e) e) (Pq _) ?_,rfl,q _ g⟩;obtain⟨o,es,ep,h1,h2,h3,z,_,B⟩:=x;refine⟨?_,Ru.mpr (QQ (P7 I.big)),vI [] f,(t [] [] .nil).keeps λb D e=>?_,o,es,ep,h1,h2,h3,z,B⟩
 .have:=l_ kvs [];have h2:=Rk c;simp only[Sw]at this;lia
 .rw[ai (ax e g)];exact e
end
section
def Inv.NL(I:Inv X ac σ H s)(e:H a=some (.dK [])):Inv X ac σ (upd H a (.dT [])) s:=by
 obtain⟨z,y,vs,r,o,es,ep,h1,h2,h3,d,c⟩:=(show ObjOk X.prog X.w H s.heap a (.dK [])from I.aT a _ e);cases r;exact I.write (x:=a) (e:=a) (t':=s.toks) (h':=s.heap) (by rw[e];exact True.intro) (.inl rfl) (λb u _ q=>q) ⟨o,h1⟩ ⟨z,y,[],.nil,o,es,ep,h1,h2,h3,(by
  generalize es.toList=l at c;obtain⟨c,_⟩:=c;cases l with
  |nil=>rfl
  |cons x r=>cases c),Qn⟩
end
def Fd(H:Hp)(a:Addr)(y:V)(r:Option V):Prop:=DGet H a y r\/(Rd H a (.dT [])/\(∃k,y=kV k)/\r=none)\/(Rd H a (.dK [])/\(∃(b:Addr)(k:List bI),y=.ref b/\H b=some (.tup (k.map kV)))/\r=none)
section
def pG(x:ObjOk P w H h a (.dT [])):(a==sysModules)=false/\h.DictOf (aK P w) a []:=by
 obtain⟨z,y,xs,r,o,es,ep,h1,h2,h3,c,d⟩:=x;cases r;have e:es=#[]:=by grind
 subst e;exact⟨y,o,#[],ep,h1,h2,h3,λx b=>by simp at b,by constructor,Qn⟩
def zC(x:ObjOk P w H h a (.dK [])):(a==sysModules)=false/\h.DictOfH (tupleKind (aK P w)) a []:=by
 obtain⟨z,y,vs,r,o,es,ep,h1,h2,h3,d,b⟩:=x;cases r;refine⟨y,o,es,ep,h1,h2,h3,?_,λx c=>(nomatch c),Qn⟩;generalize es.toList=l at b;obtain⟨b,_⟩:=b;cases l with
 |nil=>rfl
 |cons x r=>cases b
def zD(d:A.units+1<cLine)(I:Inv X ac σ H s)(g:Fd H a y o)(c:RelV y u)(h:∀f,Inv X ac σ H f->Q (.bool (!o.isSome)) f) :
 wpAny (model X.prog X.w) A (compareOp .NotIn u (.ref a)) Q E s:=by
 rcases g with g|⟨e,⟨k,rfl⟩,rfl⟩|⟨e,⟨b,k,rfl,i⟩,rfl⟩
 .exact C4 d I g c h
 .obtain⟨y,dd⟩:=pG (e.ok I.aT);exact wpAny_notIn_of (jP c) y dd.mapOf (h _ (I.tok _))
 .obtain rfl:u=Value.ref b:=c;obtain⟨y,dd⟩:=zC (e.ok I.aT);exact wpAny_notIn_heap (RK d) (d5 I.aT i) y dd (h _ (I.tok _))
end
def nO:HO->Prop
 |.dK _=>True
 |.dT _=>True
 |_=>False
section
def Inv.view(I:Inv X ac σ H s)(hn:∀b,H b=none->H' b=none)(ht:∀b xs,H b=some (.tup xs)->H' b=some (.tup xs))(hf:∀b o u,X.H₀ b=some (.bP o u)->H' b=some (.bP o u))
 (hb:∀b ps,H b=some (.qN ps)->H' b=some (.qN ps)) (aT:HOk X.prog X.w H' s.heap):Inv X ac σ H' s where
 ok:=I.ok
 os:=I.os
 bare:=I.bare
 base:=⟨I.base.keep,I.base.slot,λb o e n hx=>hn b (I.base.free b o e n hx),I.base.there,λb xs e=>ht b xs (I.base.iU b xs e),hf,λb ps e=>let ⟨m,q⟩:=I.base.lz b ps e;⟨m,hb b _ q⟩⟩
 loc:=I.loc
 cell:=I.cell
 free:=hn _ I.free
 fO:=λx c e=>hn c (I.fO x c e)
 pin:=λp hp=>let ⟨a,b,c⟩:=I.pin p hp;⟨a,hn _ b,c⟩
 aT:=aT
 len:=I.len
def vJ(ok:HOk P w H h)(hd:∃u,H d=some u/\(∀y,u≠.own y)/\∀xs,u≠.tup xs)(new:ObjOk P w (upd H d u') h d u'):HOk P w (upd H d u') h:=λb v e=>by
 obtain⟨u,a,h1,h2⟩:=hd;by_cases hb:b=d
 .subst hb;rw[ag]at e;cases e;exact new
 .rw[ai hb]at e;refine(ok b v e).stay (λ_ _ _ q=>q) (λc q=>?_) λc xs q=>?_
  .rw[ai]
   .exact q
   .rintro rfl;rw[a]at q;cases q;exact h1 _ rfl
  .rw[ai]
   .exact q
   .rintro rfl;rw[a]at q;cases q;exact h2 _ rfl
def vK(h:nO u):(∀y,u≠.own y)/\(∀xs,u≠.tup xs)/\(∀ps,u≠.qN ps)/\∀o v,u≠.bP o v:=by cases u<;>first|exact h.elim|exact⟨λ_ z=>(nomatch z),λ_ z=>(nomatch z),λ_ z=>(nomatch z),λ_ _ z=>(nomatch z)⟩
def oI(a:nO u)(x:ObjOk P w H h d u)(c:∀b xs,H b=some (.tup xs)->H' b=some (.tup xs)):ObjOk P w H' h d u:=by
 cases u with
 |dK kvs=>exact x
 |dT kvs=>obtain⟨z,y,xs,r,q⟩:=x;exact⟨z,y,xs,Paired.E6 r λp q z=>⟨z.1,c _ _ z.2.1,z.2.2⟩,q⟩
 |_=>exact a.elim
theorem Inv.bP(I:Inv X ac σ H s)(e:H d=some u)(a:nO u)(f:s.heap.get? d=some o):Inv X ac σ (upd H d (.bP o u)) s:=by
 obtain⟨n1,n2,g,h⟩:=vK a;have c:∀b xs,H b=some (.tup xs)->upd H d (.bP o u) b=some (.tup xs):=λb xs q=>by
  rw[ai]
  .exact q
  .rintro rfl;rw[e]at q;cases q;exact n2 _ rfl
 refine I.view (λb hb=>?_) c (λb i j q=>?_) (λb ps q=>?_) (vJ I.aT ⟨u,e,n1,n2⟩ ⟨f,oI a (I.aT d u e) c⟩)
 .rw[ai]
  .exact hb
  .rintro rfl;rw[e]at hb;cases hb
 .have q:=I.base.jh b i j q;rw[ai]
  .exact q
  .rintro rfl;rw[e]at q;cases q;exact h _ _ rfl
 .rw[ai]
  .exact q
  .rintro rfl;rw[e]at q;cases q;exact g _ rfl
def Inv.FX(I:Inv X ac σ H s)(e:H d=some u)(a:nO u):∀o v,X.H₀ d≠some (.bP o v):=λo v q=>by have:=I.base.jh d o v q;rw[e]at this;cases this;exact(vK a).2.2.2 _ _ rfl
def Inv.Lq(I:Inv X ac σ H s)(e:H d=some (.bP o u))(c:nO u)(f:∀o v,X.H₀ d≠some (.bP o v)):Inv X ac σ (upd H d u) s:=by
 have a:∀b xs,H b=some (.tup xs)->upd H d u b=some (.tup xs):=λb xs q=>by
  rw[ai]
  .exact q
  .rintro rfl;rw[e]at q;cases q
 have x:ObjOk X.prog X.w H s.heap d u:=(show ObjOk X.prog X.w H s.heap d (.bP o u)from I.aT d _ e).2;refine I.view (λb hb=>?_) a (λb g h q=>?_) (λb ps q=>?_) (vJ I.aT ⟨_,e,λ_ z=>(nomatch z),λ_ z=>(nomatch z)⟩ (oI c x a))
 .rw[ai]
  .exact hb
  .rintro rfl;rw[e]at hb;cases hb
 .have q2:=I.base.jh b g h q;rw[ai]
  .exact q2
  .rintro rfl;exact f _ _ q
 .rw[ai]
  .exact q
  .rintro rfl;rw[e]at q;cases q
end
def C8(h:(aK P w).is k u=true):RelV (kV k) u:=by
 rcases bC (show jj k u=true from h)with⟨i,t,rfl,rfl⟩|⟨x,t,rfl,rfl⟩
 .exact⟨t,rfl⟩
 .exact⟨t,rfl⟩
section
def Gu(X:Cx)(D:Ends):Ends where
 nx:=λσ H=>D.nx σ H\/∃d o u,H d=some (.bP o u)/\nO u/\(∀o v,X.H₀ d≠some (.bP o v))/\D.nx σ (upd H d u)
 rt:=D.rt
 bk:=D.bk
 ct:=D.ct
def ma{st:Stmt}(h:PS X st t):PS X st (λD σ H=>t (Gu X D) σ H):=by
 intro ac s σ H D I q;refine cD (h ac s σ H _ I q) λf i r=>?_;cases f with
 |next=>
  obtain⟨a,H',b,r⟩:=r;rcases r with r|⟨d,o,u,e,c,g,r⟩
  .exact⟨a,H',b,r⟩
  .exact⟨a,_,b.Lq e c g,r⟩
 |_=>exact r
end
section
def Gv(I:Inv X ac σ H s)(e:Rd H a (.dK kvs)\/(Rd H a (.dT [])/\kvs=[])) :
 kvs.length<=sizeLine/\(a==sysModules)=false/\∃vs,KV kvs vs/\s.heap.DictOf (aK X.prog X.w) a vs:=by
 rcases e with e|⟨e,rfl⟩
 .exact iB I.aT e
 .obtain⟨y,dd⟩:=pG (e.ok I.aT);exact⟨PQ _,y,[],.nil,dd⟩
end
section
def Gw{k:bI}{i dflt:UA}{Q:UA->Ux->Prop}(m:(aK prog w).is k i=true)(hm:s.heap.DictOf (aK prog w) d vs)(n:valueAt vs k=none)
 (h:∀h',h'.DictOf (aK prog w) d (stored vs k dflt)->Heap.SameBut d s.heap h'->Q dflt {s with heap:=h',toks:=s.toks+1}) (hsz:vs.length<=sizeLine):wpAny (model prog w) A (dictSetDefault d i dflt) Q E s:=by
 obtain⟨o,es,ep,p,v,hd,u,q,y⟩:=hm;have r:es.size<=sizeLine:=by
  have e1:=q.length;have e2:es.toList.length=es.size:=by simp
  lia
 have c:vs.findIdx? (λkv=>decide (kv.1=k))=none:=by
  rw[List.findIdx?_eq_none_iff];intro x z;refine QA λe=>?_;have:(valueAt vs k).isSome=true:=by unfold valueAt;rw[Ug,List.find?_isSome];exact⟨x,z,P3 e⟩
  rw[n]at this;cases this
 have j:(es.findIdx? λe=>(aK prog w).is k e.key)=none:=by
  have:(es.findIdx? λe=>(aK prog w).is k e.key)=vs.findIdx? λkv=>decide (kv.1=k):=by rw[<- q.findIdx k];obtain⟨l⟩:=es;simp
  rw[this];exact c
 have f:k∉vs.map (·.1):=not_mem_of_findIdx_none c;have g:¬(vs.any λkv=>decide (kv.1=k))=true:=by rw[List.any_eq_true];rintro⟨kv,t,B⟩;exact f (Pt.mpr ⟨kv,t,Qa B⟩)
 unfold dictSetDefault
 try with_reducible refine Qz ?_
 refine KE ((aK prog w).pyHash m ?_);refine KE (wpAny_dictFind_of (s:={s with toks:=s.toks+1}) m p hd u ?_);rw[j];refine KE (S3 (KE (TR (hz:=r) (s:={s with toks:=s.toks+1}) p hd (Po (h _ ⟨_,_,ep+1,QI _ p (SV (Ro hd _)),v.mapDictKeys _,Ro hd _,u.push m _,?_,?_⟩ (Qi ..))))))
 .rw[stored,PK g];have:=q.append m ((aK prog w).hash k) dflt;obtain⟨l⟩:=es;simpa using this
 .rw[stored,PK g,Qo,Qj];refine⟨y,by simp,?_⟩;intro a ha b hb;simp only[PU,RO,Py]at hb;subst hb;exact λe=>f (e▸ha)
end
section
def Fe:V->List V->Hp->VK->Prop:=λx xs H Q=>∃a k y kvs,x=.ref a/\xs=[kV k,y]/\(H a=some (.dK kvs)\/(H a=some (.dT [])/\kvs=[]))/\kvs.length<sizeLine/\
 ((∃v,cZ kvs k=some v/\Q v H)\/(cZ kvs k=none/\Q y (upd H a (.dK (cg kvs k y)))))
def C9:C3 X "dict.setdefault" Fe:=by
 intro ac s σ H x xs v us Q I t rs q;obtain⟨a,k,y,kvs,rfl,rfl,ha,hz,q⟩:=q;obtain rfl:v=Value.ref a:=t;obtain⟨u1,u2,rfl,h,b⟩:=qW rs;obtain⟨M,u,vs,i,c⟩:=Gv I (ha.imp .inl λ⟨e,w⟩=>⟨.inl e,w⟩);have n:=jP (P:=X.prog) (w:=X.w) h;refine QF QB c.typeIs TH ?_ (Tz _ _ _);unfold Builtin.«dict.setdefault»;refine KE ?_;unfold Builtin.Dict.keyAndDefault;refine KE (Rh c.typeIs (show wpAny _ _ (pure (a,u1,some u2)) _ _ s from Po ?_));show wpAny _ _ (if(a==sysModules)=true then _ else(dictSetDefault a u1 u2 >>= _)) _ _ s;rw[PK (by grind)];have A:vs.length<=sizeLine:=by rw[<- i.length];lia
 have j:s.heap.DictLe a sizeLine:=λo es ep B hd=>by
  obtain⟨N,C,D,d,_,f,_,E,_⟩:=id c;rw[B]at d;cases d;rw[hd]at f;cases f;have e1:=E.length;have e2:es.toList.length=es.size:=by simp
  lia
 have F:=i.val k;rcases q with⟨v,p,q⟩|⟨p,q⟩
 .obtain⟨O,r,l⟩:=RelO.some_of (v:=v) (o:=valueAt vs k) (by grind);refine KE (wpAny_dictSetDefault_of (hz:=j) n c.mapOf (λR e=>?_) λe=>?_)
  .rw[r]at e;cases e;exact Po ⟨_,rfl,v,H,I.tok _,l,q⟩
  .rw[r]at e;cases e
 .have m:valueAt vs k=none:=by
   have:=F.fA;rw[p]at this;cases z:valueAt vs k with
   |none=>rfl
   |some _=>rw[z]at this;cases this
  refine KE (Gw n c m (λh' g hs=>Po ⟨_,rfl,?_⟩) A);have G:∃q,h'.get? a=some q:=let ⟨q,_,_,J,_⟩:=g;⟨q,J⟩;have K:II (H a):=by rcases ha with e|⟨e,_⟩<;>(rw[e];exact True.intro)
  have L:(cg kvs k y).length<=sizeLine:=by have:=eh kvs k y;lia
  exact⟨y,_,i5 (t':=s.toks+1) I K hs G (t_ L u (i.put k b) g),b,q⟩
end
end L2
namespace ST
open PySem PySem.SetTable
def st(m:Nat)(h:Int):Probe:={j:=bits h%(m+1),more:=runEnd m (bits h%(m+1))-bits h%(m+1),i:=bits h%(m+1),perturb:=bits h,dummy:=none}
def rs(m:Nat)(p:Nat×Nat):Probe:={j:=p.1,more:=runEnd m p.1-p.1,i:=p.1,perturb:=p.2,dummy:=none}
def uh(m:Nat)(p:Probe):Probe:=if p.more>0 then {p with j:=p.j+1,more:=p.more-1}else {p with j:=(leap m p.i p.perturb).1,more:=runEnd m (leap m p.i p.perturb).1-(leap m p.i p.perturb).1,i:=(leap m p.i p.perturb).1,perturb:=(leap m p.i p.perturb).2}
def ui(t:SetTable)(p:Probe):t.advance p=uh t.mask p:=rfl
def it(m:Nat):Nat->Probe->Probe
 |0,p=>p
 |n+1,p=>it m n (uh m p)
def fE(m:Nat):∀(a b:Nat)(p:Probe),it m (a+b) p=it m b (it m a p):=by intro a b;induction a<;>grind [it,uh]
def C_(m n:Nat)(p:Probe):it m (n+1) p=uh m (it m n p):=fE m n 1 p
structure Va(m:Nat) (p:Probe):Prop where
 i:p.i<=m
 more:p.more<=9
 j:p.j+p.more<=m
 q:p.perturb<2^64
 d:p.dummy=none
def pH(h:Int):bits h<2^64:=by
 unfold bits
 grind
def jv(m i:Nat)(h:i<=m):runEnd m i-i<=9/\i+(runEnd m i-i)<=m:=by unfold runEnd;split<;>lia
theorem Va.rs(h1:p.1<=m)(h2:p.2<2^64):Va m (rs m p):=⟨h1,(jv m _ h1).1,(jv m _ h1).2,h2,rfl⟩
theorem Va.st(m:Nat)(h:Int):Va m (st m h):=by have:bits h%(m+1)<=m:=Uh (Uw _ (Nat.succ_pos m));exact⟨this,(jv m _ this).1,(jv m _ this).2,pH h,rfl⟩
def pI(m i q:Nat):(leap m i q).1<=m:=by exact Uh (Uw _ (Nat.succ_pos m))
def uj(m i q:Nat):(leap m i q).2=q/32:=rfl
theorem Va.uh(v:Va m p):Va m (uh m p):=by
 unfold ST.uh;split
 .exact⟨v.i,by dsimp only;have:=v.more;lia,by dsimp only;have:=v.j;lia,v.q,v.d⟩
 .have l:=pI m p.i p.perturb;exact⟨l,(jv m _ l).1,(jv m _ l).2,by dsimp only;rw[uj];have:=v.q;have:=Nat.div_le_self p.perturb 32;lia,v.d⟩
theorem Va.it:∀{n:Nat}{p:Probe},Va m p->Va m (it m n p)
 |0,_,v=>v
 |n+1,_,v=>Va.it (n:=n) v.uh
def Va.N4(v:Va m p):p.j<=m:=by have:=v.j;lia
def lD:∀(k:Nat)(p:Probe),p.more=k->Va m p->it m (k+1) p=rs m (leap m p.i p.perturb):=by intro k;induction k<;>grind [Va,it,rs,uh]
def lp(m:Nat):Nat->Nat×Nat->Nat×Nat
 |0,p=>p
 |n+1,p=>lp m n (leap m p.1 p.2)
def Gx(m:Nat):∀(a b:Nat)(p:Nat×Nat),lp m (a+b) p=lp m b (lp m a p):=by intro a b;induction a<;>grind [lp]
theorem Jd(m:Nat):∀(n:Nat)(p:Nat×Nat),(lp m n p).2=p.2/32^n
 |0,p=>by simp[lp]
 |n+1,p=>by show(lp m n (leap m p.1 p.2)).2=_;rw[Jd m n,uj,Nat.div_div_eq_div_mul,Nat.pow_succ,Nat.mul_comm]
theorem Ff(m:Nat):∀(n:Nat)(p:Nat×Nat),p.1<=m->(lp m n p).1<=m
 |0,p,h=>h
 |n+1,p,_=>Ff m n _ (pI m _ _)
theorem rj:∀(L:Nat)(p:Probe),Va m p->∃n,n<=10*(L+1)/\it m n p=rs m (lp m (L+1) (p.i,p.perturb))
 |0,p,v=>⟨p.more+1,by have:=v.more;lia,lD _ p rfl v⟩
 |L+1,p,v=>by
  have h1:=lD _ p rfl v;have a:Va m (rs m (leap m p.i p.perturb)):=by rw[<- h1];exact v.it
  obtain⟨n,b,e⟩:=rj L _ a;refine⟨p.more+1+n,by have:=v.more;lia,?_⟩;rw[fE,h1,e];rfl
def f5(m i:Nat):Nat:=(i*5+1)%(m+1)
def fN(m:Nat):Nat->Nat->Nat
 |0,i=>i
 |n+1,i=>fN m n (f5 m i)
def zE(m:Nat):Nat->Nat->List Nat
 |0,_=>[]
 |n+1,i=>i::zE m n (f5 m i)
theorem rk(m:Nat):∀(n i k:Nat),k<n->(zE m n i)[k]?=some (fN m k i)
 |n+1,i,0,_=>rfl
 |n+1,i,k+1,h=>rk m n _ k (by lia)
theorem rn(m:Nat):∀(n i:Nat),(zE m n i).length=n
 |0,_=>rfl
 |n+1,i=>by show(zE m n _).length+1=_;rw[rn]
theorem pJ(m:Nat):∀(a b i:Nat),fN m (a+b) i=fN m b (fN m a i)
 |0,b,i=>by rw[Nat.zero_add];rfl
 |a+1,b,i=>by rw[Nat.succ_add];exact pJ m a b _
def L5(m:Nat):Bool:=((List.range (m+1)).all λj=>(zE m (m+1) 0).contains j)&&(fN m (m+1) 0==0)
def tF(m:Nat):Prop:=m=7\/m=31\/m=127\/m=511
def vL(h:tF m):L5 m=true:=by rcases h with rfl|rfl|rfl|rfl<;>decide +kernel
def zF(h:tF m)(c:j<=m):∃n,n<=m/\fN m n 0=j:=by have:=vL h;unfold L5 at this;simp only[Rj,TJ]at this;have h1:=this.1 j (Qh.mpr (by lia));rw[List.contains_iff_mem,PX]at h1;obtain⟨n,a⟩:=h1;have b:=(PF.mp a).1;rw[rn]at b;rw[rk m _ _ _ b]at a;exact⟨n,by lia,QH a⟩
def Gy(h:tF m)(e:i<=m)(f:j<=m):∃n,n<=m/\fN m n i=j:=by
 obtain⟨a,ha,c⟩:=zF h e;obtain⟨b,hb,d⟩:=zF h f;by_cases g:a<=b
 .refine⟨b-a,by lia,?_⟩;rw[<- c,<- pJ,show a+(b-a)=b by lia,d]
 .refine⟨m+1+b-a,by lia,?_⟩;have z:=vL h;unfold L5 at z;simp only[Rj,Sz]at z;rw[<- c,<- pJ,show a+(m+1+b-a)=m+1+b by lia,pJ,z.2,d]
theorem vM(m:Nat):∀(n i:Nat),lp m n (i,0)=(fN m n i,0)
 |0,_=>rfl
 |n+1,i=>by show lp m n (leap m i 0)=_;have:leap m i 0=(f5 m i,0):=rfl;rw[this];exact vM m n _
def rp(h:tF m)(b:j<=m)(p:Nat×Nat)(h1:p.1<=m)(h2:p.2<2^64):∃n,13<=n/\n<=m+13/\(lp m n p).1=j:=by
 have a:(2:Nat)^64<32^13:=by decide
 have c:(lp m 13 p).2=0:=by rw[Jd];exact Nat.div_eq_of_lt (by lia)
 obtain⟨n,d,e⟩:=Gy h (Ff m 13 p h1) b;refine⟨13+n,by lia,by lia,?_⟩;rw[Gx]
 grind [lp,vM]
def Fg(h:tF m)(a:j<=m)(v:Va m p):∃n,n<10*turns m/\(it m n p).j=j:=by obtain⟨L,h1,h2,e⟩:=rp h a (p.i,p.perturb) v.i v.q;obtain⟨n,b,en⟩:=rj (L-1) p v;rw[show L-1+1=L by lia]at en b;refine⟨n,by unfold turns;lia,?_⟩;rw[en];exact e
def Da(xs:List Nat):Prop:=xs.Pairwise (·< ·)
theorem mj(l:Da xs.toList):∀(d lo c:Nat),lo<=c->c<=xs.size->c-lo<=d->
 (∀i (h:i<xs.size),i<lo->xs[i]<j)->(∀i (h:i<xs.size),c<=i->j<=xs[i])->
 below.go xs j d lo c<=xs.size/\(∀i (h:i<xs.size),i<below.go xs j d lo c->xs[i]<j)/\∀i (h:i<xs.size),below.go xs j d lo c<=i->j<=xs[i]
 |0,lo,c,h1,h2,h3,g,k=>by
  have:lo=c:=by lia
  subst this;exact⟨h2,g,k⟩
 |f+1,lo,c,h1,h2,h3,g,k=>by
  have mono:∀a b (ha:a<xs.size) (hb:b<xs.size),a<=b->xs[a]<=xs[b]:=by
   intro a b ha hb m;rcases Nat.lt_or_eq_of_le m with h|h
   .have:=Qc.mp l a b (by simpa using ha) (by simpa using hb) h;simpa using Re this
   .subst h;exact Pq _
  unfold below.go;by_cases o:lo<c
  .rw[PN o];have hm:(lo+c)/2<xs.size:=by lia
   have p:xs.getD ((lo+c)/2) j=xs[(lo+c)/2]:=by simp[Array.getD,hm]
   dsimp only;rw[p];by_cases n:xs[(lo+c)/2]<j
   .rw[PN n];refine mj l f _ _ (by lia) h2 (by lia) (λi h e=>?_) k;exact QS (mono i _ h hm (by lia)) n
   .rw[PK n];refine mj l f _ _ (by lia) (by lia) (by lia) g λi h e=>?_;exact Qb (by lia) (mono _ i hm h e)
  .rw[PK o];have:lo=c:=by lia
   subst this;exact⟨h2,g,k⟩
def dm(j:Nat)(a:Da xs.toList):below xs j<=xs.size/\(∀i (h:i<xs.size),i<below xs j->xs[i]<j)/\∀i (h:i<xs.size),below xs j<=i->j<=xs[i]:=by unfold below;exact mj a xs.size 0 xs.size (PQ _) (Pq _) (by lia) (λi h z=>by lia) λi h z=>by lia
def zG(d:Da xs.toList)(h:i<xs.size):below xs xs[i]=i:=by
 obtain⟨a,b,c⟩:=dm xs[i] d;rcases Tp (below xs xs[i]) i with q|q|q
 .have hb:below xs xs[i]<xs.size:=by lia
  have h1:=c (below xs xs[i]) hb (Pq _);have h2:=Qc.mp d _ i (by grind) (by grind) q;simp at h2;lia
 .exact q
 .have:=b i h q;lia
theorem oJ(j:Nat):has #[] j=false:=rfl
structure Tb(t:SetTable):Prop where
 FZ:tF t.mask
 IQ:t.dummies=#[]
 s_:Da t.place.toList
 le:∀j∈t.place.toList,j<=t.mask
def oK(h:Tb t)(a:i<t.place.size):t.slot t.place[i]=.live i:=by unfold slot;dsimp only;rw[zG h.s_ a];rw[PN];simp[a]
def uk(h:Tb t)(a:j∉t.place.toList):t.slot j=.empty:=by
 unfold slot;dsimp only;rw[PK,h.IQ,oJ]
 .rfl
 .grind
def ul(h:Tb t)(j:Nat):(j∉t.place.toList/\t.slot j=.empty)\/∃i,∃c:i<t.place.size,t.place[i]=j/\t.slot j=.live i:=by
 by_cases b:j∈t.place.toList
 .right;obtain⟨i,c,e⟩:=SG.mp b;have a:i<t.place.size:=by simpa using c
  have d:t.place[i]=j:=by simpa using e
  exact⟨i,a,d,by rw[<- d];exact oK h a⟩
 .exact .inl ⟨b,uk h b⟩
def Lv(t:SetTable)(j:Nat):Prop:=j∈t.place.toList
inductive iV(t:SetTable) (ha:Nat->Int) (h:Int) (p:Probe):Option Met->Prop
 |em (n:Nat) (e:¬Lv t (it t.mask n p).j) (b:∀k,k<n->∃i,∃hi:i<t.place.size,t.place[i]=(it t.mask k p).j/\ha i≠h):iV t ha h p (some (.empty (it t.mask n p).j none))
 |ca (n i:Nat) (hi:i<t.place.size) (e:t.place[i]=(it t.mask n p).j) (q:ha i=h) (b:∀k,k<n->∃i,∃hi:i<t.place.size,t.place[i]=(it t.mask k p).j/\ha i≠h) :
  iV t ha h p (some (.candidate (it t.mask n p).j i (it t.mask (n+1) p)))
theorem rq(h:Tb t)(ha:Nat->Int)(x:Int):∀(c:Nat)(p:Probe),Va t.mask p->(∃n,n<c/\¬Lv t (it t.mask n p).j)->iV t ha x p (probe.go t ha x c p)
 |0,p,v,⟨n,w,_⟩=>by lia
 |f+1,p,v,⟨n,w,r⟩=>by
  unfold probe.go;rcases ul h p.j with⟨h1,e⟩|⟨i,g,h1,e⟩
  .rw[e];dsimp only;have:=iV.em (t:=t) (ha:=ha) (h:=x) (p:=p) 0 h1 λk s=>by lia
   rw[v.d];exact this
  .rw[e];dsimp only;by_cases l:ha i=x
   .rw[PN (by simpa using l)];exact iV.ca (t:=t) (ha:=ha) (h:=x) (p:=p) 0 i g h1 l λk s=>by lia
   .rw[PK (by simpa using l),ui];have y:n≠0:=by rintro rfl;exact r (by show p.j∈t.place.toList;rw[<- h1];simp)
    have u:=rq h ha x f (uh t.mask p) v.uh ⟨n-1,by lia,by
     have:it t.mask (n-1) (uh t.mask p)=it t.mask n p:=by show _=it t.mask n p;rw[show n=(n-1)+1 by lia];rfl
     rw[this];exact r⟩
    have a:∀{nn:Nat},(∀k,k<nn->∃i,∃g:i<t.place.size,t.place[i]=(it t.mask k (uh t.mask p)).j/\ha i≠x)->∀k,k<nn+1->∃i,∃g:i<t.place.size,t.place[i]=(it t.mask k p).j/\ha i≠x:=by
     intro nn b k s;cases k with
     |zero=>exact⟨i,g,h1,l⟩
     |succ k=>exact b k (by lia)
    generalize probe.go t ha x f (uh t.mask p)=rr at u;cases u with
    |em m o b=>exact iV.em (t:=t) (ha:=ha) (h:=x) (p:=p) (m+1) o (a b)
    |ca m z q o A b=>exact iV.ca (t:=t) (ha:=ha) (h:=x) (p:=p) (m+1) z q o A (a b)
theorem ml:∀(b c:List Nat),b.Nodup->(∀x∈b,x∈c)->b.length<=c.length
 |[],_,_,_=>PQ _
 |a::b,c,nd,hs=>by
  have ha:a∈c:=hs a (Pu ..);have d:=ml b (c.erase a) (Qu.mp nd).2 λx e=>by grind
  grind
def mn(h:Tb t)(hs:t.place.size<=t.mask):∃j,j<=t.mask/\¬Lv t j:=by refine Qp λb=>?_;have c:∀j,j<=t.mask->j∈t.place.toList:=λj a=>Qp λz=>b ⟨j,a,z⟩;have:=ml (List.range (t.mask+1)) t.place.toList SS λj a=>c j (by grind);simp at this;lia
def mq(h:Tb t)(hs:t.place.size<=t.mask)(ha:Nat->Int)(x:Int)(v:Va t.mask p):iV t ha x p (t.probe ha x p):=by obtain⟨j,a,b⟩:=mn h hs;obtain⟨n,h1,h2⟩:=Fg h.FZ a v;unfold probe;exact rq h ha x _ p v ⟨n,h1,by grind⟩
def Rea(m:Nat)(a:Nat->Prop)(h:Int)(j:Nat):Prop:=∃n,(it m n (st m h)).j=j/\∀k,k<n->a (it m k (st m h)).j
def Rea.mono(r:Rea m lv h j)(s:∀j,lv j->lv' j):Rea m lv' h j:=let ⟨n,e,b⟩:=r;⟨n,e,λk a=>s _ (b k a)⟩
structure nE{V:Type} (t:SetTable) (es:Array (Int×V)):Prop where
 tb:Tb t
 len:t.place.size=es.size
 IS:∀q∈t.place.toList.zip es.toList,Rea t.mask (·∈ t.place.toList) q.2.1 q.1
def jn(t:SetTable):Prop:=t.place.size*5<t.mask*3
def insertAt_toList{α:Type}(xs:Array α)(p:Nat)(x:α)(h:p<=xs.size):(insertAt xs p x).toList=xs.toList.take p++x::xs.toList.drop p:=by unfold insertAt;simp[Array.toList_extract,List.extract_eq_drop_take,QW]
def insertAt_size{α:Type}(xs:Array α)(p:Nat)(x:α)(h:p<=xs.size):(insertAt xs p x).size=xs.size+1:=by rw[<- QP,insertAt_toList xs p x h];simp;lia
def jT(h:Tb t)(j:Nat):(t.put j).1={t with place:=insertAt t.place (below t.place j) j}:=by
 unfold put;dsimp only;rw[h.IQ]
 grind [oJ]
def lE(t:SetTable)(j:Nat):(t.put j).2=below t.place j:=rfl
def um{α b:Type}(xs:List α)(a:List b)(p:Nat)(x:α)(y:b)(h:xs.length=a.length):(xs.take p++x::xs.drop p).zip (a.take p++y::a.drop p)=(xs.zip a).take p++(x,y)::(xs.zip a).drop p:=by rw[List.zip_append (by simp[h]),List.zip_cons_cons];simp[List.zip,List.take_zipWith,List.drop_zipWith]
def ur{V:Type}{t:SetTable}{es:Array (Int×V)}(h:nE t es){j:Nat}(y:j∉t.place.toList)(p:j<=t.mask){o:Int}{v:V}(r:Rea t.mask (·∈ t.place.toList) o j) :
 nE (t.put j).1 (insertAt es (t.put j).2 (o,v))/\(t.put j).1.mask=t.mask/\(t.put j).1.place.size=t.place.size+1:=by
 obtain⟨a,b,c⟩:=dm j h.tb.s_;rw[jT h.tb,lE];have u:below t.place j<=es.size:=by rw[<- h.len];exact a
 have el:=insertAt_toList t.place _ j a;have A:=insertAt_toList es (below t.place j) (o,v) u;have mem:∀k,k∈(insertAt t.place (below t.place j) j).toList↔k=j\/k∈t.place.toList:=by
  intro k;rw[el,PP,PB];constructor
  .rintro (z|rfl|z)
   .exact .inr (Rp z)
   .exact .inl rfl
   .exact .inr (TU z)
  .rintro (rfl|z)
   .exact .inr (.inl rfl)
   .rw[<- Q2 (below t.place j) t.place.toList,PP]at z;exact z.elim .inl λz=>.inr (.inr z)
 refine⟨⟨⟨h.tb.FZ,h.tb.IQ,?_,λk d=>?_⟩,?_,λq g=>?_⟩,rfl,insertAt_size _ _ _ a⟩
 .show Da (insertAt t.place (below t.place j) j).toList;rw[el];unfold Da;rw[TV];refine⟨h.tb.s_.sublist (List.take_sublist _ _),?_,?_⟩
  .rw[S_];refine⟨λk d=>?_,h.tb.s_.sublist (List.drop_sublist _ _)⟩;obtain⟨i,m,e⟩:=SG.mp d;rw[SR]at m;have f:below t.place j+i<t.place.size:=by simp at m;lia
   have e2:t.place[below t.place j+i]=k:=by rw[<- e];simp
   have:=c _ f (by lia);rw[e2]at this;have:k≠j:=λz=>y (by rw[<- z,<- e2];simp);lia
  .intro k d l hl;obtain⟨i,m,e⟩:=SG.mp d;rw[QN]at m;have f:i<t.place.size:=by simp at m;lia
   have e2:t.place[i]=k:=by rw[<- e];simp
   have w:=b i f (by lia);rw[e2]at w;rw[PB]at hl;rcases hl with rfl|hl
   .exact w
   .obtain⟨x,n,B⟩:=SG.mp hl;rw[SR]at n;have s:below t.place j+x<t.place.size:=by simp at n;lia
    have C:t.place[below t.place j+x]=l:=by rw[<- B];simp
    have:=c _ s (by lia);rw[C]at this;lia
 .rcases (mem k).mp d with rfl|z
  .exact p
  .exact h.tb.le k z
 .show(insertAt t.place (below t.place j) j).size=_;rw[insertAt_size _ _ _ a,insertAt_size _ _ _ u,h.len]
 .have g:q∈(insertAt t.place (below t.place j) j).toList.zip (insertAt es (below t.place j) (o,v)).toList:=g;rw[el,A,um _ _ _ _ _ (by simpa using h.len)]at g;have sub:∀k,k∈t.place.toList->k∈(insertAt t.place (below t.place j) j).toList:=λk d=>(mem k).mpr (.inr d);rw[PP,PB]at g;rcases g with z|rfl|z
  .exact(h.IS q (Rp z)).mono sub
  .exact r.mono sub
  .exact(h.IS q (TU z)).mono sub
def ow(owner:Array (Option Nat))(j:Nat):Prop:=∃k,owner[j]?=some (some k)
theorem pK(i q:Nat):∀k,k<=runEnd m i-i->it m k (rs m (i,q))={j:=i+k,more:=runEnd m i-i-k,i:=i,perturb:=q,dummy:=none}
 |0,_=>rfl
 |k+1,h=>by
  rw[C_,pK i q k (by lia)]
  grind [uh]
theorem oM(hs:owner.size=m+1):∀(a i q:Nat),i<=m->q<2^64->(∃L,L<a/\¬ow owner (lp m L (i,q)).1)->
 ∃j,layClean.free m owner a i q=some j/\j<=m/\¬ow owner j/\∃n,(it m n (rs m (i,q))).j=j/\∀k,k<n->ow owner (it m k (rs m (i,q))).j
 |0,i,q,_,_,⟨L,h,_⟩=>by lia
 |f+1,i,q,g,s,⟨L,y,l⟩=>by
  obtain⟨z,A⟩:=jv m i g;have t:runEnd m i+1-i=(runEnd m i-i)+1:=by
   have:i<=runEnd m i:=by unfold runEnd;split<;>lia
   lia
  have o:∀k,k<=runEnd m i-i->((owner.getD (i+k) (some 0)).isNone=true↔¬ow owner (i+k)):=by
   intro k d;have hb:i+k<owner.size:=by lia
   have e:owner[i+k]?=some owner[i+k]:=by simp[hb]
   have e2:owner.getD (i+k) (some 0)=owner[i+k]:=by simp[Array.getD,hb]
   unfold ow;rw[e2,e];cases owner[i+k]<;>simp
  unfold layClean.free;cases p:(List.range (runEnd m i+1-i)).find? λk=>(owner.getD (i+k) (some 0)).isNone with
  |some k=>
   dsimp only;rw[List.find?_range_eq_some]at p;obtain⟨h1,h2,h3⟩:=p;have h2:=Qh.mp h2;have d:k<=runEnd m i-i:=by lia
   refine⟨i+k,rfl,by lia,(o k d).mp h1,k,by rw[pK i q k d],λB u=>?_⟩
   grind [pK]
  |none=>
   dsimp only;rw[List.find?_range_eq_none]at p;have b:∀k,k<=runEnd m i-i->ow owner (i+k):=by grind
   have v:L≠0:=by rintro rfl;exact l (b 0 (PQ _))
   have w:=oM hs f (leap m i q).1 (leap m i q).2 (pI m i q) (by rw[uj];have:=Nat.div_le_self q 32;lia) ⟨L-1,by lia,by
    have:lp m L (i,q)=lp m (L-1) (leap m i q):=by rw[show L=(L-1)+1 by lia];rfl
    rw[this]at l;exact l⟩
   obtain⟨j,e,x,r,n,en,hb⟩:=w;refine⟨j,e,x,r,runEnd m i-i+1+n,?_,λk d=>?_⟩
   .rw[fE,lD (runEnd m i-i) (rs m (i,q)) rfl (Va.rs g s)];exact en
   .by_cases c:k<=runEnd m i-i
    .rw[pK i q k c];exact b k c
    .have:it m k (rs m (i,q))=it m (k-(runEnd m i-i+1)) (rs m (leap m i q)):=by rw[show k=(runEnd m i-i+1)+(k-(runEnd m i-i+1)) by lia,fE,lD (runEnd m i-i) (rs m (i,q)) rfl (Va.rs g s)];congr 1;lia
     rw[this];exact hb _ (by lia)
structure Own(m:Nat) (hs:List Int) (owner:Array (Option Nat)):Prop where
 size:owner.size=m+1
 all:∀k:Nat,k<hs.length->∃j:Nat,owner[j]?=some (some k)
 lt:∀j k:Nat,owner[j]?=some (some k)->k<hs.length
 IS:∀(j k:Nat)(h:Int),owner[j]?=some (some k)->hs[k]?=some h->Rea m (ow owner) h j
 inj:∀j j' k:Nat,owner[j]?=some (some k)->owner[j']?=some (some k)->j=j'
def Own.Lx(o:Own m hs owner)(q:hs.length<=m):∃j,j<=m/\¬ow owner j:=by
 refine Qp λh=>?_;have i:∀j,j<=m->ow owner j:=λj c=>Qp λz=>h ⟨j,c,z⟩
 let g:Nat->Nat:=λj=>((owner[j]?).getD none).getD 0
 have d:∀j,j<=m->owner[j]?=some (some (g j)):=λj c=>by obtain⟨k,l⟩:=i j c;show owner[j]?=some (some (((owner[j]?).getD none).getD 0));rw[l];rfl
 have nd:((List.range (m+1)).map g).Nodup:=by unfold List.Nodup;rw[Q0];have:=SS (n:=m+1);refine Rc (λ{a b} ha hb f e=>f ?_) this;have ha:=Qh.mp ha;have hb:=Qh.mp hb;exact o.inj a b (g a) (d a (by lia)) (by rw[e];exact d b (by lia))
 have:=ml _ (List.range hs.length) nd λx p=>by obtain⟨j,c,rfl⟩:=Pt.mp p;have c:=Qh.mp c;exact Qh.mpr (o.lt j _ (d j (by lia)))
 simp at this;lia
def zH(hm:tF m)(o:Own m hs owner)(v:hs.length<=m)(h:Int) :
 ∃j,layClean.free m owner (turns m) (bits h%(m+1)) (bits h)=some j/\Own m (hs++[h]) (owner.setIfInBounds j (some hs.length)):=by
 obtain⟨w,l,p⟩:=o.Lx v;have f:bits h%(m+1)<=m:=Uh (Uw _ (Nat.succ_pos m));obtain⟨L,x,y,el⟩:=rp hm l (bits h%(m+1),bits h) f (pH h);obtain⟨j,e,A,q,n,en,hb⟩:=oM o.size (turns m) _ _ f (pH h) ⟨L,by unfold turns;lia,by rw[el];exact p⟩;refine⟨j,e,?_⟩;have r:j<owner.size:=by rw[o.size];lia
 have get:∀i,(owner.setIfInBounds j (some hs.length))[i]?=if i=j then some (some hs.length)else owner[i]?:=by
  intro i;rw[Array.getElem?_setIfInBounds];by_cases a:j=i
  .subst a;rw[PN rfl,PN r,PN rfl]
  .rw[PK a,PK (λz=>a z.symm)]
 have sub:∀i,ow owner i->ow (owner.setIfInBounds j (some hs.length)) i:=by
  rintro i ⟨k,b⟩;by_cases a:i=j
  .exact⟨_,by rw[get,PN a]⟩
  .exact⟨k,by rw[get,PK a];exact b⟩
 have c:∀i k,(owner.setIfInBounds j (some hs.length))[i]?=some (some k)->(i=j/\k=hs.length)\/(i≠j/\owner[i]?=some (some k)):=by
  intro i k b;rw[get]at b;by_cases a:i=j
  .rw[PN a]at b;exact .inl ⟨a,by simpa using b.symm⟩
  .rw[PK a]at b;exact .inr ⟨a,b⟩
 refine⟨by rw[Array.size_setIfInBounds,o.size],λk b=>?_,λi k b=>?_,λi k h' b g=>?_,λi s k h1 h2=>?_⟩
 .rw[PJ,QM]at b;by_cases d:k=hs.length
  .exact⟨j,by rw[get,PN rfl,d]⟩
  .obtain⟨i,f⟩:=o.all k (by lia);refine⟨i,?_⟩;rw[get,PK]
   .exact f
   .rintro rfl;exact q ⟨k,f⟩
 .rw[PJ,QM];rcases c i k b with⟨_,rfl⟩|⟨_,z⟩
  .lia
  .have:=o.lt i k z;lia
 .rcases c i k b with⟨rfl,rfl⟩|⟨a,z⟩
  .rw[Q3 (Pq _),Nat.sub_self]at g;cases g;exact⟨n,en,λk b=>sub _ (hb k b)⟩
  .have d:=o.lt i k z;rw[SK d]at g;exact(o.IS i k h' z g).mono sub
 .rcases c i k h1 with⟨rfl,rfl⟩|⟨a,z⟩<;>rcases c s _ h2 with⟨rfl,B⟩|⟨t,u⟩
  .rfl
  .have:=o.lt _ _ u;lia
  .have:=o.lt _ _ z;lia
  .exact o.inj i s k z u
theorem zI(hm:tF m):∀(b pre:List Int)(owner:Array (Option Nat)),Own m pre owner->pre.length+b.length<=m->
 ∃a,b.foldl (λc h=>do
  let (owner,k) <- c
  let j <- layClean.free m owner (turns m) (bits h%(m+1)) (bits h)
  pure (owner.setIfInBounds j (some k),k+1)) (some (owner,pre.length))=some (a,pre.length+b.length)/\Own m (pre++b) a
 |[],pre,owner,o,_=>⟨owner,rfl,by grind⟩
 |h::b,pre,owner,o,d=>by
  simp only[P8]at d;obtain⟨j,e,f⟩:=zH hm o (by lia) h;obtain⟨a,e2,g⟩:=zI hm b (pre++[h]) _ f (by simp;lia)
  grind
def Gz(hm:tF m)(hs:Array Int)(c:hs.size<=m):∃owner,layClean m hs=some owner/\Own m hs.toList owner:=by
 have a:Own m [] (Array.replicate (m+1) none):=by
  have no:∀j k:Nat,(Array.replicate (m+1) (none:Option Nat))[j]?=some (some k)->False:=by grind
  exact⟨by simp,λk b=>by simp at b,λj k h=>(no j k h).elim,λj k _ h=>(no j k h).elim,λj _ k h=>(no j k h).elim⟩
 obtain⟨owner,e,o⟩:=zI hm hs.toList [] _ a (by grind);refine⟨owner,?_,by grind⟩;unfold layClean
 grind
theorem zJ{α:Type}(es:Array α):∀(l:List Nat),(∀k∈l,k<es.size)->(l.filterMap (es[·]?)).length=l.length/\∀i:Nat,(l.filterMap (es[·]?))[i]?=(l[i]?).bind (es[·]?)
 |[],_=>⟨rfl,λi=>by simp⟩
 |k::l,h=>by
  have c:k<es.size:=h k (Pu ..);have e:es[k]?=some es[k]:=by simp[c]
  obtain⟨a,b⟩:=zJ es l λk c=>h k (Pw _ c);rw[List.filterMap_cons_some e];refine⟨by simp[a],λi=>?_⟩;cases i with
  |zero=>simp[e]
  |succ i=>simpa using b i
theorem mr(o:Nat->Option Nat):∀l:List Nat,(l.filterMap λj=>(o j).map (j,·)).map Prod.fst=l.filter λj=>(o j).isSome
 |[]=>rfl
 |j::l=>by
  rw[Sa,QX];cases e:o j with
  |none=>simpa using mr o l
  |some k=>simpa using mr o l
def zK(owner:Array (Option Nat))(m:Nat)(hs:owner.size=m+1)(j k:Nat):(j,k)∈((List.range (m+1)).filterMap λj=>(owner.getD j none).map (j,·))↔owner[j]?=some (some k):=by
 rw[Sm];constructor
 .rintro⟨a,h1,h2⟩;have h1:=Qh.mp h1;have hb:a<owner.size:=by lia
  have e:owner.getD a none=owner[a]:=by simp[Array.getD,hb]
  rw[e]at h2;obtain⟨b,e1,e2⟩:=QV.mp h2;cases e2;rw[show owner[j]?=some owner[j] by simp[hb],e1]
 .intro h;obtain⟨hb,e⟩:=Rz.mp h;refine⟨j,Qh.mpr (by lia),?_⟩;have e2:owner.getD j none=owner[j]:=by simp[Array.getD,hb]
  rw[e2,e];rfl
structure Laid{V:Type} (m:Nat) (es es':Array (Int×V)) (t':SetTable):Prop where
 qN:nE t' es'
 mask:t'.mask=m
 size:es'.size=es.size
 mem:∀x,x∈es'.toList↔x∈es.toList
 pw:∀R:Int×V->Int×V->Prop,(∀x y,R x y->R y x)->es.toList.Pairwise R->es'.toList.Pairwise R
def rA{V:Type}{m:Nat}(hm:tF m)(es:Array (Int×V))(G:es.size<=m)(finger moves:Nat)(led plain:Bool) :
 ∃t' c,laid m finger moves led plain (es.map (·.1))=some (t',c)/\Laid m es (c.filterMap (es[·]?)) t'/\t'.led=led/\t'.plain=plain/\c.toList.Perm (List.range es.size):=by
 obtain⟨owner,H,o⟩:=Gz hm (es.map (·.1)) (by simpa using G);have len:(es.map (·.1)).toList.length=es.size:=by simp
 let live:=(List.range (m+1)).filterMap λj=>(owner.getD j none).map (j,·)
 have f:∀j k,(j,k)∈live↔owner[j]?=some (some k):=zK owner m o.size;have s_:Da (live.map Prod.fst):=by show Da (((List.range (m+1)).filterMap λj=>(owner.getD j none).map (j,·)).map Prod.fst);rw[mr];exact List.pairwise_lt_range.sublist (List.filter_sublist)
 have g:(live.map Prod.snd).Nodup:=by unfold List.Nodup;unfold Da at s_;rw[Q0]at s_ ⊢;refine Rc (λ{a b} ha hb n e=>?_) s_;have h1:=(f a.1 a.2).mp ha;have h2:=(f b.1 b.2).mp hb;rw[<- e]at h2;have:=o.inj _ _ _ h1 h2;lia
 have lt:∀k∈live.map Prod.snd,k<es.size:=by
  intro k d;obtain⟨p,l,rfl⟩:=Pt.mp d;have:=o.lt p.1 p.2 ((f p.1 p.2).mp l)
  rwa [len]at this
 have all:∀k,k<es.size->k∈live.map Prod.snd:=by intro k d;obtain⟨j,r⟩:=o.all k (by rw[len];exact d);exact Pt.mpr ⟨(j,k),(f j k).mpr r,rfl⟩
 have B:live.length=es.size:=by have a:=ml _ (List.range es.size) g λk d=>Qh.mpr (lt k d);have b:=ml (List.range es.size) (live.map Prod.snd) SS λk d=>all k (Qh.mp d);simp at a b;lia
 obtain⟨C,w⟩:=zJ es (live.map Prod.snd) lt;refine⟨{mask:=m,place:=(live.map (·.1)).toArray,dummies:=#[],finger,led,moves,plain},(live.map (·.2)).toArray,?_,?_,rfl,rfl,(List.perm_ext_iff_of_nodup g SS).mpr λk=>⟨λh=>Qh.mpr (lt k h),λh=>all k (Qh.mp h)⟩⟩
 .unfold laid;rw[H];rfl
 .have el:((live.map (·.2)).toArray.filterMap (es[·]?)).toList=(live.map Prod.snd).filterMap (es[·]?):=by simp
  have s:((live.map (·.2)).toArray.filterMap (es[·]?)).size=es.size:=by rw[<- QP,el,C,Ps,B]
  refine⟨⟨⟨hm,rfl,by simpa using s_,λj r=>?_⟩,?_,λq v=>?_⟩,rfl,s,λx=>?_,λR I pw=>?_⟩
  .have r:j∈live.map Prod.fst:=by simpa using r
   obtain⟨p,l,rfl⟩:=Pt.mp r;obtain⟨hb,_⟩:=Rz.mp ((f p.1 p.2).mp l);show p.1<=m;have:=o.size;lia
  .rw[s];simpa using B
  .have v:q∈(live.map Prod.fst).zip ((live.map Prod.snd).filterMap (es[·]?)):=by rw[el]at v;simpa using v
   obtain⟨i,D⟩:=PX.mp v;rw[SL,w]at D;obtain⟨h1,h2⟩:=D;rw[PR]at h1 h2;obtain⟨p,l,e1⟩:=QV.mp h1;rw[l]at h2;have h2:es[p.2]?=some q.2:=h2;have J:=(f p.1 p.2).mp (PX.mpr ⟨i,l⟩);have K:(es.map (·.1)).toList[p.2]?=some q.2.1:=by rw[Ql,Array.getElem?_map,h2];rfl
   rw[<- e1];refine(o.IS p.1 p.2 q.2.1 J K).mono λj ⟨k,d⟩=>?_;show j∈(live.map (·.1)).toArray.toList;simpa using⟨k,(f j k).mpr d⟩
  .rw[el];constructor
   .intro y;obtain⟨k,_,h2⟩:=Sm.mp y;exact PX.mpr ⟨k,by rw[Ql];exact h2⟩
   .intro y;obtain⟨k,d⟩:=PX.mp y;have hb:k<es.size:=by have:=(PF.mp d).1;simpa using this
    exact Sm.mpr ⟨k,all k hb,by rw[Ql]at d;exact d⟩
  .rw[el];rw[Qc];intro a b ha hb n;have t:=w a;have u:=w b;rw[Px ha]at t;rw[Px hb]at u;rw[C]at ha hb;rw[Px ha]at t;rw[Px hb]at u;have A:(live.map Prod.snd)[a]≠(live.map Prod.snd)[b]:=Qc.mp g a b ha hb n;have t:es[(live.map Prod.snd)[a]]?=some _:=t.symm;have u:es[(live.map Prod.snd)[b]]?=some _:=u.symm;obtain⟨E,va⟩:=Rz.mp t;obtain⟨F,L⟩:=Rz.mp u;have P:=Qc.mp pw;rw[<- va,<- L];rcases Ta A with z|z
   .simpa using P _ _ (by simpa using E) (by simpa using F) z
   .refine I _ _ ?_;simpa using P _ _ (by simpa using F) (by simpa using E) z
def Dc{V:Type}{m:Nat}(hm:tF m)(es:Array (Int×V))(f:es.size<=m)(finger moves:Nat)(led plain:Bool) :
 ∃t' e,laid m finger moves led plain (es.map (·.1))=some (t',e)/\Laid m es (e.filterMap (es[·]?)) t'/\t'.led=led/\t'.plain=plain:=by
 obtain⟨t',e,a,b,c,d,_⟩:=rA hm es f finger moves led plain;exact⟨t',e,a,b,c,d⟩
end ST
namespace ST
open PySem PySem.W PyProof.Rows
structure Lt(N:Nat) (lt:Nat->Nat->Bool):Prop where
 O7:∀i,lt i i=false
 tr:∀i j k,lt i j=true->lt j k=true->lt i k=true
 O9:∀i j,i<N->j<N->i≠j->lt i j=true\/lt j i=true
abbrev Oa:=Nat->Nat->(Bool->Ux->Prop)->Ux->Prop
def Dd(N:Nat)(lt:Nat->Nat->Bool)(a:Oa)(s:Ux):Prop:=∀i j C,i<N->j<N->C (lt i j) s->a i j C s
def Pm(N:Nat)(p:Array Nat):Prop:=p.toList.Perm (List.range N)
def cU(p:Array Nat)(i:Nat):Nat:=p.getD i 0
section
theorem Pm.size(h:Pm N p):p.size=N:=by have:=h.length_eq;simpa using this
def Pm.perm(h:Pm N p)(q:p'.Perm p):Pm N p':=(Array.perm_iff_toList_perm.mp q).trans h
def GA(a:i<p.size):p[i]?=some (cU p i):=by unfold cU;simp[Array.getD,a]
theorem zL(h:p'[i]?=p[k]?):cU p' i=cU p k:=by
 simp_all [cU,cU]
def Pm.bd(h:Pm N p)(b:i<N):cU p i<N:=by
 have a:i<p.size:=by rw[h.size];exact b
 have:cU p i∈p.toList:=PX.mpr ⟨i,by rw[Ql];exact GA a⟩;exact Qh.mp (h.mem_iff.mp this)
def Pm.ne(h:Pm N p)(f:i<N)(g:j<N)(e:i≠j):cU p i≠cU p j:=by
 have nd:p.toList.Nodup:=h.nodup_iff.mpr SS;have a:i<p.size:=by rw[h.size];exact f
 have b:j<p.size:=by rw[h.size];exact g
 have c:p.toList[i]'(by simpa using a)=cU p i:=by simp[cU,Array.getD,a]
 have d:p.toList[j]'(by simpa using b)=cU p j:=by simp[cU,Array.getD,b]
 intro z;rcases Ta e with q|q
 .exact Qc.mp nd i j (by simpa using a) (by simpa using b) q (by rw[c,d];exact z)
 .exact Qc.mp nd j i (by simpa using b) (by simpa using a) q (by rw[c,d];exact z.symm)
def So(lt:Nat->Nat->Bool)(p:Array Nat)(k:Nat):Prop:=∀a b,a<b->b<k->lt (cU p a) (cU p b)=true
def De(lt:Nat->Nat->Bool)(p:Array Nat)(k:Nat):Prop:=∀a b,a<b->b<k->lt (cU p b) (cU p a)=true
def Lt.vh(o:Lt N lt)(a:i<N)(b:j<N)(e:i≠j)(h:lt i j=false):lt j i=true:=by
 grind [Lt]
def So.snoc(o:Lt N lt)(h:So lt p k)(a:1<=k)(l:lt (cU p (k-1)) (cU p k)=true):So lt p (k+1):=by
 grind [Lt,So]
def De.snoc(o:Lt N lt)(h:De lt p k)(a:1<=k)(l:lt (cU p k) (cU p (k-1))=true):De lt p (k+1):=by
 grind [Lt,De]
theorem ut(o:Lt N lt)(an:Dd N lt cmp s)(pm:Pm N p):∀(f n:Nat){Q:Nat->Ux->Prop},1<=n->n+f=N->So lt p n->
 (∀m,n<=m->m<=N->So lt p m->(m<N->lt (cU p m) (cU p (m-1))=true)->Q m s)->(kas_asc p f n).kasWp cmp Q s
 |0,n,Q,h1,h2,h3,k=>k n (Pq _) (by lia) h3 λz=>by lia
 |f+1,n,Q,h1,h2,h3,k=>by
  refine an _ _ _ (pm.bd (by lia)) (pm.bd (by lia)) ?_;show KasT.kasWp cmp (if lt (cU p n) (cU p (n-1))=true then .ret n else kas_asc p f (n+1)) Q s;by_cases c:lt (cU p n) (cU p (n-1))=true
  .rw[PN c];exact k n (Pq _) (by lia) h3 λ_=>c
  .rw[PK c];have c:lt (cU p n) (cU p (n-1))=false:=by grind
   exact ut o an pm f (n+1) (by lia) (by lia) (h3.snoc o h1 (o.vh (pm.bd (by lia)) (pm.bd (by lia)) (pm.ne (by lia) (by lia) (by lia)) c)) λm a b c d=>k m (by lia) b c d
theorem vN(o:Lt N lt)(an:Dd N lt cmp s)(pm:Pm N p):∀(f n:Nat){Q:Array Nat×Nat×Nat->Ux->Prop},1<=n->n+f=N->De lt p n->
 (∀m,n<=m->m<=N->De lt p m->Q (p,m,0) s)->(kas_desc f p n 0).kasWp cmp Q s
 |0,n,Q,h1,h2,h3,k=>k n (Pq _) (by lia) h3
 |f+1,n,Q,h1,h2,h3,k=>by
  refine an _ _ _ (pm.bd (by lia)) (pm.bd (by lia)) ?_;show KasT.kasWp cmp (if lt (cU p n) (cU p (n-1))=true then(if 0>0 then kas_desc f (kas_rev p (n-(0+1)) n) (n+1) 0 else kas_desc f p (n+1) 0)
   else .ask (cU p (n-1)) (cU p n) λd=>if d=true then .ret (p,n,0)else kas_desc f p (n+1) (0+1)) Q s
  by_cases c:lt (cU p n) (cU p (n-1))=true
  .rw[PN c,PK (by lia)];exact vN o an pm f (n+1) (by lia) (by lia) (h3.snoc o h1 c) λm a b c=>k m (by lia) b c
  .rw[PK c];have c:lt (cU p n) (cU p (n-1))=false:=by grind
   refine an _ _ _ (pm.bd (by lia)) (pm.bd (by lia)) ?_;rw[o.vh (pm.bd (by lia)) (pm.bd (by lia)) (pm.ne (by lia) (by lia) (by lia)) c];show KasT.kasWp cmp (if true=true then _ else _) Q s;rw[PN rfl];exact k n (Pq _) (by lia) h3
def zM(n:Nat)(a:n<=p.size)(k:Nat):cU (kas_rev p 0 n) k=if k<n then cU p (n-1-k)else cU p k:=by
 have e:=getElem?_mirror_all (xs:=p) (i:=0) a k;unfold kas_rev
 grind [zL]
def zN(o:Lt N lt)(an:Dd N lt cmp s)(pm:Pm N p)(h1:1<=n)(f:n<=N)(hd:De lt p n)
 (k:∀m e,1<=m->m<=N->Pm N e->So lt e m->Q (m,e) s):(kas_tail3 n N p).kasWp cmp Q s:=by
 unfold kas_tail3;rw[Tc];have d:Pm N (kas_rev p 0 n):=pm.perm (mirror_perm _ _ _ _);refine ut o an d (N-n) n h1 (by lia) ?_ λm a b c _=>k m _ (by lia) b d c;intro a b g hb;rw[zM n (by rw[pm.size];exact f),zM n (by rw[pm.size];exact f),PN (by lia),PN hb];exact hd _ _ (by lia) (by lia)
def zO(o:Lt N lt)(an:Dd N lt cmp s)(pm:Pm N p)(h2:2<=N)
 (k:∀m f,1<=m->m<=N->Pm N f->So lt f m->Q (m,f) s):(kas_count N p).kasWp cmp Q s:=by
 unfold kas_count;rw[Tc];refine ut o an pm (N-1) 1 (Pq _) (by lia) (λa b g hb=>by lia) λm a b c d=>?_;by_cases e:m=N
 .rw[PN (by simpa using e)];exact k m p a b pm c
 .rw[PK (by simpa using e)];by_cases hm:m>1
  .rw[PN hm];refine an _ _ _ (pm.bd (by lia)) (pm.bd (by lia)) ?_;have:lt (cU p 0) (cU p (m-1))=true:=c 0 (m-1) (by lia) (by lia);show KasT.kasWp cmp (if lt (cU p 0) (cU p (m-1))=true then _ else _) Q s;rw[PN this];exact k m p a b pm c
  .rw[PK hm];have h:m=1:=by lia
   subst h;unfold kas_descPart;rw[Tc];have l:=d (by lia);refine vN o an pm (N-(1+1)) (1+1) (by lia) (by lia) (λa b g hb=>?_) λi q j n=>?_
   .have:a=0:=by lia
    have:b=1:=by lia
    subst_vars
    exact l
   .show KasT.kasWp cmp (if 0>0 then _ else kas_tail3 i N p) Q s;rw[PK (by lia)];exact zN o an pm (by lia) j n k
theorem mw(o:Lt N lt)(an:Dd N lt cmp s)(pm:Pm N p)(b:i<N)(so:So lt p i):∀(f l r:Nat){Q:Nat->Ux->Prop},l<=r->r<=i->r-l<=f->
 (∀a,a<l->lt (cU p a) (cU p i)=true)->(∀a,r<=a->a<i->lt (cU p i) (cU p a)=true)->
 (∀m,m<=i->(∀a,a<m->lt (cU p a) (cU p i)=true)->(∀a,m<=a->a<i->lt (cU p i) (cU p a)=true)->Q m s)->(kas_place p i f l r).kasWp cmp Q s
 |0,l,r,Q,h1,h2,h3,d,g,k=>k l (by lia) d λa x y=>g a (by lia) y
 |f+1,l,r,Q,h1,h2,h3,d,g,k=>by
  unfold kas_place;by_cases c:l>=r
  .rw[PN c];exact k l (by lia) d λa x y=>g a (by lia) y
  .rw[PK c];refine an _ _ _ (pm.bd b) (pm.bd (by lia)) ?_;show KasT.kasWp cmp (if lt (cU p i) (cU p ((l+r)/2))=true then _ else _) Q s;by_cases q:lt (cU p i) (cU p ((l+r)/2))=true
   .rw[PN q];refine mw o an pm b so f l ((l+r)/2) (by lia) (by lia) (by lia) d (λa x y=>?_) k;by_cases e:a=(l+r)/2
    .rw[e];exact q
    .exact o.tr _ _ _ q (so _ _ (by lia) y)
   .rw[PK q];have q:lt (cU p i) (cU p ((l+r)/2))=false:=by grind
    have q:=o.vh (pm.bd b) (pm.bd (by lia)) (pm.ne b (by lia) (by lia)) q;refine mw o an pm b so f _ r (by lia) h2 (by lia) (λa x=>?_) g k;by_cases e:a=(l+r)/2
    .rw[e];exact q
    .exact o.tr _ _ _ (so _ _ (by lia) (by lia)) q
def zP(a:i<p.size)(b:l<=i)(k:Nat):cU (bubble p i (i-l)) k=if k=l then cU p i else if l<k/\k<=i then cU p (k-1)else cU p k:=by
 have e:=getElem?_bubble a (i-l) (by lia) k;rw[show i-(i-l)=l by lia]at e;by_cases h1:k=l
 .rw[PN h1]at e ⊢;exact zL e
 .rw[PK h1]at e ⊢
  grind [zL]
theorem zQ(o:Lt N lt)(an:Dd N lt cmp s):∀(f i:Nat)(p:Array Nat){Q:Array Nat->Ux->Prop},Pm N p->i+f=N->So lt p i->
 (∀c,Pm N c->So lt c N->Q c s)->(kas_bin f p i).kasWp cmp Q s
 |0,i,p,Q,pm,h,so,k=>k p pm (by grind)
 |f+1,i,p,Q,pm,h,so,k=>by
  unfold kas_bin;rw[Tc];refine mw o an pm (by lia) so i 0 i (by lia) (Pq _) (by lia) (λa x=>by lia) (λa x y=>by lia) λm hm lo d=>?_;refine zQ o an f (i+1) _ (pm.perm (bubble_perm _ _ _)) (by lia) (λa b e hb=>?_) k;have hs:i<p.size:=by rw[pm.size];lia
  rw[zP hs hm,zP hs hm]
  repeat' split
  all_goals first|lia|(exact d _ (by lia) (by lia))|(exact lo _ (by lia))|(exact so _ _ (by lia) (by lia))
def Dg(o:Lt N lt)(an:Dd N lt cmp s)(h2:2<=N)(k:∀p,Pm N p->So lt p N->Q p s):(kas_sort N).kasWp cmp Q s:=by
 unfold kas_sort;rw[Tc];have pm:Pm N (List.toArray (List.range N)):=by unfold Pm;simp
 refine zO o an pm h2 λm f a b c d=>?_;show KasT.kasWp cmp (if m<N then kas_bin (N-max m 1) f (max m 1)else .ret f) Q s;by_cases e:m<N
 .rw[PN e];have:max m 1=m:=by lia
  rw[this];exact zQ o an (N-m) m f c (by lia) d k
 .rw[PK e];have:m=N:=by lia
  subst this;exact k f c d
end
end ST
namespace L2
open PySem PySem.Spec PySem.Calls PyProof.Rows ST
abbrev iK(ns:List Int):List bI:=ns.map Sum.inl
section
def lF(h:(aK prog w).is (.inl i) v=true):∃t,v=.int i t:=by
 rcases bC (show jj (.inl i) v=true from h)with⟨j,t,e,rfl⟩|⟨x,t,e,_⟩
 .cases e;exact⟨t,rfl⟩
 .cases e
theorem items_int:∀{ns:List Int}{vs:List UA},ItemsAre (aK prog w) (iK ns) vs->∀v∈vs,∃i t,v=.int i t
 |[],_,h,v,hv=>by cases h;simp at hv
 |n::ns,_,h,v,hv=>by
  cases h with
  |cons h1 h2=>
   rcases PB.mp hv with rfl|hv
   .obtain⟨t,rfl⟩:=lF h1;exact⟨n,t,rfl⟩
   .exact items_int h2 v hv
def GB(f:(tK prog w).is s.heap (iK ns) b)(h:Q true s):wpAny (model prog w) A (hashByValue 8 (.ref b)) Q E s:=by
 have j:=IsTupleKey.typeIs f;obtain⟨o,a,n,k,_,hd,l⟩:=f;unfold hashByValue;refine KE (S8 j PySem.F.slot_tuple_hash.lookup ?_);dsimp only;refine KE (Tw k hd ?_);refine KE ?_;show wpAny _ _ (forIn a _ _) _ _ s;rw[<- Ub];refine SU _ (λrest r c=>r.1=none/\c=s/\∀v∈rest,∃i t,v=Value.int i t) _ ?_ ?_ _ _ ⟨rfl,rfl,items_int l⟩
 .rintro v rest r c ⟨d,rfl,g⟩;obtain⟨i,t,rfl⟩:=g v Pu;refine KE (Po ?_);simp only[Ry,PZ,Q5];exact Po ⟨rfl,rfl,λu e=>g u (Pw _ e)⟩
 .rintro⟨m,p⟩ c ⟨d,rfl,_⟩;simp only at d;subst d;exact Po h
def rB(f:(tK prog w).is s.heap (iK ns) b)(h:Q false s):wpAny (model prog w) A (ofAClassStatement 8 (.ref b)) Q E s:=by
 have j:=IsTupleKey.typeIs f;obtain⟨o,a,n,k,_,hd,l⟩:=f;unfold ofAClassStatement;refine KE (R9 j ?_);dsimp only;rw[PN (by decide)];refine KE (Po ?_);simp only[Ry,PZ,Q5];refine KE (Tw k hd ?_);refine KE ?_;show wpAny _ _ (forIn a _ _) _ _ s;rw[<- Ub];refine SU _ (λrest r c=>r.1=none/\c=s/\∀v∈rest,∃i t,v=Value.int i t) _ ?_ ?_ _ _ ⟨rfl,rfl,items_int l⟩
 .rintro v rest r c ⟨d,rfl,g⟩;obtain⟨i,t,rfl⟩:=g v Pu;refine KE (Po ?_);simp only[PZ,Q5];exact Po ⟨rfl,rfl,λu e=>g u (Pw _ e)⟩
 .rintro⟨m,p⟩ c ⟨d,rfl,_⟩;simp only at d;subst d;exact Po h
def GC(g:(tK prog w).is s.heap (iK ns) b)(k:∀y∈ys,∃ms c,y=.ref c/\(tK prog w).is s.heap (iK ms) c)(h:Q false s):wpAny (model prog w) A (searchCouldBeSeen (.ref b) ys) Q E s:=by
 unfold searchCouldBeSeen;refine KE ?_;refine SU _ (λrest r d=>r.1=none/\d=s/\∀y∈rest,∃ms c,y=.ref c/\(tK prog w).is s.heap (iK ms) c) _ ?_ ?_ _ _ ⟨rfl,rfl,k⟩
 .rintro v rest r d ⟨e,rfl,i⟩;obtain⟨ms,c,rfl,j⟩:=i v Pu;have a:∀u∈rest,∃ms c,u=Value.ref c/\(tK prog w).is d.heap (iK ms) c:=λu f=>i u (Pw _ f);dsimp only;split
  .exact Po ⟨rfl,rfl,a⟩
  .refine KE ((tK prog w).quiet g ?_);simp only[Ry,PZ,Q5];refine KE ((tK prog w).quiet j ?_);simp only[Ry,PZ,Q5];refine KE (rB g ?_);simp only[PZ,Q5];refine KE (rB j ?_);simp only[PZ,Q5];exact Po ⟨rfl,rfl,a⟩
 .rintro⟨l,m⟩ d ⟨e,rfl,_⟩;simp only at e;subst e;exact Po h
end
section
def NN(prog:Uz)(w:World)(h:Heap)(es:Array (Int×UA)):Prop:=∀e∈es.toList,∃ms c,e=((tK prog w).hash (iK ms),Value.ref c)/\(tK prog w).is h (iK ms) c
def Dh(h:tF m):(m%2==0)=false:=by rcases h with rfl|rfl|rfl|rfl<;>rfl
theorem nE.fits(T:nE t es)(hs:t.place.size<=t.mask):t.fits es.size=true:=by unfold SetTable.fits SetTable.fill;rw[T.tb.IQ];simp[T.len]at hs ⊢;exact hs
def jw{α:Type}{es:Array α}{i:Nat}{e:α}(h:es[i]?=some e):e∈es.toList:=PX.mpr ⟨i,by rw[Ql];exact h⟩
theorem oN{ep:Nat}{t:SetTable}{ns:List Int}{Q:SetFound->Ux->Prop}(M:s.heap.get? a=some o)(hd:o.data=.set es ep t)(T:nE t es)(hs:t.place.size<=t.mask)
 (Y:A.units<cLine) (O:(tK prog w).is s.heap (iK ns) b) (el:NN prog w s.heap es)
 (h1:(∃e∈es.toList,∃c,e.2=.ref c/\(tK prog w).is s.heap (iK ns) c)->Q (.there none) s)
 (h2:(∀e∈es.toList,∀c,e.2=.ref c->¬(tK prog w).is s.heap (iK ns) c)->∀j,j∉t.place.toList->j<=t.mask->Rea t.mask (·∈ t.place.toList) ((tK prog w).hash (iK ns)) j->Q (.free j false) s) :
 ∀(fuel n:Nat)(d:Option SetTable.Probe),d.getD (t.probeStart ((tK prog w).hash (iK ns)))=it t.mask n (st t.mask ((tK prog w).hash (iK ns)))->
  (∀k,k<n->∃i e,∃f:i<t.place.size,t.place[i]=(it t.mask k (st t.mask ((tK prog w).hash (iK ns)))).j/\es[i]?=some e/\∀c,e.2=.ref c->¬(tK prog w).is s.heap (iK ns) c)->
  (∃N,n<=N/\N<n+fuel/\(it t.mask N (st t.mask ((tK prog w).hash (iK ns)))).j∉t.place.toList)->
  wpAny (model prog w) A (setSearchFrom a (.ref b) ((tK prog w).hash (iK ns)) true fuel d) Q E s
 |0,n,d,_,_,⟨N,x1,x2,_⟩=>by lia
 |fuel+1,n,d,e1,e2,⟨N,x1,x2,x3⟩=>by
  have v0:Va t.mask (it t.mask n (st t.mask ((tK prog w).hash (iK ns)))):=(Va.st _ _).it;have sp:=mq T.tb hs (λi=>(es[i]?.map (·.1)).getD 0) ((tK prog w).hash (iK ns)) v0;have at_:∀i,i<t.place.size->∃e,es[i]?=some e:=λi f=>⟨es[i]'(by rw[<- T.len];exact f),by simp[T.len▸f]⟩;unfold setSearchFrom;refine KE (Ra M hd (nE.fits T hs) ?_);dsimp only;have hg:t.gaveWay=false:=Dh T.tb.FZ;rw[hg];simp only[PZ,Q5];rw[e1];have pre:∀{nn:Nat},(∀k,k<nn->∃i,∃f:i<t.place.size,t.place[i]=(it t.mask k (it t.mask n (st t.mask ((tK prog w).hash (iK ns))))).j/\(es[i]?.map (·.1)).getD 0≠(tK prog w).hash (iK ns))->
   ∀k,k<n+nn->∃i e,∃f:i<t.place.size,t.place[i]=(it t.mask k (st t.mask ((tK prog w).hash (iK ns)))).j/\es[i]?=some e/\∀c,e.2=.ref c->¬(tK prog w).is s.heap (iK ns) c:=by
   intro nn hb k z;by_cases B:k<n
   .exact e2 k B
   .obtain⟨i,f,q1,q2⟩:=hb (k-n) (by lia);obtain⟨e,l⟩:=at_ i f;refine⟨i,e,f,?_,l,λc K g=>q2 ?_⟩
    .rw[q1,<- fE,show n+(k-n)=k by lia]
    .obtain⟨ms,v,rfl,h⟩:=el e (jw l);have p:v=c:=by injection K
     subst p;rw[l];show(tK prog w).hash (iK ms)=_;rw[(tK prog w).inj h g]
  generalize I:t.probe _ _ (it t.mask n (st t.mask ((tK prog w).hash (iK ns))))=pr;have J:t.probe (λi=>(es[i]?.map (·.1)).getD 0) ((tK prog w).hash (iK ns)) (it t.mask n (st t.mask ((tK prog w).hash (iK ns))))=pr:=I;rw[J]at sp;clear J I;cases sp with
  |em nn C hb=>
   dsimp only;refine Po (h2 ?_ _ C (v0.it).N4 ?_)
   .intro e l c K g;obtain⟨i,f⟩:=PX.mp l;rw[Ql]at f;have D:i<t.place.size:=by rw[T.len];exact(Rz.mp f).1
    obtain⟨ms,v,rfl,h⟩:=el e l;have p:v=c:=by injection K
    subst p;have ek:=(tK prog w).inj h g;have hz:(t.place[i],((tK prog w).hash (iK ms),Value.ref v))∈t.place.toList.zip es.toList:=PX.mpr ⟨i,by rw[SL];exact⟨by simp[D],by rw[Ql];exact f⟩⟩;obtain⟨m,em,Z⟩:=T.IS _ hz;have em:(it t.mask m (st t.mask ((tK prog w).hash (iK ms)))).j=t.place[i]:=em;rw[ek]at em Z;have hm:m<n+nn:=by
     rcases Tp m (n+nn)with q|q|q
     .exact q
     .exfalso;refine C ?_;show(it t.mask nn (it t.mask n _)).j∈t.place.toList;rw[<- fE,<- q,em];simp
     .exfalso;refine C ?_;show(it t.mask nn (it t.mask n _)).j∈t.place.toList;rw[<- fE];exact Z _ q
    obtain⟨r,L,F,q1,q2,q3⟩:=pre hb m hm;have P:r=i:=by
     have:t.place[r]=t.place[i]:=q1.trans em;rcases Tp r i with q|q|q
     .have:=Qc.mp T.tb.s_ r i (by simpa using F) (by simpa using D) q;simp at this;lia
     .exact q
     .have:=Qc.mp T.tb.s_ i r (by simpa using D) (by simpa using F) q;simp at this;lia
    subst P;rw[f]at q2;cases q2;exact q3 v rfl g
   .refine⟨n+nn,by rw[fE],λk z=>?_⟩;obtain⟨i,e,f,q1,_⟩:=pre hb k z;show _∈t.place.toList;rw[<- q1];simp
  |ca nn i f G hq hb=>
   dsimp only;obtain⟨e,l⟩:=at_ i f;obtain⟨ms,c,rfl,g⟩:=el e (jw l);have rest:wpAny (model prog w) A (do
    let some (_,y):=es[i]?|unsupported "internal:set-entry"
    let u <- holding [y] (eqBool y (.ref b))
    let (R,_,t') <- setState a
    if true&&u then return SetFound.there none
    let some same:=t'.sameMemory t.moves t.mask|unsupported "set.changed-during-lookup:is-the-new-block-at-the-old-address"
    let H <- match(if same then t'.slot (it t.mask nn (it t.mask n (st t.mask ((tK prog w).hash (iK ns))))).j else .empty)with
     |.live r=>match R[r]? with
      |some (_,y')=>do pure (if <- isSame y' y then some r else none)
      |none=>pure none
     |_=>pure none
    match H with
    |none=>rule "set.search.anew";setSearchFrom a (.ref b) ((tK prog w).hash (iK ns)) true fuel none
    |some r=>if u then return .there (some r)else setSearchFrom a (.ref b) ((tK prog w).hash (iK ns)) true fuel (some (it t.mask (nn+1) (it t.mask n (st t.mask ((tK prog w).hash (iK ns))))))) Q E s:=by
    rw[l];dsimp only;refine KE (Qz ((tK prog w).eqBool Y g O ?_));refine KE (Ra M hd (nE.fits T hs) ?_);dsimp only;by_cases x:iK ms=iK ns
    .rw[P3 x];simp only[Uk,Sb];exact Po (h1 ⟨_,jw l,c,rfl,by rw[<- x];exact g⟩)
    .rw[QA x];simp only[SI,PZ,Q5];have S:t.sameMemory t.moves t.mask=some true:=by unfold SetTable.sameMemory;simp
     rw[S];dsimp only;rw[PN rfl,<- G,oK T.tb f];dsimp only;rw[l];dsimp only;refine KE (wpAny_isSame_ref_self ?_);refine KE (Po ?_);rw[PN rfl]
     try dsimp only
     refine oN M hd T hs Y O el h1 h2 fuel (n+(nn+1)) _ ?_ ?_ ⟨N,?_,?_,x3⟩
     .exact(fE t.mask n (nn+1) _).symm
     .intro k z;by_cases B:k<n+nn
      .exact pre hb k B
      .have:k=n+nn:=by lia
       subst this;refine⟨i,_,f,by rw[G,fE],l,λv p hh=>x ?_⟩;have:c=v:=by injection p
       subst this;exact(tK prog w).inj g hh
     .refine Qp λK=>?_;have hN:N<n+(nn+1):=by lia
      by_cases U:N<n+nn
      .obtain⟨r,L,F,q1,_⟩:=pre hb N U;exact x3 (by rw[<- q1];simp)
      .have:N=n+nn:=by lia
       subst this;exact x3 (by rw[fE,<- G];simp)
     .lia
   split
   .refine KE (GC O ?_ ?_)
    .intro y hy;obtain⟨L,V,rfl⟩:=Pt.mp hy;have W:L∈es.toList:=by have:=(Array.mem_toList_iff).mp V;rw[Array.mem_filter]at this;exact Array.mem_toList_iff.mpr this.1
     obtain⟨X,v,rfl,h⟩:=el L W;exact⟨X,v,rfl,h⟩
    .simp only[PZ,Q5];exact rest
   .exact rest
end
def byT(w:World):Bool:=w.params.followText "set-order"
def SetAt(w:World)(h:Heap)(a:Addr)(es:Array (Int×UA)):Prop:=∃o ep t,h.get? a=some o/\o.ExactSet/\o.data=.set es ep t/\nE t es/\jn t/\t.plain=true/\t.led=!byT w
def SetAt.keep(x:SetAt w h a es)(k:∀o,h.get? a=some o->h'.get? a=some o):SetAt w h' a es:=let ⟨o,ep,t,e,r⟩:=x;⟨o,ep,t,k o e,r⟩
def gr(h:jn t):t.place.size<=t.mask:=by unfold jn at h;lia
section
structure lb(es es':Array (Int×UA)) (x:Int×UA):Prop where
 mem:∀y,y∈es'.toList↔y=x\/y∈es.toList
 pw:∀R:Int×UA->Int×UA->Prop,(∀x y,R x y->R y x)->es.toList.Pairwise R->(∀e∈es.toList,R e x)->es'.toList.Pairwise R
 size:es'.size=es.size+1
def oO(es:Array (Int×UA))(p:Nat)(x:Int×UA)(a:p<=es.size):lb es (SetTable.insertAt es p x) x:=by
 have e:=ST.insertAt_toList es p x a;refine⟨λy=>?_,λR b pw c=>?_,ST.insertAt_size es p x a⟩
 .rw[e,PP,PB];constructor
  .grind
  .rintro (rfl|z)
   .exact .inr (.inl rfl)
   .rw[<- Q2 p es.toList,PP]at z;exact z.elim .inl λz=>.inr (.inr z)
 .rw[e,TV];rw[<- Q2 p es.toList,TV]at pw;obtain⟨p1,p2,p3⟩:=pw;refine⟨p1,?_,?_⟩
  .rw[S_]
   grind
  .grind
def lb.laid(g:lb es es1 x)(l:Laid m es1 es2 t):lb es es2 x:=⟨λy=>(l.mem y).trans (g.mem y),λR a pw b=>l.pw R a (g.pw R a pw b),by rw[l.size,g.size]⟩
def i7{ep:Nat}{t:SetTable}(b:Array (Int×UA))(t':SetTable){h:Heap}(d:h.get? a=some o)(hex:o.ExactSet)(hd:o.data=.set es ep t) :
 ∃c,(h.update a (Obj.putSet b t')).get? a=some c/\c.ExactSet/\c.data=.set b (ep+1) t':=by
 have:=QI (Obj.putSet b t') d (by rw[putSet_of b t' hd];rfl);rw[putSet_of b t' hd]at this;exact⟨_,this,hex,rfl⟩
def mz{t:SetTable}(h:tF t.mask)(h1:n*5<t.mask*3)(h2:(n+1)*5>=t.mask*3)(h3:n+1<=300):∃m,SetTable.sizeAbove (SetTable.grown (n+1))=m+1/\tF m/\(n+1)*5<m*3:=by
 rcases h with e|e|e|e<;>rw[e]at h1 h2
 .have:n=4:=by lia
  subst this;exact⟨31,by decide,.inr (.inl rfl),by lia⟩
 .have:n=18:=by lia
  subst this;exact⟨127,by decide,.inr (.inr (.inl rfl)),by lia⟩
 .have:n=76:=by lia
  subst this;exact⟨511,by decide,.inr (.inr (.inr rfl)),by lia⟩
 .lia
def zR{a:Addr}{o:Obj}{es:Array (Int×UA)}{Q:Unit->Ux->Prop}(d:s.heap.get? a=some o)(hex:o.ExactSet)(hd:o.data=.set es ep t)(k:t.fits es.size=true)(hm:tF m)(j:SetTable.sizeAbove n=m+1)(l:es.size*5<m*3)(f:t.plain=true)(g:t.led=!byT w)
 (h:∀c t',Laid m es c t'->SetAt w (s.heap.update a (Obj.putSet c t')) a c->Q () {s with heap:=s.heap.update a (Obj.putSet c t')}):wpAny (model prog w) A (setRelay a n) Q E s:=by
 have p:m<=511:=by rcases hm with rfl|rfl|rfl|rfl<;>lia
 unfold setRelay;refine KE (Ra d hd k ?_);dsimp only;rw[PK (by rw[j,Qf];lia)];obtain⟨t',b,e,L,i,q⟩:=Dc hm es (by lia) t.finger (t.movedTo m) t.led t.plain;have er:t.relaid (es.map (·.1)) n=some (t',b):=by unfold SetTable.relaid;rw[j];exact e
 rw[er];show wpAny _ _ (do
  let r <- (do
   if(b.filterMap (es[·]?)).size != es.size then unsupported "internal:set-table-lost-an-element"
   pure (b.filterMap (es[·]?),t'):Sem (Array (Int×UA)×SetTable))
  storeSet a r.1 r.2) _ _ _
 refine KE ?_;rw[PK (by rw[L.size];simp)];refine Po ?_;refine Tq d hd ?_ (by show(b.filterMap (es[·]?)).size<=_;rw[L.size,Qf];lia);obtain⟨u,g1,g2,v⟩:=i7 (b.filterMap (es[·]?)) t' d hex hd;refine h _ t' L ⟨u,_,t',g1,g2,v,L.qN,?_,by rw[q];exact f,by rw[i];exact g⟩;unfold jn;rw[L.qN.len,L.size,L.mask];exact l
end
section
def zS(T:nE t es)(hs:t.place.size<=t.mask)(h:Int):∃N,N<100000/\(it t.mask N (st t.mask h)).j∉t.place.toList:=by
 obtain⟨j,a,b⟩:=mn T.tb hs;obtain⟨N,h1,h2⟩:=Fg T.tb.FZ a (Va.st t.mask h);refine⟨N,?_,by rw[h2];exact b⟩;have:t.mask<=511:=by rcases T.tb.FZ with e|e|e|e<;>rw[e]<;>lia
 unfold SetTable.turns at h1;lia
def GD(G:A.units<cLine)(q:(tK prog w).is s.heap (iK ns) b)(K:SetAt w s.heap a es)(el:NN prog w s.heap es)(hz:es.size+1<=300)
 (h1:∀tk,s.toks<=tk->(∃e∈es.toList,∃c,e.2=.ref c/\(tK prog w).is s.heap (iK ns) c)->Q false {s with toks:=tk})
 (h2:∀tk h' h,s.toks<=tk->(∀e∈es.toList,∀c,e.2=.ref c->¬(tK prog w).is s.heap (iK ns) c)->Heap.SameBut a s.heap h'->SetAt w h' a h->lb es h ((tK prog w).hash (iK ns),.ref b)->Q true {s with heap:=h',toks:=tk}) :
 wpAny (model prog w) A (setAdd a (.ref b)) Q E s:=by
 obtain⟨o,ep,t,p,hex,hd,T,sp,r,u⟩:=K;have H:=nE.fits T (gr sp);unfold setAdd;refine Qz ?_;refine KE ((tK prog w).pyHash G q ?_);have i:s.toks<=s.toks+(tK prog w).draws (iK ns):=TF _ _;generalize s.toks+(tK prog w).draws (iK ns)=tk at i;unfold setAddHashed setAddHashedIn;refine Qz ?_;refine KE (Ra (s:={s with toks:=tk}) p hd H ?_);dsimp only;have x:byScan (.ref b) es=false:=by simp[byScan,Value.scannable]
 rw[x];simp only[PZ,Q5];unfold setSearch;obtain⟨N,n1,n2⟩:=zS T (gr sp) ((tK prog w).hash (iK ns));refine KE (oN (s:={s with toks:=tk}) p hd T (gr sp) G q el (λy=>?_) (λl j M z O=>?_) 100000 0 none rfl (λk P=>by lia) ⟨N,PQ _,by lia,n2⟩)
 .exact Po (h1 tk i y)
 .dsimp only;refine KE (Ra (s:={s with toks:=tk}) p hd H ?_);dsimp only;obtain⟨B,em,C⟩:=ur T M z (v:=Value.ref b) O;have f:(t.put j).1.plain=true:=by rw[jT T.tb];exact r
  have n:(t.put j).1.led=!byT w:=by rw[jT T.tb];exact u
  rw[f];simp only[Sb];refine KE (GB (s:={s with toks:=tk}) q ?_);simp only[Sb];have R:(t.put j).2<=es.size:=by rw[lE,<- T.len];exact(dm j T.tb.s_).1
  have g:=oO es (t.put j).2 ((tK prog w).hash (iK ns),Value.ref b) R;refine KE (Tq (s:={s with toks:=tk}) p hd ?_ (by rw[g.size,Qf];lia));obtain⟨o1,q1,q2,I⟩:=i7 (SetTable.insertAt es (t.put j).2 ((tK prog w).hash (iK ns),Value.ref b)) (t.put j).1 p hex hd;have J:=Qi s.heap a (Obj.putSet (SetTable.insertAt es (t.put j).2 ((tK prog w).hash (iK ns),Value.ref b)) (t.put j).1);have fill:(t.put j).1.fill=es.size+1:=by unfold SetTable.fill;rw[B.tb.IQ,C,T.len];rfl
  by_cases d:(t.put j).1.tooFull=true
  .rw[d];simp only[Bool.not_false,Uk,Sb];unfold SetTable.tooFull at d;rw[fill,em]at d;have d:(es.size+1)*5>=t.mask*3:=by simpa using d
   have D:es.size*5<t.mask*3:=by rw[<- T.len];exact sp
   obtain⟨m,S,m2,U⟩:=mz T.tb.FZ D d hz;have F:(t.put j).1.place.size<=(t.put j).1.mask:=by
    rw[C,em];unfold jn at sp;have:t.mask>=7:=by rcases T.tb.FZ with e|e|e|e<;>rw[e]<;>lia
    lia
   refine KE (zR (s:={s with heap:=s.heap.update a (Obj.putSet (SetTable.insertAt es (t.put j).2 ((tK prog w).hash (iK ns),Value.ref b)) (t.put j).1),toks:=tk}) q1 q2 I (nE.fits B F) m2 S (by rw[g.size];exact U) f n λh t' L sa=>?_);exact Po (h2 tk _ h i l (J.trans (Qi _ a _)) sa (g.laid L))
  .have d:(t.put j).1.tooFull=false:=by simpa using d
   rw[d];simp only[SI,PZ,Q5];refine Po (h2 tk _ _ i l J ⟨o1,_,_,q1,q2,I,B,?_,f,n⟩ g);unfold SetTable.tooFull at d;unfold jn;rw[fill]at d;rw[C,T.len];simpa using d
end
abbrev jo:=List Int×Addr
def zT(h:iK a=iK b):a=b:=by
 induction a generalizing b with
 |nil=>cases b with
  |nil=>rfl
  |cons _ _=>cases h
 |cons x a c=>cases b with
  |nil=>cases h
  |cons y b=>grind
section
variable{κ μ:Type}{x:κ×μ}
structure eR(ent:κ×μ->Int×UA) (es:Array (Int×UA)) (xs:List (κ×μ)):Prop where
 el:∀e∈es.toList,∃x∈xs,e=ent x
 sz:es.size<=xs.length
 pw:es.toList.Pairwise λe e'=>∀x x',e=ent x->e'=ent x'->x∈xs->x'∈xs->x.1≠x'.1
 all:∀x∈xs,∃y∈xs,y.1=x.1/\ent y∈es.toList
def Ci(ent:κ×μ->Int×UA)(xs:List (κ×μ)):Prop:=∀x∈xs,∀y∈xs,ent x=ent y->x.1=y.1
def eR.wide(v:eR ent es xs)(un:Ci ent (xs++[x])):es.toList.Pairwise λe h=>∀y c,e=ent y->h=ent c->y∈xs++[x]->c∈xs++[x]->y.1≠c.1:=by refine Rc (λ{a b} ha hb f z i e1 e2 j m2=>?_) v.pw;obtain⟨y,g,rfl⟩:=v.el a ha;obtain⟨c,d,rfl⟩:=v.el b hb;rw[un z j y (Qd _ g) e1.symm,un i m2 c (Qd _ d) e2.symm];exact f y c rfl rfl g d
def eR.seen(v:eR ent es xs)(a:∃y∈xs,y.1=x.1)(un:Ci ent (xs++[x])):eR ent es (xs++[x]):=by
 refine⟨λe b=>?_,?_,v.wide un,λy hy=>?_⟩
 .obtain⟨z,h1,h2⟩:=v.el e b;exact⟨z,Qd _ h1,h2⟩
 .have:=v.sz;simp;lia
 .obtain⟨c,h1,h2⟩ : ∃z∈xs,z.1=y.1:=by
   rcases PP.mp hy with hy|hy
   .exact⟨y,hy,rfl⟩
   .rw[Py]at hy;subst hy;exact a
  obtain⟨z,g1,g2,d⟩:=v.all c h1;exact⟨z,Qd _ g1,g2.trans h2,d⟩
def eR.new(v:eR ent es xs)(c:¬∃y∈xs,y.1=x.1)(un:Ci ent (xs++[x]))(g:lb es es' (ent x)):eR ent es' (xs++[x]):=by
 have d:x∈xs++[x]:=Qs _ (Py.mpr rfl);refine⟨λe he=>?_,?_,?_,λy hy=>?_⟩
 .rcases (g.mem e).mp he with rfl|he
  .exact⟨x,d,rfl⟩
  .obtain⟨z,h1,h2⟩:=v.el e he;exact⟨z,Qd _ h1,h2⟩
 .have:=v.sz;rw[g.size];simp;lia
 .refine g.pw _ (λa b f z i e1 e2 j m2 h=>f i z e2 e1 m2 j h.symm) (v.wide un) λe he z i e1 e2 j m2 h=>?_;obtain⟨y,k,rfl⟩:=v.el e he;exact c ⟨y,k,(un z j y (Qd _ k) e1.symm).symm.trans (h.trans (un i m2 x d e2.symm))⟩
 .rcases PP.mp hy with hy|hy
  .obtain⟨z,h1,h2,h3⟩:=v.all y hy;exact⟨z,Qd _ h1,h2,(g.mem _).mpr (.inr h3)⟩
  .rw[Py]at hy;subst hy;exact⟨y,d,rfl,(g.mem _).mpr (.inl rfl)⟩
end
section
variable{κ μ:Type}
def vP(prog:Uz)(w:World)(A:UB)(hb:Heap)(S:Addr)(ent:κ×μ->Int×UA)(its:List (κ×μ)):Prop:=∀(x:κ×μ)(xs:List (κ×μ))(s:Ux)(es:Array (Int×UA))(Q:Bool->Ux->Prop)(E:UA->Ux->Prop),x∈its->(∀y∈xs,y∈its)->(∀b o,hb.get? b=some o->s.heap.get? b=some o)->SetAt w s.heap S es->eR ent es xs->es.size+1<=300->
 (∀tk,s.toks<=tk->(∃y∈xs,y.1=x.1)->Q false {s with toks:=tk})->(∀tk h' a,s.toks<=tk->(¬∃y∈xs,y.1=x.1)->Heap.SameBut S s.heap h'->SetAt w h' S a->lb es a (ent x)->Q true {s with heap:=h',toks:=tk})->wpAny (model prog w) A (setAdd S (ent x).2) Q E s
variable{St:Nat->Ux->Prop}
def kD(W:WalksS prog w A.in1 I fp wr G n P St)(S:Addr)(F:S∉fp)(hb:Heap)(Q:hb.get? S=none)(T:∀b∈wr,hb.get? b=none)(its:List (κ×μ))(hn:its.length=n)
 (H:∀i v,P i v->∃x,its[i]?=some x/\v=(ent x).2) (un:Ci ent its) (add:vP prog w A.in1 hb S ent its) (hz:n<=300) :
 ∀(k i:Nat)(s:Ux)(es:Array (Int×UA)),n-i=k->i<=n->St i s->(∀b o,hb.get? b=some o->s.heap.get? b=some o)->SetAt w s.heap S es->eR ent es (its.take i)->
  (∀c m,Moved (S::wr) G s c->SetAt w c.heap S m->eR ent m its->R (.ok (.ret .none)) c)->
  codeAny (model prog w) A (.builtin "set.update.loop" ⟨[.ref S,.ref I],[]⟩) R s:=by
 have J:S∉wr:=λh=>F (W.sub _ h);have d:∀b∈wr,b∈S::wr:=λb hb=>Pw _ hb;intro k;induction k with
 |zero=>
  intro i s es hk hi q K U v O;have r:i=n:=by lia
  subst r;refine Rg SM ?_;rw[Rn Rq _];show wpAny _ A.in1 (pyNext (.ref I) >>= _) _ _ s;refine KE (W.done s _ _ q λc hm=>?_);rw[QW (by lia)]at v;have V:=O c es (hm.mono d) (U.keep λo e=>hm.heap S o J e) v;show wpAny _ A.in1 (ret Value.none) _ _ c;exact Po V
 |succ k ih=>
  intro i s es hk hi q K U v O;have t:i<n:=by lia
  refine Rg SM ?_;rw[Rn Rq _];show wpAny _ A.in1 (pyNext (.ref I) >>= _) _ _ s;refine KE (W.item i s _ _ t q λu c hP p hm=>?_);obtain⟨x,hx,rfl⟩:=H i u hP;have B:its.take (i+1)=its.take i++[x]:=by rw[P0,hx];rfl
  have L:Ci ent (its.take i++[x]):=by rw[<- B];exact λy X z hz=>un y (Rp X) z (Rp hz)
  have Y:∀b o,hb.get? b=some o->c.heap.get? b=some o:=λb o e=>hm.heap b o (λz=>by rw[T b z]at e;cases e) (K b o e);have M:=U.keep λo e=>hm.heap S o J e;have Z:es.size+1<=300:=by have:=v.sz;rw[QN]at this;lia
  show wpAny _ A.in1 (holding [(ent x).2] (setAdd S (ent x).2) >>= _) _ _ c;refine KE (Qz (add x (its.take i) c es _ _ (PY hx) (λy X=>Rp X) Y M v Z (λtk a r=>?_) λtk h' m a N C hSn g=>?_))
  .refine Po ⟨RN Rq _,ih (i+1) _ es (by lia) t (W.frame _ c _ _ p a λb hb o e=>e) Y M (by rw[B];exact v.seen r L) λD f j l E=>?_⟩;exact O D f (Moved.trans W.gtrans ((hm.mono d).then_heap a λb o hb e=>e) j) l E
  .have K2:∀b o,hb.get? b=some o->h'.get? b=some o:=λb o e=>(C.2 b (λz=>by rw[z,Q]at e;cases e)).trans (Y b o e);refine Po ⟨RN Rq _,ih (i+1) _ m (by lia) t (W.frame _ c _ _ p a λb hb o e=>?_) K2 hSn (by rw[B];exact v.new N L g) λD f j l E=>?_⟩
   .rw[C.2 b (λh:b=S=>F (h▸hb))];exact e
   .refine O D f (Moved.trans W.gtrans ((hm.mono d).then_heap a λb o hb e=>?_) j) l E;rw[C.2 b (λh:b=S=>hb (h▸Pu))];exact e
abbrev eT(prog:Uz)(w:World)(x:jo):Int×UA:=((tK prog w).hash (iK x.1),Value.ref x.2)
def GE(a:∀x∈its,(tK prog w).is hb (iK x.1) x.2):Ci (eT prog w) its:=λx b y c e=>zT ((tK prog w).inj (a x b) (by
 have e:x.2=y.2:=by injection e with _ e;injection e
 rw[e];exact a y c))
def Di(m:A.units<cLine)(d:∀x∈its,(tK prog w).is hb (iK x.1) x.2):vP prog w A hb S (eT prog w) its:=λx xs s es Q E n hs K o v hz h1 h2=>by
 have a:∀y∈xs,(tK prog w).is s.heap (iK y.1) y.2:=λy i=>gE (d y (hs y i)) K;refine GD m (gE (d x n) K) o (λe j=>?_) hz (λtk t b=>h1 tk t ?_) λtk h' k t f p sa g=>h2 tk h' k t (λb=>?_) p sa g
 .obtain⟨y,i,rfl⟩:=v.el e j;exact⟨_,_,rfl,a y i⟩
 .obtain⟨e,j,c,l,q⟩:=b;obtain⟨y,h,rfl⟩:=v.el e j;injection l with l;subst l;exact⟨y,h,zT ((tK prog w).inj (a y h) q)⟩
 .obtain⟨y,h,r⟩:=b;obtain⟨z,u,B,C⟩:=v.all y h;exact f _ C z.2 rfl (by rw[<- r,<- B];exact a z u)
end
abbrev setNew(led:Bool):Obj:={ cls:=.type "set",dict:=none,data:=.set #[] 0 (.fresh 0 0 led) }
def xc(e:h.get? a=some (setNew (!byT w))):SetAt w h a #[]:=by refine⟨_,0,_,e,⟨rfl,rfl,rfl⟩,rfl,⟨⟨.inl rfl,rfl,List.Pairwise.nil,λj b=>nomatch b⟩,rfl,λq c=>nomatch c⟩,?_,rfl,rfl⟩;show 0*5<7*3;decide
section
def nP(a:UA)(h:Q₁ (.ref s.heap.objs.size) {s with heap:=s.heap.push (setNew (!byT w))}) :
 codeAny (model prog w) A (.call (.builtin "set.__new__") ⟨[.type "set",a],[]⟩) (wants Q₁ E) s:=by
 refine codeAny_of_tree (show wpAny _ A.in1 (do checkBuiltinCall "set.__new__" ⟨[.type "set",a],[]⟩;again (.builtin "set.__new__" ⟨[.type "set",a],[]⟩)) _ _ s from ?_);refine KE (Ul (PySem.F.newCall_set_1 a) (Po ⟨RN PySem.F.plain_set_new _,Rg PySem.F.entry_set_new ?_⟩));rw[Rn PySem.F.plain_set_new _];unfold Builtin.«set.__new__» Builtin.Frozenset.newClass;have b:=sub_set_self;obtain⟨c,g,d,tk,os⟩:=s;dsimp only;wp_walk;refine wpAny_askSetting (Po ?_);dsimp only;simp only[newObj];refine KE (wpAny_alloc (Po ?_));exact Po h
def oP{κ J:Type}{ent:κ×J->Int×UA}{l:Addr}{a:Array UA}{nl:Nat}{its:List (κ×J)} {Q:UA->Ux->Prop} (S:A.handled=none) (K:s.heap.get? l=some { cls:=.type "list",data:=.seq a nl }) (T:its.length=a.size) (hz:a.size<=300)
 (k:∀(i:Nat)(v:UA),a[i]?=some v->∃x,its[i]?=some x/\v=(ent x).2) (un:Ci ent its) (add:vP prog w A.in1.in1.in1 s.heap s.heap.objs.size ent its)
 (h:∀(h':Heap)(tk:Nat)(es:Array (Int×UA)),SetAt w h' s.heap.objs.size es->eR ent es its->(∀b o,b<s.heap.objs.size->s.heap.get? b=some o->h'.get? b=some o)->Q (.ref s.heap.objs.size) {s with heap:=h',toks:=tk}) :
 wpAny (model prog w) A (call (.type "set") [.ref l]) Q E s:=by
 obtain⟨c,tl,L⟩:=PySem.F.called_set.mro;have z:=PySem.F.called_set.made;have M:=PySem.F.called_set.sub;refine wpAny_call (codeAny_of_tree ?_);show wpAny _ _ (callAny (.type "set") _) _ _ _;refine Po ⟨Code.quiet_builtin _ (by decide +kernel),Rg PySem.F.entry_type_call ?_⟩;rw[Around.under_plain (weight_type_call_type "set" [.ref l] []) rfl];have h1:=PySem.F.called_set.notType;have h2:=PySem.F.called_set.canCreate;have U:=PySem.F.typeCall_set_1 (.ref l)
 repeat (any_goals (first|assumption|wp_step))
 refine S1 (nP (.ref l) (E:=E) (Q₁:=λobj f=>obj=.ref s.heap.objs.size/\f={s with heap:=s.heap.push (setNew (!byT w))}) ⟨rfl,rfl⟩) λr f B=>?_;rcases r with e|fl
 .exact B
 cases fl with
 |ret obj=>
  obtain⟨rfl,rfl⟩:=B;have N:(s.heap.push (setNew (!byT w))).get? s.heap.objs.size=some (setNew (!byT w)):=PH _ rfl;have V:Shared.TypeIs {s with heap:=s.heap.push (setNew (!byT w))} (.ref s.heap.objs.size) "set":=⟨_,N,rfl⟩;have W:=PySem.F.called_set.init.lookup;have X:=PySem.F.called_set.init.bind (.ref s.heap.objs.size)
  repeat (any_goals (first|assumption|wp_step))
  refine S1 (codeAny_call_builtin (R:=wants (λr g=>r=.none/\∃h' tk es,g={s with heap:=h',toks:=tk}/\SetAt w h' s.heap.objs.size es/\eR ent es its/\
   (∀b o,b<s.heap.objs.size->s.heap.get? b=some o->h'.get? b=some o)) E) PySem.F.called_set.init.plain PySem.F.entry_set_init (check_set_init_1 V ?_)) λm g d=>?_
  .have n:(s.heap.push (setNew (!byT w))).get? l=some { cls:=.type "list",data:=.seq a nl }:=Pp _ K;have O:=PySem.F.sub_list_set;have P:=PySem.F.sub_list_frozenset;have Y:(Value.type "list"==Value.type "dict")=false:=by decide
   have p:(s.heap.push (setNew (!byT w))).IsList l a:=⟨_,n,rfl,nl,rfl⟩;unfold Builtin.«set.__init__» noKeywords Builtin.Frozenset.updateFrom;generalize C:pyIter=PI
   wp_walk
   subst C;refine Tl p (KE (wpAny_runValue ?_));have t:l<s.heap.objs.size:=PD K;have D:A.in1.in1.in1.handled=none:=by simp[S]
   have u:l≠(s.heap.push (setNew (!byT w))).objs.size:=by rw[Sj];exact P7 (SC t)
   have y:∀b,s.heap.objs.size<=b->s.heap.get? b=none:=λb hb=>by
    cases q:s.heap.get? b with
    |none=>rfl
    |some o=>exact absurd (PD q) (Nat.not_lt.mpr hb)
   refine kD ((Walks.list D _ l u a).toS) s.heap.objs.size ?hSf s.heap (y _ (Pq _)) ?hbw its T k un add hz (a.size-0) 0 _ #[] rfl (PQ _) ⟨⟨_,PH _ rfl,rfl,rfl⟩,(p.push _)⟩
    (λb o e=>Pp _ (Pp _ e)) (xc (Pp _ N)) ⟨λe Z=>(nomatch Z),PQ _,List.Pairwise.nil,λx hx=>(nomatch hx)⟩ ?hR
   case hSf=>rw[Sj];simp only[PB,PV,Ua,not_or];exact⟨P7 (Rt _),RV t⟩
   case hbw=>intro b hb;simp only[PB,PV,Ua]at hb;subst hb;exact y _ (by rw[Sj];lia)
   case hR=>intro s' es hm j v;obtain⟨h',g',d',G,H⟩:=s';have eg:g'=s.gens:=hm.gens;have ed:d'=s.drawn:=hm.drawn;have eo:H=s.os:=hm.os;subst eg ed eo;refine Po (Po ⟨rfl,h',G,es,rfl,j,v,λb o hb e=>hm.heap b o ?_ (Pp _ (Pp _ e))⟩);simp only[PB,PV,Ua,not_or];exact⟨P7 hb,by rw[Sj];exact P7 (SC hb)⟩
  .rcases m with e|fl₂
   .exact d
   cases fl₂ with
   |ret r=>
    obtain⟨rfl,h',tk,es,rfl,j,v,I⟩:=d
    repeat (any_goals (first|assumption|wp_step))
    exact h _ _ _ j v I
   |_=>exact d.elim
 |_=>exact B.elim
end
theorem mB{α:Type}:∀(l:List α)(i:Nat)(h:i<l.length),(l[i]::l.eraseIdx i).Perm l
 |[],i,h=>by simp at h
 |x::l,0,h=>RP _
 |x::l,i+1,h=>by have a:=mB l i (by simpa using h);have e:(x::l).eraseIdx (i+1)=x::l.eraseIdx i:=rfl;rw[e,List.getElem_cons_succ];exact(List.Perm.swap _ _ _).trans (List.Perm.cons x a)
theorem vQ{α:Type}(next:Nat->Nat):∀(a k:Nat)(left:List α)(out:Array α),left.length=a->(pickOrder.go next a k left out).toList.Perm (out.toList++left)
 |0,k,left,out,h=>by have:left=[]:=Qw.mp h;subst this;unfold pickOrder.go;simp
 |f+1,k,left,out,h=>by have b:next k%left.length<left.length:=Uw _ (by lia);unfold pickOrder.go;rw[Px b];dsimp only;have c:=vQ next f (k+1) (left.eraseIdx (next k%left.length)) (out.push left[next k%left.length]) (by rw[List.length_eraseIdx,PN b];lia);refine c.trans ?_;rw[Array.toList_push,Qm];exact List.Perm.append_left _ (mB left _ b)
def xf{α:Type}(next:Nat->Nat)(xs:Array α):(pickOrder next xs).toList.Perm xs.toList:=by have:=vQ next xs.size 0 xs.toList #[] (by simp);unfold pickOrder;simpa using this
def iC(w:World)(S:Addr)(ep:Nat)(es:Array (Int×UA)):Array (Int×UA):=if byT w then pickOrder (w.params.setOrder S ep) es else es
def rC(w:World)(S:Addr)(ep:Nat)(es:Array (Int×UA)):(iC w S ep es).toList.Perm es.toList:=by
 unfold iC;split
 .exact xf _ _
 .exact RP _
def jU(w:World)(S:Addr)(ep:Nat)(es:Array (Int×UA)):(iC w S ep es).size=es.size:=by have:=(rC w S ep es).length_eq;simpa using this
def dt(w:World)(t:SetTable):Nat->Nat
 |0=>0
 |i+1=>if byT w then 0 else t.place.getD i 0+1
def uu(T:Tb t):∀(i:Nat),i<=t.place.size->SetTable.below t.place (match i with|0=>0|i+1=>t.place.getD i 0+1)=i
 |0,_=>by
  obtain⟨a,b,c⟩:=dm 0 T.s_;dsimp only;rcases Nat.eq_zero_or_pos (SetTable.below t.place 0)with h|h
  .exact h
  .have:=b 0 (by lia) h;lia
 |i+1,d=>by
  dsimp only;have e:t.place.getD i 0=t.place[i]:=by simp[Array.getD,show i<t.place.size by lia]
  rw[e];obtain⟨a,b,c⟩:=dm (t.place[i]+1) T.s_;rcases Tp (SetTable.below t.place (t.place[i]+1)) (i+1)with q|q|q
  .have h1:=c i (by lia) (by lia);lia
  .exact q
  .have h1:=b (i+1) (by lia) q;have h2:=Qc.mp T.s_ i (i+1) (by simp;lia) (by simp;lia) (by lia);simp at h2;lia
def slot_setiter_next:Slot "set_iterator" "__next__" "set_iterator.__next__":=.of (owner:="set_iterator") (n:="__next__") (by rw[typeLookup_type,builtinLookup_eq_fast];kernel_rfl) (by decide +kernel) (by decide +kernel) (by decide +kernel) (by first|exact .inl (by decide +kernel)|exact .inr (by decide +kernel)) (by rw[isSubtype_type];kernel_rfl)
def fF:entryFor table "set_iterator.__next__"=some Builtin.«set_iterator.__next__»:=entryFor_of_fast (by kernel_rfl)
def fR(a:UA):argsOk "set_iterator.__next__" ⟨[a],[]⟩:=by(unfold argsOk;kernel_rfl)
def nQ:entryFor table "set.__iter__"=some Builtin.«frozenset.__iter__»:=entryFor_alias (id':="frozenset.__iter__") (by kernel_rfl) rfl (by decide +kernel) (by kernel_rfl)
def SetIt(h:Heap)(it S:Addr)(slot i n ep:Nat):Prop:=∃o,h.get? it=some o/\o.cls=.type "set_iterator"/\o.data=.fields #[.int slot 0,.int i 0,.ref S,.int n 0,.int ep 0]
def SetIt.typeIs{s:Ux}{it S:Addr}{slot i n ep:Nat}(x:SetIt s.heap it S slot i n ep):s.TypeIs (.ref it) "set_iterator":=let ⟨o,a,b,_⟩:=x;⟨o,a,b⟩
def kE(h:Heap)(S:Addr)(es:Array (Int×UA))(ep:Nat)(t:SetTable):Prop:=∃o,h.get? S=some o/\o.ExactSet/\o.data=.set es ep t
section
def uv(h:Q (byT w) s):wpAny (model prog w) A setsByText Q E s:=by unfold setsByText;exact KE (wpAny_askSetting (Po h))
def mC(r:kE s.heap S es ep t)(T:nE t es)(hs:t.place.size<=t.mask)(c:t.plain=true)(a:t.led=!byT w)(j:i<=es.size)
 (h:Q (((iC w S ep es)[i]?).map λe=>(e.2,dt w t (i+1))) s):wpAny (model prog w) A (setNext S (dt w t i) i ep) Q E s:=by
 obtain⟨o,d,hex,hd⟩:=r;have f:=nE.fits T hs;unfold setNext;refine KE (Ra d hd f ?_);dsimp only;refine KE (uv ?_);cases hb:byT w with
 |true=>
  simp only[Sb];rw[PK (by simp)];refine KE ?_;unfold setWalk;refine KE (Ra d hd f ?_);dsimp only;refine KE (uv ?_);rw[hb];simp only[Sb];refine KE (wpAny_askSetting (Po ?_));have e1:dt w t (i+1)=0:=by unfold dt;rw[hb];rfl
  have e2:dt w t i=0:=by cases i with|zero=>rfl|succ i=>(unfold dt;rw[hb];rfl)
  rw[e2];rw[e1]at h;unfold iC at h;rw[hb]at h;exact Po h
 |false=>
  simp only[PZ,Q5];rw[hb]at a;have a:t.led=true:=a;show wpAny _ _ (if(!t.plain&&decide (es.size>1))=true then _ else _) _ _ _;rw[c];simp only[Ry,RY,PZ,Q5];show wpAny _ _ ((if(!t.led&&!es.isEmpty)=true then unsupported "set:maker-not-led" else pure ()) >>= λ_=>_) _ _ _;rw[a];simp only[Ry,RY,PZ,Q5];refine KE (Po ?_);have e1:SetTable.below t.place (dt w t i)=i:=by
   have:=uu T.tb i (by rw[T.len];exact j);cases i with
   |zero=>exact this
   |succ i=>unfold dt;rw[hb];exact this
  have k:iC w S ep es=es:=by unfold iC;rw[hb];rfl
  rw[k]at h;rw[e1];by_cases b:i<es.size
  .have g1:es[i]?=some es[i]:=by simp[b]
   have g:i<t.place.size:=by rw[T.len];exact b
   have g2:t.place[i]?=some t.place[i]:=by simp[g]
   rw[g1]at h;rw[g1,g2];have e2:dt w t (i+1)=t.place[i]+1:=by unfold dt;rw[hb];simp[Array.getD,g]
   rw[e2]at h;exact Po h
  .have g1:es[i]?=none:=by simp;lia
   rw[g1]at h;rw[g1];exact Po h
end
def fS:Slot "set_iterator" "__iter__" "set_iterator.__iter__":=.of (owner:="set_iterator") (n:="__iter__") (by rw[typeLookup_type,builtinLookup_eq_fast];kernel_rfl) (by decide +kernel) (by decide +kernel) (by decide +kernel) (by first|exact .inl (by decide +kernel)|exact .inr (by decide +kernel)) (by rw[isSubtype_type];kernel_rfl)
def jx:entryFor table "set_iterator.__iter__"=some Builtin.«dict_keyiterator.__iter__»:=entryFor_alias (id':="dict_keyiterator.__iter__") (by kernel_rfl) rfl (by decide +kernel) (by kernel_rfl)
def jV(a:UA):argsOk "set_iterator.__iter__" ⟨[a],[]⟩:=by(unfold argsOk;kernel_rfl)
section
def oQ{it S:Addr}{slot i n ep:Nat}{P:PySem.Fin->Ux->Prop}{F:UA->Ux->Prop}(d:s.heap.get? it=some o)(hd:o.data=.fields #[.int slot 0,.int i 0,.ref S,.int n 0,.int ep 0])
 (r:kE s.heap S es ep t) (f:t.fits es.size=true) (g:n=es.size)
 (h:wpAny (model prog w) A (setNext S slot i ep) (λm a=>match m with
   |some (x,next)=>wpAny (model prog w) A (do setField (.ref it) 0 (rawInt next);setField (.ref it) 1 (rawInt (i+1));ret x) P F a
   |none=>wpAny (model prog w) A (do setField (.ref it) 2 .none;raiseNew (<- newExc (.type "StopIteration") [])) P F a) F s) :
 wpAny (model prog w) A (Builtin.«set_iterator.__next__» ⟨[.ref it],[]⟩) P F s:=by
 obtain⟨os,b,hex,c⟩:=r;unfold Builtin.«set_iterator.__next__» slotArgs;simp only[List.isEmpty_nil,Ry,PZ,Q5,Sw,Ts];refine KE (Po ?_);refine KE (Ud d hd ?_);dsimp only;refine KE ?_;unfold setEntries;refine KE (Ra b c f (Po ?_));dsimp only;rw[PK (by rw[g];simp)];simp only[SB];refine KE (Rl h (λm a hm=>?_) λ_ _ e=>e);cases m with
 |none=>exact hm
 |some p=>obtain⟨x,next⟩:=p;exact hm
def nR{it S:Addr}(hne:S≠it)(hh:A.handled=none){es:Array (Int×UA)}{ep:Nat}{t:SetTable}(T:nE t es)(hs:t.place.size<=t.mask)(hpl:t.plain=true)(hle:t.led=!byT w) :
 Walks prog w A it [it,S] [it] es.size (λi v=>((iC w S ep es)[i]?).map (·.2)=some v) (λi h=>SetIt h it S (dt w t i) i es.size ep/\kE h S es ep t) where
 sub:=λb hb=>by simp at hb;simp[hb]
 frame:=λi h h' st hk=>by obtain⟨⟨o,h1,r1⟩,⟨o2,h2,r2⟩⟩:=st;exact⟨⟨o,hk it (by simp) o h1,r1⟩,⟨o2,hk S (by simp) o2 h2,r2⟩⟩
 item:=λi s Q E hi st hQ=>by
  obtain⟨x1,x2⟩:=st;have hT:=x1.typeIs;obtain⟨o,ho,hc,hd⟩:=x1;have x2':=x2;obtain⟨o2,ho2,hex2,hd2⟩:=x2;unfold pyNext;refine KE (TZ (Q7 (name:=Str.ofString "__next__") hT slot_setiter_next (QF slot_setiter_next hT fF ?_ (fR _))));refine oQ ho hd x2' (nE.fits T hs) rfl (mC x2' T hs hpl hle (by lia) ?_);have hio:i<(iC w S ep es).size:=by rw[jU];exact hi
  have e1:(iC w S ep es)[i]?=some (iC w S ep es)[i]:=by simp[hio]
  rw[e1];show wpAny _ _ _ _ _ _;refine KE (SN ho hd (by simp) ?_);have d1:=Td hd (·.setIfInBounds 0 (rawInt ((dt w t (i+1):Nat):Int)));have ho1:=QI (Obj.mapFields (·.setIfInBounds 0 (rawInt ((dt w t (i+1):Nat):Int)))) ho (TB d1);refine KE (SN (s:={s with heap:=_}) ho1 d1 (by simp) ?_);have d2:=Td d1 (·.setIfInBounds 1 (rawInt ((i:Int)+1)));have ho3:=QI (Obj.mapFields (·.setIfInBounds 1 (rawInt ((i:Int)+1)))) ho1 (TB d2);have sb:=(Qi s.heap it (Obj.mapFields (·.setIfInBounds 0 (rawInt ((dt w t (i+1):Nat):Int))))).trans (Qi _ it (Obj.mapFields (·.setIfInBounds 1 (rawInt ((i:Int)+1)))));refine Po ⟨_,rfl,Po ?_⟩;refine hQ _ _ s.toks (by rw[e1];rfl) ⟨⟨_,ho3,?_,?_⟩,o2,(sb.2 S hne).trans ho2,hex2,hd2⟩ (λb o hb e=>(sb.2 b (λz=>hb (by simp[z]))).trans e)
  .exact(Obj.cls_mapFields ..).trans ((Obj.cls_mapFields ..).trans hc)
  .rw[d2];simp[rawInt]
 done:=λs Q E st hQ=>by
  obtain⟨x1,x2⟩:=st;have hT:=x1.typeIs;obtain⟨o,ho,hc,hd⟩:=x1;unfold pyNext;refine KE (TZ (Q7 (name:=Str.ofString "__next__") hT slot_setiter_next (QF slot_setiter_next hT fF ?_ (fR _))));refine oQ ho hd x2 (nE.fits T hs) rfl (mC x2 T hs hpl hle (Pq _) ?_);have e1:(iC w S ep es)[es.size]?=none:=by simp[jU]
  rw[e1];show wpAny _ _ _ _ _ _;refine KE (SN ho hd (by simp) ?_);refine KE ?_;simp only[newExc,newTuple];refine KE (QD ?_ (by size_fits));refine KE (m:=firstArgMember _ _) (Ul (a:=Value.none) (by first|rfl|(simp only[firstArgMember];rfl)) ?_);refine QD ?_ (by size_fits);simp only[raiseNew];refine KE (wpAny_handled ?_);rw[show A.in1.handled=none from hh];refine KE (Po (wpAny_throw ?_));refine KE (Se (T:="StopIteration") (b:=true) ⟨_,PH _ rfl,rfl⟩ isSubtype_stop ?_);refine Po (hQ _ s.toks λb o hb e=>?_);exact Pp _ (Pp _ (((Qi ..).2 b (λz=>hb (by simp[z]))).trans e))
 self:=λ_ _ _ _ st hQ=>by refine SD st.1.typeIs fS (QF fS st.1.typeIs jx ?_ (jV _));exact Po ⟨_,rfl,"set_iterator",_,st.1.typeIs,slot_setiter_next.lookup,hQ⟩
end
section
def uw(r:kE s.heap S es ep t)(b:t.fits es.size=true)(c:t.plain=true)
 (h:Q (.ref s.heap.objs.size) { s with heap:=s.heap.push { cls:=.type "set_iterator",data:=.fields #[.int 0 0,.int 0 0,.ref S,.int es.size 0,.int ep 0] } }):wpAny (model prog w) A (pyIter (.ref S)) Q E s:=by
 obtain⟨o,a,hex,hd⟩:=r;have d:s.TypeIs (.ref S) "set":=⟨o,a,hex.1⟩;refine SD d PySem.F.slot_set_iter (QF PySem.F.slot_set_iter d nQ ?_ (PySem.F.args_set_iter_1 _));unfold Builtin.«frozenset.__iter__» Builtin.Frozenset.slot0 slotArgs;simp only[List.isEmpty_nil,Ry,PZ,↓reduceIte,bind_assoc,Sw,Ts];unfold Builtin.Frozenset.addrOf Builtin.Frozenset.sizeOf setEntries;refine KE (Po (KE (Po ?_)));simp only[bind_assoc];refine KE (Ra a hd b (KE (Po (KE (Po ?_)))));refine KE ?_;unfold setDrawn;refine KE (Ra a hd b ?_);dsimp only;refine KE (uv (Po ?_));show wpAny _ _ (if(!byT w&&(!t.plain&&decide (es.size>1)))=true then _ else _) _ _ _;rw[c];simp only[Ry,RY,SI,PZ,Q5];refine KE (Po ?_);refine KE (wpAny_setEpoch_of a hd b ?_);exact KE (QD (Po ⟨_,rfl,"set_iterator",_,⟨_,PH _ rfl,rfl⟩,slot_setiter_next.lookup,h⟩))
def zU(a:s.TypeIs (.ref S) "set") (h:Q false s):wpAny (model prog w) A (Builtin.List.listLengthHint (.ref S)) Q E s:=by
 unfold Builtin.List.listLengthHint;refine KE (S8 a PySem.F.slot_set_len.lookup ?_);dsimp only;have b:splitId "set.__len__"=some ("set","__len__"):=by decide +kernel
 rw[b];dsimp only;refine KE (Se a sub_set_self ?_);simp only[Ry,PZ,Q5];rw[PN (by decide +kernel)];refine KE (R9 a ?_);exact Po h
def rD(r:kE s.heap S es ep t)(T:nE t es)(hs:t.place.size<=t.mask)(k:t.plain=true)(u:t.led=!byT w)(I:A.handled=none)(hz:es.size<=300)
 (h:∀h' tk,s.heap.objs.size<h'.objs.size->(∀b o,s.heap.get? b=some o->h'.get? b=some o)->Q ((iC w S ep es).toList.map (·.2)) {s with heap:=h',toks:=tk}):wpAny (model prog w) A (collect (.ref S)) Q E s:=by
 have J:=nE.fits T hs;obtain⟨o,x,hex,hd⟩:=r;have g:S<s.heap.objs.size:=PD x;unfold collect;refine KE (wpAny_runValue (Rg entry_proto_collect' (show wpAny _ _ (do again (.builtin "list.__iadd__" ⟨[<- newList [],.ref S],[]⟩)) _ _ s from ?_)));refine KE (T1 (Po ⟨Code.quiet_builtin _ (by decide +kernel),Rg entry_list_iadd' ?_⟩));show wpAny _ _ (Builtin.List.listExtendWith (.ref s.heap.objs.size) (.ref S) (.ref s.heap.objs.size)) _ _ { s with heap:=s.heap.push (seqObj "list" #[] 0) };have j:(s.heap.push (seqObj "list" #[] 0)).get? S=some o:=Pp _ x;have y:Shared.TypeIs { s with heap:=s.heap.push (seqObj "list" #[] 0) } (.ref S) "set":=⟨o,j,hex.1⟩;unfold Builtin.List.listExtendWith;refine KE (R9 y ?_);have q1:Builtin.List.listSameRef (.ref s.heap.objs.size) (.ref S)=false:=by simp[Builtin.List.listSameRef,RV g]
 have q2:(Value.type "set"==Value.type "list")=false:=by decide
 have K:(Value.type "set"==Value.type "tuple")=false:=by decide
 simp only[q1,q2,K,Bool.or_false,PZ,Q5];refine KE (uw ⟨o,j,hex,hd⟩ J k ?_);have z:Shared.TypeIs { s with heap:=(s.heap.push (seqObj "list" #[] 0)).push { cls:=.type "set_iterator",data:=.fields #[.int 0 0,.int 0 0,.ref S,.int es.size 0,.int ep 0] } } (.ref S) "set":=⟨o,Pp _ j,hex.1⟩;refine KE (Qz (zU z ?_));rw[PN (by decide +kernel)];refine KE (S3 ?_);have l:((s.heap.push (seqObj "list" #[] 0)).push { cls:=.type "set_iterator",data:=.fields #[.int 0 0,.int 0 0,.ref S,.int es.size 0,.int ep 0] }).get? s.heap.objs.size=some (seqObj "list" #[] 0):=Pp _ (PH _ rfl);refine KE (show wpAny _ _ (updateSeq s.heap.objs.size (·.push .none) >>= λ_=>updateSeq s.heap.objs.size (·.pop)) _ _ _ from ?_);refine KE (Te l rfl ?_);have m:=QI (Obj.mapSeq (·.push Value.none)) l rfl;refine Te (hz:=by seq_fits) m rfl ?_;have B:=QI (Obj.mapSeq (·.pop)) m rfl;generalize L:(((s.heap.push (seqObj "list" #[] 0)).push { cls:=.type "set_iterator",data:=.fields #[.int 0 0,.int 0 0,.ref S,.int es.size 0,.int ep 0] }).update s.heap.objs.size (Obj.mapSeq (·.push Value.none))).update s.heap.objs.size (Obj.mapSeq (·.pop))=C at *;have n:∀b o,b≠s.heap.objs.size->((s.heap.push (seqObj "list" #[] 0)).push { cls:=.type "set_iterator",data:=.fields #[.int 0 0,.int 0 0,.ref S,.int es.size 0,.int ep 0] }).get? b=some o->C.get? b=some o:=λb o hb e=>by rw[<- L];exact(Rb _ _ (QQ hb)).trans ((Rb _ _ (QQ hb)).trans e)
 have old:∀b o,s.heap.get? b=some o->C.get? b=some o:=λb o e=>n b o (P7 (PD e)) (Pp _ (Pp _ e));have d:(s.heap.push (seqObj "list" #[] 0)).objs.size=s.heap.objs.size+1:=size_push' _ _;have D:C.get? (s.heap.objs.size+1)=some { cls:=.type "set_iterator",data:=.fields #[.int 0 0,.int 0 0,.ref S,.int es.size 0,.int ep 0] }:=n _ _ (by lia) (by rw[<- d];exact PH _ rfl);refine Po ⟨RN PySem.F.plain_extend_loop _,?_⟩;show codeAny _ _ (.builtin "list.extend.loop" ⟨[.ref s.heap.objs.size,.ref (s.heap.push (seqObj "list" #[] 0)).objs.size,.ref s.heap.objs.size],[]⟩) _ _;rw[d];have W:Walks prog w A.in1 (s.heap.objs.size+1) [s.heap.objs.size+1,S] [s.heap.objs.size+1] es.size (λi v=>((iC w S ep es)[i]?).map (·.2)=some v) (λi h=>SetIt h (s.heap.objs.size+1) S (dt w t i) i es.size ep/\kE h S es ep t):=nR (P7 (SC g)) (by simp[I]) T hs k u;refine codeAny_extend_loopS W.toS (by rw[Qf];lia) s.heap.objs.size (by simp only[PB,PV,Ua,not_or];exact⟨P7 (Rt _),RV g⟩) _ es.size 0 _ #[] _ rfl (PQ _) ⟨⟨_,D,rfl,rfl⟩,o,old S o x,hex,hd⟩ (by rw[B];rfl) (ItemsOf.nil _) λM a c hm p f=>?_;obtain⟨h',g',d',G,H⟩:=M;have N:g'=s.gens:=hm.gens;have O:d'=s.drawn:=hm.drawn;have P:H=s.os:=hm.os;subst N O P;refine KE (wpAny_load p ?_);have R:a.toList=(iC w S ep es).toList.map (·.2):=by
  apply SE
  intro i;by_cases q:i<a.size
  .have e1:a.toList[i]?=some a[i]:=by rw[Ql];simp[q]
   have e2:=f.2 i a[i] (by simp[q]);rw[e1,PR,Ql];exact e2.symm
  .rw[Rx (by simpa using Ur q),Rx];rw[Ps,QP,jU,<- f.1];exact Ur q
 show wpAny _ _ (pure a.toList) _ _ _;rw[R];refine Po (h h' G (PD p) λb o e=>hm.heap b o ?_ (old b o e));have:=PD e;simp only[PB,PV,Ua,not_or];exact⟨P7 this,P7 (SC this)⟩
end
def eB:List Int->List Int->Bool
 |[],[]=>false
 |[],_::_=>true
 |_::_,[]=>false
 |a::x,b::y=>if a=b then eB x y else decide (a<b)
theorem vR:∀a:List Int,eB a a=false
 |[]=>rfl
 |a::x=>by unfold eB;rw[PN rfl];exact vR x
theorem zV:∀a b c:List Int,eB a b=true->eB b c=true->eB a c=true
 |[],[],_,h,_=>by cases h
 |[],_::_,[],_,h=>by cases h
 |[],_::_,_::_,_,_=>rfl
 |_::_,[],_,h,_=>by cases h
 |_::_,_::_,[],_,h=>by cases h
 |a::x,b::y,c::z,h1,h2=>by
  unfold eB at h1 h2 ⊢;by_cases e1:a=b
  .subst e1;rw[PN rfl]at h1;by_cases e2:a=c
   .subst e2;rw[PN rfl]at h2 ⊢;exact zV x y z h1 h2
   .rw[PK e2]at h2 ⊢;exact h2
  .grind
theorem vS:∀a b:List Int,a≠b->eB a b=true\/eB b a=true
 |[],[],h=>(h rfl).elim
 |[],_::_,_=>.inl rfl
 |_::_,[],_=>.inr rfl
 |a::x,b::y,h=>by
  unfold eB;by_cases e:a=b
  .subst e;rw[PN rfl,PN rfl];exact vS x y λz=>h (by rw[z])
  .grind
section
variable{prog:Uz}{w:World}{A:UB}{s:Ux}
theorem vT:∀{a b:List Int}{xs f:List UA}(i:Nat),ItemsAre (aK prog w) (iK a) xs->ItemsAre (aK prog w) (iK b) f->Q (eB a b) s->PySem.W.KatLex prog w A true (decide (xs.length<f.length)) Q (xs.zip f) i s
 |[],[],_,_,i,c,d,h=>by cases c;cases d;exact h
 |[],_::_,_,_,i,c,d,h=>by
  cases c;cases d with
  |cons h1 h2=>exact PySem.W.kat_nil h
 |_::_,[],_,_,i,c,d,h=>by
  cases d;cases c with
  |cons h1 h2=>exact PySem.W.kat_nil h
 |a::x,b::y,_,_,i,c,d,h=>by
  cases c with
  |@cons _ n _ k h1 g=>
   cases d with
   |@cons _ o _ l h2 j=>
    obtain⟨p,rfl⟩:=lF h1;obtain⟨t2,rfl⟩:=lF h2;rw[List.zip_cons_cons];refine PySem.W.kat_cons (wpAny_eqBool_int ?_);unfold eB at h;by_cases e:a=b
    .subst e;rw[PN rfl]at h;rw[Us];refine PySem.W.kat_yes ?_;have:=vT (i+1) g j h;simpa using this
    .rw[PK e]at h;have m:(a==b)=false:=by grind
     rw[m];refine PySem.W.kat_no ?_;cases i with
     |zero=>exact oneLt_int h
     |succ i=>exact PySem.W.kat_one _ _ (lt_int h)
structure qL(prog:Uz) (w:World) (h:Heap) (xs:List jo):Prop where
 is:∀x∈xs,(tK prog w).is h (iK x.1) x.2
 ne:∀x∈xs,x.1≠[]
 nd:(xs.map (·.1)).Nodup
def valsT(xs:List jo):List UA:=xs.map λx=>Value.ref x.2
def fT(xs:List jo)(i:Nat):List Int:=((xs[i]?).getD ([],0)).1
def Dj(t:qL prog w s.heap xs):Lt xs.length λi j=>eB (fT xs i) (fT xs j) where
 O7:=λi=>vR _
 tr:=λi j k=>zV _ _ _
 O9:=λi j hi hj e=>vS _ _ λz=>by
  have gi:fT xs i=(xs.map (·.1))[i]'(by simpa using hi):=by simp[fT,hi]
  have gj:fT xs j=(xs.map (·.1))[j]'(by simpa using hj):=by simp[fT,hj]
  rw[gi,gj]at z;rcases Ta e with q|q
  .exact Qc.mp t.nd i j (by simpa using hi) (by simpa using hj) q z
  .exact Qc.mp t.nd j i (by simpa using hj) (by simpa using hi) q z.symm
def zW(t:qL prog w s.heap xs):Dd xs.length (λi j=>eB (fT xs i) (fT xs j)) (kas_ask prog w A (tuples' true) (valsT xs)) s:=by intro i j C b c h;have one:∀k,k<xs.length->∃x,(valsT xs).getD k Value.none=.ref x.2/\fT xs k=x.1/\x∈xs:=λk a=>⟨xs[k],by simp[valsT,a],by simp[fT,a],Ut a⟩;obtain⟨x,ex,d,e⟩:=one i b;obtain⟨y,f,g,l⟩:=one j c;unfold kas_ask;rw[ex,f];obtain⟨r,ix,nx,m,u,dx,n⟩:=t.is x e;obtain⟨v,z,B,o,D,p,q⟩:=t.is y l;refine PySem.W.kat_lt m dx o p ?_;have h:C (eB (fT xs i) (fT xs j)) s:=h;rw[d,g]at h;have:=vT (A:=A) 0 n q h;simpa using this
theorem rE:∀{xs:List jo},(∀x∈xs,(tK prog w).is h (iK x.1) x.2)->(∀x∈xs,x.1≠[])->∃fs:List UA,PySem.W.KatTups h (valsT xs) fs/\fs.length=xs.length/\∀v∈fs,∃i t,v=Value.int i t
 |[],_,_=>⟨[],trivial,rfl,λv g=>nomatch g⟩
 |x::xs,h1,h2=>by
  obtain⟨fs,a,b,c⟩:=rE (λy e=>h1 y (Pw _ e)) λy e=>h2 y (Pw _ e);obtain⟨m,ix,nx,j,o,dx,f⟩:=h1 x Pu;have d:=h2 x Pu;obtain⟨k,p⟩:=x;dsimp only at d f j;cases k with
  |nil=>exact(d rfl).elim
  |cons n ns=>
   generalize q:ix.toList=l at f;cases f with
   |@cons _ v _ vs q1 q2=>
    obtain⟨t,rfl⟩:=lF q1;refine⟨.int n t::fs,⟨⟨p,m,ix,nx,rfl,j,o,dx,?_⟩,a⟩,by simp[b],λv g=>?_⟩
    .rw[<- Ql,q];rfl
    .grind
def xg(t:qL prog w s.heap xs)(d:0<xs.length)(h:Q (tuples' true) s):wpAny (model prog w) A (keyKind' (valsT xs).toArray) Q E s:=by
 obtain⟨fs,a,b,c⟩:=rE t.is t.ne;refine PySem.W.kat_kind (T:=.type "int") a (by lia) (λv e=>?_) (by decide) ?_
 .obtain⟨i,t,rfl⟩:=c v e;exact λA Q E s k q=>Po q
 .have:(Value.type "int" != Value.type "tuple")=true:=by decide
  rw[this];exact h
end
def iD{α:Type}(d:α)(xs:List α)(i:Nat):α:=(xs[i]?).getD d
section
variable{α β:Type}
def mD(d:α)(xs:List α):(List.range xs.length).map (iD d xs)=xs:=by
 apply SE
 intro i;rw[PR];by_cases h:i<xs.length
 .rw[T6 h,Px h];simp[iD,h]
 .rw[Rx (by grind),Rx (by grind)];rfl
def oR(d:α)(pm:Pm xs.length p):(p.toList.map (iD d xs)).Perm xs:=by have:=List.Perm.map (iD d xs) pm;rw[mD]at this;exact this
def vU{r:α->α->Bool}(pm:Pm xs.length p)(so:So (λi j=>r (iD d xs i) (iD d xs j)) p xs.length):(p.toList.map (iD d xs)).Pairwise λx y=>r x y=true:=by
 rw[Q0,Qc];intro i j g h b;have c:i<p.size:=by grind
 have a:j<p.size:=by grind
 have:=so i j b (by rw[<- pm.size];exact a);dsimp only at this;have e:cU p i=p.toList[i]:=by simp[cU,Array.getD,c]
 have f:cU p j=p.toList[j]:=by simp[cU,Array.getD,a]
 rw[e,f]at this;exact this
def rF{f:α->β}{e:β}(d:α)(pm:Pm xs.length p):(p.toList.map λi=>(xs.map f).getD i e)=(p.toList.map (iD d xs)).map f:=by rw[QC];refine QL λi a=>?_;have a:i<xs.length:=Qh.mp (pm.mem_iff.mp a);simp[iD,a]
end
section
def qL.off(t:qL prog w h xs)(d:h.get? a=some o)(f:o.cls=.type "list") (k:∀b o,b≠a->h.get? b=some o->h'.get? b=some o):qL prog w h' xs:=by refine⟨λx g=>?_,t.ne,t.nd⟩;obtain⟨c,ix,nx,h1,c1,r⟩:=t.is x g;refine⟨c,ix,nx,k x.2 c (λe=>?_) h1,c1,r⟩;rw[e,d]at h1;cases h1;rw[f]at c1;exact absurd c1 (by decide)
def rG{a:Addr}{n:Nat}{vs:List UA}{κ:SortKind}{lt:Nat->Nat->Bool}{P:PySem.Fin->Ux->Prop}(m:s.heap.get? a=some (seqObj "list" vs.toArray n)) (y:vs.length<64)
 (z:∀H,(∀b o,b≠a->s.heap.get? b=some o->H.get? b=some o)->2<=vs.length->(∀Q,Q κ {s with heap:=H}->wpAny (model prog w) A (keyKind' vs.toArray) Q E {s with heap:=H})/\Lt vs.length lt/\Dd vs.length lt (kas_ask prog w A κ vs) {s with heap:=H})
 (h:∀p h' c,Pm vs.length p->So lt p vs.length->h'.get? a=some (seqObj "list" (p.toList.map λi=>vs.getD i Value.none).toArray c)->(∀b o,b≠a->s.heap.get? b=some o->h'.get? b=some o)->P (.done (.ret .none)) {s with heap:=h'}) :
 wpAny (model prog w) A (Builtin.«list.sort» ⟨[.ref a],[]⟩) P E s:=by
 rw[list_sort_plain];refine KE (listItems_at m rfl (KE (listUpdate_at m rfl ?_ (by rw[PL,Qf];lia) (PQ _))));obtain⟨e1,q⟩ : ∃e1,(s.heap.update a (Obj.mapSeq λ_=>#[])).get? a=some (seqObj "list" #[] e1):=⟨_,get?_update_seq m (λ_=>#[])⟩;refine KE (seqEpoch_at q rfl (KE (wpAny_newTuple (KE (T1 (Qz ?_) (PQ _))) (by show vs.length<=_;rw[Qf];lia))));have k:∀b o,b≠a->s.heap.get? b=some o->(((s.heap.update a (Obj.mapSeq λ_=>(#[]:Array UA))).push (seqObj "tuple" vs.toArray 0)).push (seqObj "list" #[] 0)).get? b=some o:=λb o hb e=>Pp _ (Pp _ ((Rb _ _ (QQ hb)).trans e));have d:(((s.heap.update a (Obj.mapSeq λ_=>(#[]:Array UA))).push (seqObj "tuple" vs.toArray 0)).push (seqObj "list" #[] 0)).get? a=some (seqObj "list" #[] e1):=Pp _ (Pp _ q);show wpAny (model prog w) A _ P E { s with heap:=((s.heap.update a (Obj.mapSeq λ_=>(#[]:Array UA))).push (seqObj "tuple" vs.toArray 0)).push (seqObj "list" #[] 0) };generalize(((s.heap.update a (Obj.mapSeq λ_=>(#[]:Array UA))).push (seqObj "tuple" vs.toArray 0)).push (seqObj "list" #[] 0))=r at d k;dsimp only;have t:∀(p:Array Nat)(out:Array UA),Pm vs.length p->So lt p vs.length->out=(p.toList.map λi=>vs.getD i Value.none).toArray->P (.done (.ret .none)) {s with heap:=r.update a (Obj.mapSeq λ_=>out)}:=λp out B C m=>by subst m;exact h p _ _ B C (get?_update_seq d λ_=>(p.toList.map λi=>vs.getD i Value.none).toArray) λb o hb e=>(Rb _ _ (QQ hb)).trans (k b o hb e)
 by_cases h2:vs.toArray.size<2
 .rw[PN h2,PN h2];refine KE (Po ?_);rw[StateT.run_pure];have l:vs.length<2:=by grind
  have j:Array.map (λx:Keyed=>x.2) (vs.toArray.zip vs.toArray)=vs.toArray:=by apply Array.ext';simp[List.map_snd_zip]
  refine KE (Po ?_);dsimp only;refine KE (seqEpoch_at d rfl (KE (listUpdate_at d rfl ?_ (PQ _) ?_)))
  .simp only[Ts,PZ,Q5];refine Po (t (List.range vs.length).toArray _ (RP _) (λa b h1 h2=>by lia) (j.trans ?_));rw[show(λi=>vs.getD i Value.none)=iD Value.none vs from funext λi=>by simp[iD]];show _=(List.map _ (List.range vs.length)).toArray;rw[mD]
  .show(Array.map (λx:Keyed=>x.2) (vs.toArray.zip vs.toArray)).size<=_;rw[j,PL,Qf];lia
 .rw[PK h2,PK h2];have l:2<=vs.length:=by grind
  obtain⟨k1,k2,k3⟩:=z r k l;refine KE (k1 _ ?_);refine KE (Rl (PySem.W.kat_run (s:={s with heap:=r}) (Q:=λf u=>u={s with heap:=r}/\∃p:Array Nat,Pm vs.length p/\So lt p vs.length/\arrOf f=p.map (PySem.W.kas_item (vs.toArray.zip vs.toArray))/\failedOf f=none)
   (G:=λp u=>u={s with heap:=r}/\Pm vs.length p/\So lt p vs.length) rfl (by lia) (by lia) (λp f u _ D F g=>⟨g.1,p,g.2.1,g.2.2,D,F⟩) ?_) ?_ λ_ _ e=>e)
  .exact Dg k2 k3 l λp pm so=>⟨rfl,pm,so⟩
  .rintro⟨⟨⟩,f⟩ u ⟨rfl,p,pm,so,v,I⟩;dsimp only;rw[PySem.W.kat_snds rfl v];refine KE (seqEpoch_at d rfl (KE (listUpdate_at d rfl ?_ (PQ _) ?_)))
   .rw[I];simp only[Ts,PZ,Q5];exact Po (t _ _ pm so rfl)
   .have:=pm.size;simp[this];rw[Qf];lia
def oS(m:s.heap.get? a=some (seqObj "list" (valsT xs).toArray n)) (t:qL prog w s.heap xs) (u:xs.length<64)
 (h:∀f h' c,f.Perm xs->f.Pairwise (λx y=>eB x.1 y.1=true)->h'.get? a=some (seqObj "list" (valsT f).toArray c)->(∀b o,b≠a->s.heap.get? b=some o->h'.get? b=some o)->P (.done (.ret .none)) {s with heap:=h'}) :
 wpAny (model prog w) A (Builtin.«list.sort» ⟨[.ref a],[]⟩) P E s:=by
 have d:(valsT xs).length=xs.length:=by simp[valsT]
 refine rG (κ:=tuples' true) (lt:=λi j=>eB (fT xs i) (fT xs j)) m (by lia) (λH g h2=>?_) λp h' c pm so e k=>?_
 .have l:qL prog w H xs:=t.off m rfl g;rw[d];exact⟨λQ q=>xg (s:={s with heap:=H}) l (by lia) q,Dj (s:={s with heap:=H}) l,zW (s:={s with heap:=H}) l⟩
 .rw[d]at pm so;exact h (p.toList.map (iD ([],0) xs)) h' c (oR _ pm) (vU (r:=λx y=>eB x.1 y.1) pm so) (by rw[e];unfold valsT;rw[rF ([],0) pm]) k
def vV(prog:Uz)(w:World)(N:Nat):Prop:=∀(A:UB)(E:UA->Ux->Prop)(s:Ux)(a:Addr)(n:Nat)(xs:List jo)(P:PySem.Fin->Ux->Prop),s.heap.get? a=some (seqObj "list" (valsT xs).toArray n)->qL prog w s.heap xs->xs.length<=N->
 (∀d h' c,d.Perm xs->d.Pairwise (λx y=>eB x.1 y.1=true)->h'.get? a=some (seqObj "list" (valsT d).toArray c)->(∀b o,b≠a->s.heap.get? b=some o->h'.get? b=some o)->P (.done (.ret .none)) {s with heap:=h'})->wpAny (model prog w) A (Builtin.«list.sort» ⟨[.ref a],[]⟩) P E s
def Dk:vV prog w 63:=λ_ _ _ _ _ _ _ a t hz h=>oS a t (by lia) h
end
section
variable{κ μ:Type}{its:List (κ×μ)}
theorem mE:∀(l:List (Int×UA)),(∀e∈l,∃x∈its,e=ent x)->∃zs:List (κ×μ),l=zs.map ent/\∀z∈zs,z∈its
 |[],_=>⟨[],rfl,λz hz=>nomatch hz⟩
 |e::l,h=>by
  obtain⟨x,a,rfl⟩:=h e Pu;obtain⟨zs,h1,h2⟩:=mE l λe b=>h e (Pw _ b);exact⟨x::zs,by rw[h1];rfl,λz hz=>by
   rcases PB.mp hz with rfl|hz
   .exact a
   .exact h2 z hz⟩
structure nI(lt:κ->κ->Prop) (its ys:List (κ×μ)):Prop where
 sub:∀y∈ys,y∈its
 all:∀x∈its,∃y∈ys,y.1=x.1
 pw:ys.Pairwise λx y=>lt x.1 y.1
def GF(prog:Uz)(w:World)(hb:Heap)(ent:κ×μ->Int×UA)(lt:κ->κ->Prop)(its:List (κ×μ)) (N:Nat):Prop:=∀(A:UB)(E:UA->Ux->Prop)(s:Ux)(a:Addr)(n:Nat)(zs:List (κ×μ))(P:PySem.Fin->Ux->Prop),(∀b o,hb.get? b=some o->s.heap.get? b=some o)->s.heap.get? a=some (seqObj "list" (zs.map λz=>(ent z).2).toArray n)->(∀z∈zs,z∈its)->(zs.map (·.1)).Nodup->zs.length<=N->
 (∀(d:List (κ×μ)) h' c,d.Perm zs->d.Pairwise (λx y=>lt x.1 y.1)->h'.get? a=some (seqObj "list" (d.map λz=>(ent z).2).toArray c)->(∀b o,b≠a->s.heap.get? b=some o->h'.get? b=some o)->P (.done (.ret .none)) {s with heap:=h'})->wpAny (model prog w) A (Builtin.«list.sort» ⟨[.ref a],[]⟩) P E s
def jW(sa:SetAt w s.heap S es)(v:eR ent es its)(un:Ci ent its)(G:A.handled=none)(X:N<=300)(hs:GF prog w s.heap ent lt its N)(hz:its.length<=N)
 (h:∀(d:List (κ×μ)) h' tk l c,nI lt its d->d.length<=N->s.heap.objs.size<=l->h'.get? l=some (seqObj "list" (d.map λz=>(ent z).2).toArray c)->(∀b o,s.heap.get? b=some o->h'.get? b=some o)->Q (.ref l) {s with heap:=h',toks:=tk}) :
 wpAny (model prog w) A (call (.builtin "sorted") [.ref S]) Q E s:=by
 obtain⟨o,ep,t,H,hex,hd,T,sp,j,k⟩:=sa;have n:=rC w S ep es;have I:=v.sz;obtain⟨zs,i,f⟩:=mE (ent:=ent) (its:=its) (iC w S ep es).toList λe J=>v.el e (n.mem_iff.mp J);have K:(iC w S ep es).toList.map (·.2)=zs.map λz=>(ent z).2:=by rw[i,QC];rfl
 have p:zs.length=es.size:=by have:=Q1 List.length i;rw[Ps,QP,jU]at this;exact this.symm
 have nd:(zs.map (·.1)).Nodup:=by have pw:=(n.pairwise_iff (λ{x y} q a b e1 e2 L m2 z=>q b a e2 e1 m2 L z.symm)).mpr v.pw;rw[i,Q0]at pw;unfold List.Nodup;rw[Q0];exact Rc (λ{a b} ha hb r=>r a b rfl rfl (f a ha) (f b hb)) pw
 refine SO kind_sorted plain_sorted entry_sorted (args_sorted1 _) ?_;unfold Builtin.«sorted»;refine KE (m:=checkCount "sorted" 1 1 _) (Po (KE (rD ⟨o,H,hex,hd⟩ T (gr sp) j k (by simp[G]) (by lia) λh1 tk1 g1 k1=>?_)));rw[K];refine KE (T1 ?_ (by rw[Ps,p,Qf];lia));have g:(h1.push (seqObj "list" (zs.map λz=>(ent z).2).toArray 0)).get? h1.objs.size=some (seqObj "list" (zs.map λz=>(ent z).2).toArray 0):=PH _ rfl;have C:∀b o,s.heap.get? b=some o->(h1.push (seqObj "list" (zs.map λz=>(ent z).2).toArray 0)).get? b=some o:=λb o e=>Pp _ (k1 b o e);have ge:s.heap.objs.size<=h1.objs.size:=Re g1;refine KE (Qz (QF slot_list_sort ⟨_,g,rfl⟩ entry_list_sort (hs _ _ { s with heap:=h1.push (seqObj "list" (zs.map λz=>(ent z).2).toArray 0),toks:=tk1 } _ _ zs _ C g f nd (by lia) λd h2 c2 u M B k2=>⟨_,rfl,?_⟩) (args_list_sort _)));refine Po ⟨_,rfl,h d h2 tk1 _ c2 ⟨λy O=>f y (u.mem_iff.mp O),λx P=>?_,M⟩ (by rw[u.length_eq];lia) ge B λb o e=>k2 b o (λz=>?_) (C b o e)⟩
 .obtain⟨y,R,U,V⟩:=v.all x P;have D:=n.mem_iff.mpr V;rw[i]at D;obtain⟨z,F,W⟩:=Pt.mp D;exact⟨z,u.mem_iff.mpr F,(un z (f z F) y R W).trans U⟩
 .subst z;exact absurd (PD e) (Nat.not_lt.mpr ge)
end
def TupsIn(H:Hp):List V->List jo->Prop:=Paired λv x=>v=.ref x.2/\H x.2=some (.tup ((iK x.1).map kV))
theorem TupsIn.get(t:TupsIn H vs its)(d:Vals vs us):its.length=us.length/\(∀(i:Nat)(v:UA),us[i]?=some v->∃x:jo,its[i]?=some x/\v=.ref x.2)/\∀x∈its,H x.2=some (.tup ((iK x.1).map kV)):=by
 unfold TupsIn at t;induction t generalizing us with
 |nil=>cases d;exact⟨rfl,λi v e=>by simp at e,λx hx=>nomatch hx⟩
 |@cons v y vs its q t f=>
  cases d with
  |@cons _ u _ us r s=>
   obtain⟨a,b,c⟩:=f s;obtain⟨rfl,q⟩:=q;obtain rfl:u=Value.ref y.2:=r;refine⟨by simp[a],λi v e=>?_,λx hx=>?_⟩
   .cases i with
    |zero=>simp at e;exact⟨y,rfl,e.symm⟩
    |succ i=>exact b i v e
   .rcases PB.mp hx with rfl|hx
    .exact q
    .exact c x hx
section
def xh(g:X.calm=true)(D:X.A.units+64<cLine):bV X (.type "set") (λxs H Q=>∃l vs its,xs=[.ref l]/\Rd H l (.lst vs)/\TupsIn H vs its/\vs.length<=300/\
 ∀p es,H p=none->eR (eT X.prog X.w) es its->Q (.ref p) (upd H p (.ext λh=>SetAt X.w h p es))):=by
 intro ac s σ H xs us Q I r h;obtain⟨l,vs,its,rfl,j,m,hz,q⟩:=h;obtain⟨u,rfl,ru⟩:=dU r;obtain rfl:u=Value.ref l:=ru;obtain⟨_,us,n,d,t⟩:=(show ObjOk X.prog X.w H s.heap l (.lst vs)from j.ok I.aT);obtain⟨g1,g2,y⟩:=m.get d;have c:=λx z=>d5 I.aT (y x z);refine oP (ent:=eT X.prog X.w) (I.ok.hd g) t (its:=its) (by grind) (by rw[PL,<- d.length];exact hz) (λi v e=>g2 i v (by grind)) (GE c) (Di (by show X.A.units+1+1+1<cLine;lia) c) λh' tk es f v B=>?_;have C:H s.heap.objs.size=none:=I.aT.fresh (Pq _);refine⟨.ref s.heap.objs.size,_,I.laid (a:=s.heap.objs.size) (o:=.ext λh=>SetAt X.w h s.heap.objs.size es) (t':=tk) (λb o e=>B b o (PD e) e) (Pq _) ?_,rfl,q _ es C v⟩;exact⟨f,(let ⟨o,_,_,e,_⟩:=f;⟨o,e⟩),λh1 h2 hs k=>SetAt.keep hs k⟩
def pM(m:X.calm=true)(t:N<=300)(hs:vV X.prog X.w N):bV X (.builtin "sorted") (λxs H Q=>∃p es its,xs=[.ref p]/\H p=some (.ext λh=>SetAt X.w h p es)/\eR (eT X.prog X.w) es its/\(∀x∈its,H x.2=some (.tup ((iK x.1).map kV)))/\(∀x∈its,x.1≠[])/\its.length<=N/\
 ∀l b,H l=none->nI (λx y=>eB x y=true) its b->Q (.ref l) (upd H l (.lst (b.map λy=>.ref y.2)))):=by
 intro ac s σ H xs us Q I r h;obtain⟨p,es,its,rfl,z,v,B,g,hz,q⟩:=h;obtain⟨u,rfl,ru⟩:=dU r;obtain rfl:u=Value.ref p:=ru;obtain⟨C,_,_⟩:=(show ObjOk X.prog X.w H s.heap p (.ext λh=>SetAt X.w h p es)from I.aT p _ z);have d:=λx e=>d5 I.aT (B x e);refine jW C v (GE d) (I.ok.hd m) t (lt:=λx y=>eB x y=true) (λA E s a n zs P D F j nd hz h=>hs A E s a n zs P F ⟨λx e=>gE (d x (j x e)) D,λx e=>g x (j x e),nd⟩ hz h) hz λb h' tk l c so i f k G=>?_;refine⟨.ref l,_,I.laid (a:=l) (o:=.lst (b.map λy=>.ref y.2)) (t':=tk) G f ⟨by rw[Ps,Qf];lia,_,c,?_,k⟩,rfl,q l b (I.aT.fresh f) so⟩;clear so k i;induction b with
 |nil=>exact .nil
 |cons y b J=>exact .cons rfl J
end
end L2
namespace L2
open PySem PySem.Spec PySem.Calls PyProof.Rows ST
section
def Dm(T:nE t es)(sp:jn t)(h:Int)(x:UA):∃j,j∉t.place.toList/\j<=t.mask/\Rea t.mask (·∈ t.place.toList) h j/\layNew t es h x=(SetTable.insertAt es (t.put j).2 (h,x),(t.put j).1,false,false):=by
 have hs:=gr sp;have pr:=mq T.tb hs (λ_=>h+1) h (Va.st t.mask h);have c:t.probeStart h=st t.mask h:=rfl;generalize l:t.probe (λ_=>h+1) h (st t.mask h)=m at pr;cases pr with
 |ca n i o e q b=>exact absurd q (by lia)
 |em n e b=>
  have f:Rea t.mask (·∈ t.place.toList) h (it t.mask n (st t.mask h)).j:=⟨n,rfl,λk p=>by obtain⟨i,o,q,_⟩:=b k p;show _∈t.place.toList;rw[<- q];simp⟩;have a:(it t.mask n (st t.mask h)).j<=t.mask:=((Va.st t.mask h).it).N4;refine⟨_,e,a,f,?_⟩;obtain⟨r,em,u⟩:=ur T e a (v:=x) f;have s:(t.put (it t.mask n (st t.mask h)).j).2<=es.size:=by rw[lE,<- T.len];exact(dm _ T.tb.s_).1
  have d:(t.put (it t.mask n (st t.mask h)).j).1.place.size<=(t.put (it t.mask n (st t.mask h)).j).1.mask:=by grind [jn]
  have g:=nE.fits r d;unfold layNew SetTable.freeSlot;rw[c,l];dsimp only[Option.getD,Option.isSome];unfold SetTable.orStandIn;rw[PN g,g];rfl
def xj(hm:tF m)(d:SetTable.sizeAbove n=m+1)(c:es.size<=m):∃b t',relayAll t es n=(b,t',false)/\Laid m es b t'/\t'.led=t.led/\t'.plain=t.plain:=by
 obtain⟨t',a,e,L,h1,h2,f⟩:=rA hm es c t.finger (t.movedTo m) t.led t.plain;refine⟨_,t',?_,L,h1,h2⟩;have er:t.relaid (es.map (·.1)) n=some (t',a):=by unfold SetTable.relaid;rw[d];exact e
 unfold relayAll;rw[er];dsimp only;have g:coversAll a es.size=true:=by unfold coversAll;exact List.isPerm_iff.mpr f
 have h:t'.fits (a.filterMap (es[·]?)).size=true:=nE.fits L.qN (by rw[L.qN.len,L.mask,L.size];exact c);rw[g,h];rfl
end
section
def Dn(M:SetAt w s.heap a es)(el:ElemsOf (intKind prog w) es.toList)(hz:es.size+1<=300)
 (h1:∀tk,s.toks<=tk->(∃e∈es.toList,(intKind prog w).is i e.2=true)->Q false {s with toks:=tk})
 (h2:∀tk h' c,s.toks<=tk->(∀e∈es.toList,(intKind prog w).is i e.2=false)->Heap.SameBut a s.heap h'->SetAt w h' a c->lb es c ((intKind prog w).hash i,.int i t0)->Q true {s with heap:=h',toks:=tk}) :
 wpAny (model prog w) A (setAdd a (.int i t0)) Q E s:=by
 obtain⟨o,ep,t,q,hex,hd,T,sp,r,u⟩:=M;have F:=nE.fits T (gr sp);have G:=intKind_is prog w i t0;have n:(Value.int i t0).scannable=true:=rfl;unfold setAdd;refine Qz ?_;refine KE ((intKind prog w).pyHash (k:=i) G ?_);have f:s.toks<=s.toks+1:=Ui _;generalize s.toks+1=tk at f;unfold setAddHashed setAddHashedIn;refine Qz (KE (Ra (s:={s with toks:=tk}) q hd F ?_));dsimp only;rw[byScan_of n (by unfold scanBound;lia) el];simp only[Sb];unfold setAddByScan;refine KE ?_;refine KE (S3 ?_);refine KE (wpAny_setScan_of (s:={s with toks:=tk}) G q hd F el ?_);cases H:List.findIdx? (λe=>(intKind prog w).is i e.2) es.toList with
 |some j=>dsimp only;obtain⟨x,y,_⟩:=RW.mp H;exact Po (Po (h1 tk f ⟨_,Ut x,y⟩))
 |none=>
  dsimp only;have h:∀e∈es.toList,(intKind prog w).is i e.2=false:=λe N=>by have:=List.findIdx?_eq_none_iff.mp H e N;simpa using this
  obtain⟨j,x,z,O,p⟩:=Dm T sp ((intKind prog w).hash i) (.int i t0);obtain⟨I,em,J⟩:=ur T x z (v:=Value.int i t0) O;have d:(t.put j).1.plain=true:=by rw[jT T.tb];exact r
  have l:(t.put j).1.led=!byT w:=by rw[jT T.tb];exact u
  rw[p];dsimp only;refine KE (show wpAny _ _ (pure ()) _ _ _ from Po ?_);rw[d];simp only[Sb];rw[hashByValue_scannable 8 n];refine KE (Po ?_);rw[show plainKind (Value.int i t0)=true from rfl];simp only[Sb];have P:(t.put j).2<=es.size:=by rw[lE,<- T.len];exact(dm j T.tb.s_).1
  have g:=oO es (t.put j).2 ((intKind prog w).hash i,Value.int i t0) P;refine KE (Tq (s:={s with toks:=tk}) q hd ?_ (by rw[g.size,Qf];lia));obtain⟨o1,q1,q2,B⟩:=i7 (SetTable.insertAt es (t.put j).2 ((intKind prog w).hash i,Value.int i t0)) (t.put j).1 q hex hd;have K:=Qi s.heap a (Obj.putSet (SetTable.insertAt es (t.put j).2 ((intKind prog w).hash i,Value.int i t0)) (t.put j).1);have fill:(t.put j).1.fill=es.size+1:=by unfold SetTable.fill;rw[I.tb.IQ,J,T.len];rfl
  by_cases b:(t.put j).1.tooFull=true
  .rw[b];simp only[Bool.not_false,Uk,Sb];unfold SetTable.tooFull at b;rw[fill,em]at b;have b:(es.size+1)*5>=t.mask*3:=by simpa using b
   have C:es.size*5<t.mask*3:=by rw[<- T.len];exact sp
   obtain⟨m,R,m2,S⟩:=mz T.tb.FZ C b hz;rw[g.size];obtain⟨c,t',D,L,U,V⟩:=xj (t:=(t.put j).1) (es:=SetTable.insertAt es (t.put j).2 ((intKind prog w).hash i,Value.int i t0)) m2 R (by rw[g.size];lia);rw[D];dsimp only;refine KE (show wpAny _ _ (pure ()) _ _ _ from Po ?_);refine KE (Tq q1 B ?_ (by rw[L.size,g.size,Qf];lia));obtain⟨W,X,Y,Z⟩:=i7 c t' q1 q2 B;refine Po (Po (h2 tk _ c f h (K.trans (Qi _ a _)) ⟨W,_,_,X,Y,Z,L.qN,?_,by rw[V];exact d,by rw[U];exact l⟩ (g.laid L)));unfold jn;rw[L.qN.len,L.mask,L.size,g.size];exact S
  .have b:(t.put j).1.tooFull=false:=by simpa using b
   rw[b];simp only[SI,PZ,Q5];refine Po (Po (h2 tk _ _ f h K ⟨o1,_,_,q1,q2,B,I,?_,d,l⟩ g));unfold SetTable.tooFull at b;unfold jn;rw[fill]at b;rw[J,T.len];simpa using b
end
section
abbrev rH:=Int×Tok
abbrev eI(prog:Uz)(w:World)(x:rH):Int×UA:=((intKind prog w).hash x.1,.int x.1 x.2)
def isI:(intKind prog w).is k (.int j t)=true↔k=j:=by
 constructor
 .intro h;by_cases e:k=j
  .exact e
  .have h2:=intKind_is prog w j t;exact absurd ((intKind prog w).inj _ _ _ h h2) e
 .rintro rfl;exact intKind_is prog w k t
def Je:Ci (eI prog w) its:=λx _ y _ e=>by injection e with _ e;injection e
def Do:vP prog w A hb S (eI prog w) its:=λx xs s es Q E n hs K h v hz h1 h2=>by
 refine Dn h (λe c=>?_) hz (λtk t a=>h1 tk t ?_) λtk h' d t b i sa g=>h2 tk h' d t (λa=>?_) i sa g
 .obtain⟨y,_,rfl⟩:=v.el e c;exact⟨⟨y.1,intKind_is prog w y.1 y.2,rfl⟩,rfl⟩
 .obtain⟨e,c,j⟩:=a;obtain⟨y,f,rfl⟩:=v.el e c;exact⟨y,f,(isI.mp j).symm⟩
 .obtain⟨y,f,k⟩:=a;obtain⟨z,o,l,m⟩:=v.all y f;have:=b _ m;rw[isI.mpr (l.trans k).symm]at this;cases this
end
section
def Jf(r:Vals (xs.map V.int) us):∃its:List rH,its.map (·.1)=xs/\us=its.map λz=>Value.int z.1 z.2:=by
 induction xs generalizing us with
 |nil=>cases r;exact⟨[],rfl,rfl⟩
 |cons x xs a=>
  cases r with
  |cons q h=>obtain⟨t,rfl⟩:=q;obtain⟨its,rfl,rfl⟩:=a h;exact⟨(x,t)::its,rfl,rfl⟩
def ux(d:X.calm=true):bV X (.type "set") (λvs H Q=>∃l xs,vs=[.ref l]/\Rd H l (.lst (xs.map V.int))/\xs.length<=300/\∀p es its,H p=none->its.map (·.1)=xs->eR (eI X.prog X.w) es its->Q (.ref p) (upd H p (.ext λh=>SetAt X.w h p es))):=by
 intro ac s σ H vs us Q I r h;obtain⟨l,xs,rfl,f,hz,q⟩:=h;obtain⟨u,rfl,ru⟩:=dU r;obtain rfl:u=Value.ref l:=ru;obtain⟨_,us,n,g,j⟩:=(show ObjOk X.prog X.w H s.heap l (.lst (xs.map V.int))from f.ok I.aT);obtain⟨its,rfl,rfl⟩:=Jf g;rw[Ps]at hz;refine oP (ent:=eI X.prog X.w) (I.ok.hd d) j (its:=its) (by simp) (by simpa using hz) (λi v e=>?_) Je Do λh' tk es c v m=>?_
 .simp only[List.getElem?_toArray,PR,QV]at e;obtain⟨x,h1,h2⟩:=e;exact⟨x,h1,h2.symm⟩
 .refine⟨.ref s.heap.objs.size,_,I.laid (a:=s.heap.objs.size) (o:=.ext λh=>SetAt X.w h s.heap.objs.size es) (t':=tk) (λb o e=>m b o (PD e) e) (Pq _) ?_,rfl,q _ es its (I.aT.fresh (Pq _)) rfl v⟩;exact⟨c,(let ⟨o,_,_,e,_⟩:=c;⟨o,e⟩),λh1 h2 hs k=>SetAt.keep hs k⟩
end
def iE(zs:List rH):List UA:=zs.map λz=>Value.int z.1 z.2
section
theorem rJ:∀zs:List rH,IntsAre (iE zs) (zs.map (·.1))
 |[]=>.nil
 |z::zs=>.cons _ _ (rJ zs)
def xk{P:PySem.Fin->Ux->Prop}(u:s.heap.get? a=some (seqObj "list" (iE zs).toArray n)) (nd:(zs.map (·.1)).Nodup) (hz:zs.length<=63)
 (h:∀t h' c,t.Perm zs->t.Pairwise (λx y=>x.1<y.1)->h'.get? a=some (seqObj "list" (iE t).toArray c)->(∀b o,b≠a->s.heap.get? b=some o->h'.get? b=some o)->P (.done (.ret .none)) {s with heap:=h'}) :
 wpAny (model prog w) A (Builtin.«list.sort» ⟨[.ref a],[]⟩) P E s:=by
 have d:(iE zs).length=zs.length:=by simp[iE]
 have at_:∀k (m:k<zs.length),iD (0,0) zs k=zs[k]:=λk m=>by simp[iD,m]
 refine rG (κ:=oneType') (lt:=λi j=>decide ((iD (0,0) zs i).1<(iD (0,0) zs j).1)) u (by lia) (λH v h2=>⟨λQ q=>?_,⟨λi=>by simp,λi j k=>by grind,λi j g l e=>?_⟩,λi j C g l q=>?_⟩) λp h' c pm so e k=>?_
 .have f:keyKind' (iE zs).toArray=pure oneType':=by
   match zs,(show 2<=zs.length by lia)with
   |z1::z::r,_=>exact keyKind_ints (rJ (z1::z::r))
  rw[f];exact Po q
 .rw[d]at g l;rw[at_ i g,at_ j l];rcases Ta e with q|q
  .have:=Qc.mp nd i j (by grind) (by grind) q;grind
  .have:=Qc.mp nd j i (by grind) (by grind) q;grind
 .rw[d]at g l;unfold kas_ask;have one:∀k (m:k<zs.length),(iE zs).getD k Value.none=.int zs[k].1 zs[k].2:=λk m=>by simp[iE,m]
  rw[one i g,one j l,keyLt'_oneType];dsimp only at q;rw[at_ i g,at_ j l]at q;exact oneLt_int q
 .rw[d]at pm so;refine h (p.toList.map (iD (0,0) zs)) h' c (oR _ pm) ((vU (r:=λx y=>decide (x.1<y.1)) pm so).imp λh=>Qa h) ?_ k;rw[e];unfold iE;rw[rF (0,0) pm]
end
section
theorem oT:∀a:List rH,Vals (a.map λy=>V.int y.1) (iE a)
 |[]=>.nil
 |y::a=>.cons ⟨y.2,rfl⟩ (oT a)
def nT(f:X.calm=true):bV X (.builtin "sorted") (λvs H Q=>∃p es its,vs=[.ref p]/\H p=some (.ext λh=>SetAt X.w h p es)/\eR (eI X.prog X.w) es its/\its.length<=63/\
 ∀(l:Addr)(ks:List Int),H l=none->(∀k,k∈ks↔k∈its.map (·.1))->ks.Pairwise (·< ·)->Q (.ref l) (upd H l (.lst (ks.map V.int)))):=by
 intro ac s σ H vs us Q I r h;obtain⟨p,es,its,rfl,g,v,hz,q⟩:=h;obtain⟨u,rfl,ru⟩:=dU r;obtain rfl:u=Value.ref p:=ru;obtain⟨i,_,_⟩:=(show ObjOk X.prog X.w H s.heap p (.ext λh=>SetAt X.w h p es)from I.aT p _ g);refine jW i v Je (I.ok.hd f) (by decide) (lt:=(·< ·)) (λA E s a n zs P _ j _ nd hz h=>xk j nd hz h) hz λb h' tk l c so m d t e=>?_;have em:(b.map (·.1)).map V.int=b.map λy=>V.int y.1:=by rw[QC];rfl
 refine⟨.ref l,_,I.laid (a:=l) (o:=.lst ((b.map (·.1)).map V.int)) (t':=tk) e d ?_,rfl,q l (b.map (·.1)) (I.aT.fresh d) (λk=>?_) (Q0.mpr so.pw)⟩
 .rw[em];exact⟨by rw[Ps,Qf];lia,iE b,c,oT b,t⟩
 .constructor
  .intro e;obtain⟨y,z,rfl⟩:=Pt.mp e;exact Pt.mpr ⟨y,so.sub y z,rfl⟩
  .intro e;obtain⟨x,B,rfl⟩:=Pt.mp e;obtain⟨y,C,D⟩:=so.all x B;exact Pt.mpr ⟨y,C,D⟩
end
end L2
namespace L2
open PySem PySem.Spec PySem.Calls PyProof.Rows
section
def GG{k:List bI}{dflt:UA}{Q:UA->Ux->Prop}(n:A.units<cLine)(l:(tK prog w).is s.heap k a)(hm:s.heap.DictOfH (tK prog w) d xs)(hsz:xs.length<=sizeLine)
 (h1:∀p,atKey xs k=some p->Q p.2 {s with toks:=s.toks+(tK prog w).draws k})
 (h2:atKey xs k=none->∀h',h'.DictOfH (tK prog w) d (storedH xs k a dflt)->Heap.SameBut d s.heap h'->Q dflt {s with heap:=h',toks:=s.toks+(tK prog w).draws k}):wpAny (model prog w) A (dictSetDefault d (.ref a) dflt) Q E s:=by
 obtain⟨o,es,ep,c,t,hd,i,f,m⟩:=hm;unfold dictSetDefault
 try with_reducible refine Qz ?_
 refine KE ((tK prog w).pyHash n l (KE (wpAny_dictFind_heap (knd:=tK prog w) (s:={s with toks:=s.toks+(tK prog w).draws k}) n l c hd i f m (λg=>?_) λj p q=>?_)))
 .have b:=atKey_none_of_get g;have h:k∉xs.map (·.1):=not_mem_keys_of_get g;refine KE (S3 (KE (TR (hz:=by have e:=RQ i;lia) (s:={s with toks:=s.toks+(tK prog w).draws k}) c hd (Po (h2 b _ ⟨_,_,ep+1,QI _ c (SV (Ro hd _)),t.mapDictKeys _,Ro hd _,?_,?_,?_⟩ (Qi ..))))))
  .rw[storedH_new b];simp[i,entryOfKey]
  .rw[storedH_new b];intro x hx;rcases PP.mp hx with hx|hx
   .exact(tK prog w).keeps (f x hx) c hd (Qi ..)
   .obtain rfl:=Py.mp hx;exact(tK prog w).keeps l c hd (Qi ..)
  .rw[storedH_new b,Qo,Qj];exact⟨m,by simp,λx hx y r e=>by simp only[PU,RO,Py]at r;subst r;exact h (e▸hx)⟩
 .refine KE (QE (s:={s with toks:=s.toks+(tK prog w).draws k}) c hd ?_);rw[entry_at i j,q];exact KE (S3 (Po (h1 p (atKey_of_get m q))))
end
section
def Dp:V->List V->Hp->VK->Prop:=λx xs H Q=>∃a b k y kvs,x=.ref a/\xs=[.ref b,y]/\H b=some (.tup (k.map kV))/\H a=some (.dT kvs)/\kvs.length<sizeLine/\
 ((∃v,cZ kvs k=some v/\Q v H)\/(cZ kvs k=none/\Q y (upd H a (.dT (cg kvs k y)))))
def oU(N:X.A.units+64<cLine):C3 X "dict.setdefault" Dp:=by
 intro ac s σ H x xs v us Q I B rs q;obtain⟨a,b,k,y,kvs,rfl,rfl,hb,ha,hz,q⟩:=q;obtain rfl:v=Value.ref a:=B;obtain⟨u1,u2,rfl,g,e⟩:=qW rs;obtain rfl:u1=Value.ref b:=g;obtain⟨C,D,vs,h,l⟩:=Fa I.aT ha;have E:=d5 I.aT hb;have m:Shared.TypeIs s (.ref a) "dict":=by obtain⟨o,es,ep,F,G,_⟩:=l;exact⟨o,F,G.1⟩
 refine QF QB m TH ?_ (Tz _ _ _);unfold Builtin.«dict.setdefault»;refine KE ?_;unfold Builtin.Dict.keyAndDefault;refine KE (Rh m (show wpAny _ _ (pure (a,Value.ref b,some u2)) _ _ s from Po ?_));show wpAny _ _ (if(a==sysModules)=true then _ else(dictSetDefault a (Value.ref b) u2 >>= _)) _ _ s;rw[PK (by grind)];have J:vs.length<=sizeLine:=by rw[<- Rk h];exact C
 have f:=h.val k;refine KE (GG (by grind) E l J (λp n=>?_) λi h' j hs=>?_)
 .rcases q with⟨v,d,q⟩|⟨d,q⟩
  .have:RelO (some v) (some p.2):=by rw[<- d];rw[n]at f;exact f
   exact Po ⟨_,rfl,v,H,I.tok _,this,q⟩
  .have:=f.fA;rw[d,n]at this;cases this
 .rcases q with⟨v,d,q⟩|⟨d,q⟩
  .have:=f.fA;rw[d,i]at this;cases this
  .obtain⟨r,es,ep,t,h2,h3,K,_,L⟩:=j;have M:(cg kvs k y).length<=sizeLine:=by have:=eh kvs k y;lia
   have aT:ObjOk X.prog X.w (upd H a (.dT (cg kvs k y))) h' a (.dT (cg kvs k y)):=by refine⟨M,D,_,(h.put k hb e).keeps λc O u=>?_,r,es,ep,t,h2,h3,K,L⟩;rw[ai (yU u ha (λz=>nomatch z))];exact u
   exact Po ⟨_,rfl,y,_,i5 (t':=s.toks+(tK X.prog X.w).draws k) I (by rw[ha];exact True.intro) hs ⟨r,t⟩ aT,e,q⟩
def uy:V->List V->Hp->VK->Prop:=λx xs H Q=>∃a b k y kvs,x=.ref a/\xs=[.ref b,y]/\H b=some (.tup (k.map kV))/\(H a=some (.dT kvs)\/(H a=some (.dK [])/\kvs=[]))/\kvs.length<sizeLine/\
 ((∃v,cZ kvs k=some v/\Q v H)\/(cZ kvs k=none/\Q y (upd H a (.dT (cg kvs k y)))))
def gs(f:X.A.units+64<cLine):C3 X "dict.setdefault" uy:=by
 intro ac s σ H x xs v us Q I g rs q;obtain⟨a,b,k,y,kvs,e1,e2,hb,ha,hz,q⟩:=q;rcases ha with ha|⟨ha,rfl⟩
 .exact oU f ac s σ H x xs v us Q I g rs ⟨a,b,k,y,kvs,e1,e2,hb,ha,hz,q⟩
 .have d:b≠a:=yU hb ha (λz=>nomatch z);refine oU f ac s σ (upd H a (.dT [])) x xs v us Q (I.NL ha) g rs ⟨a,b,k,y,[],e1,e2,by rw[ai d];exact hb,ag,hz,.inr ?_⟩;rcases q with⟨v,e,q⟩|⟨e,q⟩
  .cases e
  .have:upd (upd H a (.dT [])) a (.dT (cg [] k y))=upd H a (.dT (cg [] k y)):=by
    funext c;by_cases h:c=a
    .subst h;rw[ag,ag]
    .rw[ai h,ai h,ai h]
   exact⟨e,by grind⟩
end
def RawD(h:Heap)(d:Addr)(es:Array DictEntry)(ep:Nat):Prop:=∃o,h.get? d=some o/\o.ExactDict/\o.data=.dict es ep
section
variable{prog:Uz}{w:World}{A:UB}{s:Ux}{d v it:Addr}{es:Array DictEntry}{ep i:Nat}{ok ov:UA}
def RawD.ty(m:RawD s.heap d es ep):s.TypeIs (.ref d) "dict":=let ⟨o,h,c,_⟩:=m;⟨o,h,c.1⟩
theorem pN(d:Addr)(hd:(d==sysModules)=false) :
 MeetsIn prog w (Builtin.«dict.items» ⟨[.ref d],[]⟩) (λ_ R s=>(∃es ep,RawD s.heap d es ep)/\R (.ok (.ret (.ref s.heap.objs.size))) { s with heap:=s.heap.push { cls:=.type "dict_items",data:=.fields #[.ref d] } }):=
 .of_wp λA R s ⟨⟨es,ep,m⟩,h⟩=>by unfold Builtin.«dict.items» Builtin.Dict.noArgs;refine KE (KE (Rh m.ty (Po ?_)));show wpAny _ _ (Builtin.Dict.showsAll d >>= _) _ _ s;unfold Builtin.Dict.showsAll;rw[PK (by rw[hd];simp)];exact KE (Po (KE (QD (Po ⟨_,rfl,h⟩))))
theorem rK(a:s.heap.IsItemsView v d)(m:RawD s.heap d es ep)
 (c:Q (.ref s.heap.objs.size) { s with heap:=s.heap.push { cls:=.type "dict_itemiterator",data:=.fields #[.none,.bool false,.ref d,.int 0 0,.int es.size 0,.int ep 0,.none,.none] } }) :
 wpAny (model prog w) A (pyIter (.ref v)) Q E s:=by
 obtain⟨e,e1,_,e2⟩:=id a;obtain⟨o,b,_,hd⟩:=id m;refine SD a.typeIs F.slot_dict_items_iter (QF F.slot_dict_items_iter a.typeIs F.entry_dict_items_iter ?_ (F.args_dict_items_iter_1 _));unfold Builtin.«dict_items.__iter__» Builtin.Dict_items.dictOf Builtin.Dict_items.newIterator;refine KE (Po (KE (KE (To e1 e2 (x:=.ref d) rfl (Po (KE (KE (QE b hd (KE (RT b hd ?_))))))))));simp only[show Builtin.Dict_items.ownsTuple "dict_itemiterator"=true by decide,Sb];refine QD (Po ⟨_,rfl,"dict_itemiterator",_,⟨_,PH _ rfl,rfl⟩,Q_.lookup,?_⟩)
  (by simp only[sizeOk,Builtin.Dict_items.ownedTupleFields,PL,PJ,P8,Sw,Qf];lia)
 simpa[rawInt,Builtin.Dict_items.ownedTupleFields]using c
theorem rL(f:A.handled=none)(y:IsItemIter s.heap it d i es.size ep ok ov)(m:RawD s.heap d es ep)(g:es.size<=i)(h:∀h',Heap.ExtBut it s.heap h'->Q none {s with heap:=h'}):wpAny (model prog w) A (pyNext (.ref it)) Q E s:=by
 obtain⟨o,e,_,hd⟩:=id m;have c:s.TypeIs (.ref it) "dict_itemiterator":=⟨_,y,rfl⟩;unfold pyNext;refine KE (TZ (Q7 (name:=Str.ofString "__next__") c Q_ (QF Q_ c F.entry_dict_itemiterator_next ?_ (F.args_dict_itemiterator_next_1 _))));refine KE (Po (KE (KE ?_)))
 first|refine KE (RH c (Po ?_))|refine KE (RZ c (Po ?_))
 refine KE (Ud y rfl ?_);simp only[show Builtin.Dict_items.ownsTuple "dict_itemiterator"=true by decide,Sb];show wpAny _ _ (if(Value.ref d==Value.none)=true then _ else _) _ _ s;rw[PK (show ¬((Value.ref d==Value.none)=true)from Qg)];refine KE (Po (KE (QE e hd ?_)));rw[PK (by simp)];refine KE (Po (KE (RT e hd ?_)));rw[PK (by simp)];refine Po ?_;simp only[show ¬((i:Int)<0)from by lia,Q5,SB,Tg g];refine KE ?_
 first|refine KE (RH c (Po ?_))|refine KE (RZ c (Po ?_))
 show wpAny _ _ (setField (.ref it) 2 .none >>= _) _ _ s;refine KE (SN y rfl (by simp) ?_);show wpAny _ _ (newExc (.type "StopIteration") [] >>= _) _ _ _;refine KE ?_;simp only[newExc,newTuple];refine KE (QD ?_ (by size_fits));refine KE (m:=firstArgMember _ _) (Ul (a:=Value.none) (by first|rfl|(simp only[firstArgMember];rfl)) ?_);refine QD ?_ (by size_fits);simp only[raiseNew];refine KE (wpAny_handled ?_);rw[show A.in1.handled=none from f];refine KE (Po (wpAny_throw ?_));refine KE (Se (T:="StopIteration") (b:=true) ⟨_,PH _ rfl,rfl⟩ isSubtype_stop ?_);exact Po (h _ (((Qi ..).extBut.push _).push _))
theorem uz(y:IsItemIter s.heap it d i es.size ep ok ov)(m:RawD s.heap d es ep)(H:es[i]?=some e)
 (I:∀h',IsItemIterOut h' it d (i+1) es.size ep e.key e.val s.heap.objs.size->h'.get? s.heap.objs.size=some { cls:=.type "tuple",data:=.seq #[e.key,e.val] }->
   (∀b o,b≠it->s.heap.get? b=some o->h'.get? b=some o)->Q (some (.ref s.heap.objs.size)) {s with heap:=h'}):wpAny (model prog w) A (pyNext (.ref it)) Q E s:=by
 obtain⟨a,g,h,tk,os⟩:=s;obtain⟨o,D,_,hd⟩:=id m;have c:Shared.TypeIs ⟨a,g,h,tk,os⟩ (.ref it) "dict_itemiterator":=⟨_,y,rfl⟩;have p:a.objs.size≠it:=RV (PD y);unfold pyNext;refine KE (TZ (Q7 (name:=Str.ofString "__next__") c Q_ (QF Q_ c F.entry_dict_itemiterator_next ?_ (F.args_dict_itemiterator_next_1 _))));refine KE (Po (KE (KE ?_)))
 first|refine KE (RH c (Po ?_))|refine KE (RZ c (Po ?_))
 refine KE (Ud y rfl ?_);simp only[show Builtin.Dict_items.ownsTuple "dict_itemiterator"=true by decide,Sb];show wpAny _ _ (if(Value.ref d==Value.none)=true then _ else _) _ _ _;rw[PK (show ¬((Value.ref d==Value.none)=true)from Qg)];refine KE (Po (KE (QE D hd ?_)));rw[PK (by simp)];refine KE (Po (KE (RT D hd ?_)));rw[PK (by simp)];refine Po ?_;simp only[show ¬((i:Int)<0)from by lia,Q5,SB,H];refine KE ?_
 first|refine KE (RH c (Po ?_))|refine KE (RZ c (Po ?_))
 refine KE (Th c ?_);show wpAny _ _ (setField (.ref it) 3 (rawInt ((i:Int)+1)) >>= _) _ _ ⟨a,g,h,tk,os⟩;refine KE (Sq y (by simp) λh1 j s1=>?_);replace s1:Heap.SameBut it a h1:=s1;replace j:IsItemIter h1 it d (i+1) es.size ep ok ov:=by
  have q:((i+1:Nat):Int)=(i:Int)+1:=by lia
  unfold IsItemIter;rw[q];simpa[rawInt]using j
 have f:Shared.TypeIs ⟨h1,g,h,tk,os⟩ (.ref it) "dict_itemiterator":=⟨_,j,rfl⟩;refine KE (Qz (KE (Th f (KE (Th f ?_)))));show wpAny _ _ (Builtin.Dict_items.pairFromOwner (.ref it) 6 e.key e.val) _ _ ⟨h1,g,h,tk,os⟩;unfold Builtin.Dict_items.pairFromOwner;refine KE (wpAny_newTuple ?_);have k:IsItemIter (h1.push { cls:=.type "tuple",data:=.seq #[e.key,e.val] }) it d (i+1) es.size ep ok ov:=Pp _ j;have t2:(h1.push { cls:=.type "tuple",data:=.seq #[e.key,e.val] }).get? a.objs.size=some { cls:=.type "tuple",data:=.seq #[e.key,e.val] }:=by rw[<- s1.1];exact PH _ rfl
 have k2:∀b o,b≠it->a.get? b=some o->(h1.push { cls:=.type "tuple",data:=.seq #[e.key,e.val] }).get? b=some o:=λb o n q=>Pp _ (s1.extBut b o n q);have G:h1.objs.size=a.objs.size:=s1.1;generalize h1.push { cls:=.type "tuple",data:=.seq #[e.key,e.val] }=h2 at k t2 k2;show wpAny _ _ (Builtin.Dict_items.ownedTupleIsFree (.ref it) >>= _) _ _ ⟨h2,g,h,tk,os⟩;rw[G];clear j s1 f G h1;refine KE ?_;unfold Builtin.Dict_items.ownedTupleIsFree;refine KE (To k rfl (x:=.none) rfl (Po ?_));simp only[Sb];refine KE (To k rfl (x:=ok) rfl (KE (To k rfl (x:=ov) rfl ?_)));refine KE (Sq k (by simp) λh3 r J=>?_);replace r:IsItemIter h3 it d (i+1) es.size ep e.key ov:=r;refine KE (Sq r (by simp) λt u K=>?_);replace u:IsItemIter t it d (i+1) es.size ep e.key e.val:=u;refine KE (Sq u (by simp) λz B L=>?_);replace B:IsItemIterOut z it d (i+1) es.size ep e.key e.val a.objs.size:=B;refine KE (Sq B (by simp) λl C M=>?_);replace C:IsItemIterOut l it d (i+1) es.size ep e.key e.val a.objs.size:=C;have up:∀b o,b≠it->h2.get? b=some o->l.get? b=some o:=λb o n q=>SW (show Heap.SameBut it z l from M) b o n (SW (show Heap.SameBut it t z from L) b o n (SW (show Heap.SameBut it h3 t from K) b o n (SW (show Heap.SameBut it h2 h3 from J) b o n q)));exact KE (Tt (Po (Po ⟨_,rfl,Po (I l C (up _ _ p t2) λb o n q=>up b o n (k2 b o n q))⟩)))
end
def uA{P:Uz}{w:World}{K:Uy}{es:List Expr}{k0:Nat}{pos:Pos}{J:It}{d it:Addr}{o:Obj}{u:HO}{en:Array DictEntry}{ep:Nat}(hex:o.ExactDict)(hdat:o.data=.dict en ep)(hgo:∀i H,J.go i H->H d=some (.bP o u))(hst:∀i H,J.stop i H->H d=some (.bP o u)/\en.size<=i)
 (hent:∀H h,HOk P w H h->∀i,J.go i H->∃e y v,en[i]?=some e/\RelV y e.key/\RelV v e.val/\∀p,H p=none->J.BY i H (.ref p) (upd H p (.tup [y,v]))) :
 Turn P w K (.Tuple es k0 pos) J [it] it (λi h=>∃ok ov,IsItemIter h it d i en.size ep ok ov) where
 mem:=by simp
 obj:=λi h st b hb=>by
  have e:b=it:=by simpa using hb
  subst e;obtain⟨ok,ov,e⟩:=st;exact⟨_,e,λv z=>by cases z⟩
 keep:=λi h h' st k=>by obtain⟨ok,ov,e⟩:=st;exact⟨ok,ov,k it (by simp) _ e⟩
 item:=by
  intro X hP hw hK hc i ac s σ H E I hf st hg;subst hP hw hK;have hd:=hgo i H hg;obtain⟨ok,ov,st⟩:=st;obtain⟨eo,_⟩:=(show ObjOk X.prog X.w H s.heap d (.bP o u)from I.aT d _ hd);obtain⟨e,y,v,he,ry,rv,hy⟩:=hent H s.heap I.aT i hg;have fi:=hf it (by simp);refine uz st ⟨o,eo,hex,hdat⟩ he λh' hout hT kp=>?_;refine⟨_,rfl,wpAny_letOwnedTupleGo_items hout λh'' hit'' hs''=>?_⟩;have keep2:∀b o,b≠it->s.heap.get? b=some o->h''.get? b=some o:=λb o n1 q=>(hs''.2 b n1).trans (kp b o n1 q);have hTe:s.heap.objs.size≠it:=RV (PD st);have hT'':h''.get? s.heap.objs.size=some { cls:=.type "tuple",data:=.seq #[e.key,e.val] }:=(hs''.2 _ hTe).trans hT;have fr:=I.aT.fresh (Pq _);have I1:Inv X ac σ (upd H s.heap.objs.size (.tup [y,v])) {s with heap:=h''}:=by
   refine I.step (g':=s.gens) (d':=s.drawn) (ch:=[it]) (λb hb=>?_) (λb o _ _ hn q _=>keep2 b o (λz=>hn (by simp[z])) q)
    (λb o _ _ hn q _=>⟨o.slots,keep2 b o (λz=>hn (by simp[z])) q⟩) (λb o _ q hH=>by rw[ai (P7 (PD q))];exact hH)
    (λb o hn q=>⟨o,keep2 b o (λz=>hn (by simp[z])) q⟩) (λb ys q=>by rw[ai (ax q fr)];exact q)
    (λb o' u' q=>by rw[ai (ax q fr)];exact q) (λb ps q=>⟨#[],by rw[ai (ax q fr)];simp[q]⟩) (λm hm=>?_) (λb u' q=>?_) I.bare
   .have:b=it:=by simpa using hb
    subst this;exact⟨fi.2.2.2.1,fi.2.1,fi.2.2.2.2.1,fi.2.2.2.2.2⟩
   .obtain⟨o,es',ep,ho',r⟩:=hm;exact⟨o,es',ep,keep2 _ o (QQ fi.2.1) ho',r⟩
   .by_cases hb:b=s.heap.objs.size
    .subst hb;rw[ag]at q;cases q;exact⟨by show 2<=sizeLine;decide,[e.key,e.val],.cons ry (.cons rv .nil),⟨_,hT'',rfl,0,rfl⟩⟩
    .rw[ai hb]at q;refine(I.aT b u' q).stay (λc v hc' q'=>keep2 c v ?_ q') (λc r=>by rw[ai (ax r fr)];exact r) λc ys r=>by rw[ai (ax r fr)];exact r
     rcases hc' with z|z
     .rw[z];exact ax q fi.1
     .exact ax z fi.1
  refine⟨.ref s.heap.objs.size,_,I1,rfl,hy _ fr,⟨_,_,hit''⟩,λb hb=>?_⟩;have:b=it:=by simpa using hb
  subst this;rw[ai (P7 (PD st))];exact fi.1
 done:=by intro X hP hw hK hc i ac s σ H E I hf st hg;subst hP hw hK;obtain⟨hd,hi⟩:=hst i H hg;obtain⟨ok,ov,st⟩:=st;obtain⟨eo,_⟩:=(show ObjOk X.prog X.w H s.heap d (.bP o u)from I.aT d _ hd);obtain⟨f0,f1,f2,f3,f4,f5⟩:=hf it (by simp);exact rL (I.ok.hd hc) st ⟨o,eo,hex,hdat⟩ (by lia) λh' eb=>⟨rfl,I.turned (t':=s.toks) (λb o hb e=>eb b o hb e) f0 f1 f3 f4 f5⟩
 self:=λA i s Q E st h=>by obtain⟨ok,ov,st⟩:=st;have hT:s.TypeIs (.ref it) "dict_itemiterator":=⟨_,st,rfl⟩;refine SD hT F.slot_dict_itemiterator_iter (QF F.slot_dict_itemiterator_iter hT (entryFor_alias (id':="dict_keyiterator.__iter__") (by kernel_rfl) rfl (by decide +kernel) (by kernel_rfl):entryFor table "dict_itemiterator.__iter__"=some Builtin.«dict_keyiterator.__iter__») ?_ (F.args_dict_itemiterator_iter_1 _));show wpAny _ _ (ret (.ref it)) _ _ s;exact Po ⟨_,rfl,"dict_itemiterator",_,hT,Q_.lookup,h⟩
section
def xm{R:It->Hp->Prop}(s:Inv X ac σ H2 s1)(e2:H2 d=some (.bP o u))(hd:(d==sysModules)=false)(hex:o.ExactDict)(c:o.data=.dict en ep)(n:∀i H,J.go i H->H d=some (.bP o u))(q:∀i H,J.stop i H->H d=some (.bP o u)/\en.size<=i)
 (f:∀H h,HOk X.prog X.w H h->∀i,J.go i H->∃e y v,en[i]?=some e/\RelV y e.key/\RelV v e.val/\∀p,H p=none->J.BY i H (.ref p) (upd H p (.tup [y,v]))) (q2:R J H2) :
 MethodOn X.prog X.w X.A "items" cpos (.ref d) [] (λv s1=>wX X (pyIter v) (Lz X ac σ (.Tuple es k0 Ib) R) X.xe s1) X.xe s1:=by
 obtain⟨l,_⟩:=(show ObjOk X.prog X.w H2 s1.heap d (.bP o u)from s.aT d _ e2);have g:s1.TypeIs (.ref d) "dict":=⟨o,l,hex.1⟩;have j:∀a,Value.ref d=.ref a->∃ob,s1.heap.get? a=some ob/\ob.dict=none:=λa e=>by cases e;exact⟨o,l,hex.2.1⟩
 refine⟨"dict","dict.items",Qq,PySem.F.slot_dict_items,PySem.F.type_dict_items,g,j,RB rfl (PySem.evalArgs_none ?_)⟩;refine R_ PySem.F.slot_dict_items g PySem.F.entry_dict_items (PySem.F.args_dict_items_1 _) (pN d hd) ⟨⟨en,ep,o,l,hex,c⟩,?_⟩;have m:Inv X ac σ H2 { s1 with heap:=s1.heap.push { cls:=.type "dict_items",data:=.fields #[.ref d] } }:=s.kept (t':=s1.toks) λb o e=>Pp _ e;have t:({ s1 with heap:=s1.heap.push { cls:=.type "dict_items",data:=.fields #[.ref d] } }:Ux).heap.get? d=some o:=Pp _ l;generalize r:({ s1 with heap:=s1.heap.push { cls:=.type "dict_items",data:=.fields #[.ref d] } }:Ux)=k at m t;have x:k.heap.IsItemsView s1.heap.objs.size d:=by rw[<- r];exact⟨_,PH _ rfl,rfl,rfl⟩
 show wpAny _ _ (pyIter (.ref s1.heap.objs.size)) _ _ _;refine rK x ⟨o,t,hex,c⟩ ?_;refine⟨k.heap.objs.size,[k.heap.objs.size],_,_,H2,rfl,m.kept (t':=k.toks) λb o e=>Pp _ e,uA hex c n q f,⟨_,_,PH _ rfl⟩,λb hb=>?_,q2⟩;have e:b=k.heap.objs.size:=by simpa using hb
 subst e;exact m.tp (Pq _) (m.aT.fresh (Pq _))
end
theorem KV.at(r:KV a b):∀(i:Nat) p q,a[i]?=some p->b[i]?=some q->p.1=q.1/\RelV p.2 q.2:=by
 induction r with
 |nil=>intro i p q e;simp at e
 |cons c t d=>
  intro i p q e1 e2;cases i with
  |zero=>simp at e1 e2;subst e1 e2;exact c
  |succ i=>exact d i p q (by simpa using e1) (by simpa using e2)
def Jg(d:Addr)(o:Obj)(u:HO)(kvs:List (List bI×V)):It:=⟨λi H=>H d=some (.bP o u)/\i<kvs.length,λi H x H'=>∃p b k v,H p=none/\x=.ref p/\H b=some (.tup (k.map kV))/\H'=upd H p (.tup [.ref b,v])/\kvs[i]?=some (k,v),λi H=>H d=some (.bP o u)/\kvs.length<=i⟩
theorem KT.at{H:Hp}{a:List (List bI×V)}{b:List (List bI×Addr×UA)}(r:KT H a b):∀(i:Nat) p q,a[i]?=some p->b[i]?=some q->p.1=q.1/\H q.2.1=some (.tup (p.1.map kV))/\RelV p.2 q.2.2:=by
 induction r with
 |nil=>intro i p q e;simp at e
 |cons c t d=>
  intro i p q e1 e2;cases i with
  |zero=>simp at e1 e2;subst e1 e2;exact c
  |succ i=>exact d i p q (by simpa using e1) (by simpa using e2)
section
def zX(X:Cx)(tl:TE):TI:=λσ H R=>tl σ H λx H1=>∃d kvs u,x=.ref d/\(u=.dT kvs\/(u=.dK []/\kvs=[]))/\((∃o,H1 d=some (.bP o u)/\R (Jg d o u kvs) H1)\/(H1 d=some u/\∀o,(∀a v,X.H₀ d≠some (.bP a v))->R (Jg d o u kvs) (upd H1 d (.bP o u))))
def i8(F:PE X l tl)(m:autoParam (attributeBase l "items" X.env (eval l X.env)=eval l X.env) az) (n:autoParam ((apos.endLine==cpos.line)=true) az):PI X (.Tuple es k0 Ib) (.Call (.Attribute l "items" apos) [] [] cpos) (zX X tl):=by
 intro ac s σ H R I h;refine wpAny_Call_method0_late m n (cD (F ac s σ H _ I h) λv s1 ⟨x,H1,r,S,q1⟩=>?_);obtain⟨d,kvs,u,e,G,q⟩:=q1;subst e;cases S;have O:nO u:=by rcases G with rfl|⟨rfl,_⟩<;>exact True.intro
 have t:∀(o:Obj)(y:Hp),Inv X ac σ y s1->y d=some (.bP o u)->R (Jg d o u kvs) y->MethodOn X.prog X.w X.A "items" cpos (.ref d) [] (λv s1=>wX X (pyIter v) (Lz X ac σ (.Tuple es k0 Ib) R) X.xe s1) X.xe s1:=λo y K e2 q2=>by
  obtain⟨L,_⟩:=(show ObjOk X.prog X.w y s1.heap d (.bP o u)from K.aT d _ e2);have z:∀{H h},HOk X.prog X.w H h->H d=some (.bP o u)->(d==sysModules)=false/\∃(en:Array DictEntry)(ep:Nat),o.ExactDict/\o.data=.dict en ep/\en.size=kvs.length/\∀(i:Nat) p,kvs[i]?=some p->∃e b,en[i]?=some e/\e.key=.ref b/\H b=some (.tup (p.1.map kV))/\RelV p.2 e.val:=λ{H h} ok e=>by
   obtain⟨L,M⟩:=(show ObjOk X.prog X.w H h d (.bP o u)from ok d _ e);rcases G with rfl|⟨rfl,rfl⟩
   .obtain⟨_,hd,xs,c,T,en,ep,j,hex,a,B,_,_⟩:=gq ok (.inr ⟨o,e⟩);rw[L]at j;cases j;refine⟨hd,en,ep,hex,a,by rw[RQ B,Rk c],λi p E=>?_⟩;have F:i<xs.length:=by rw[<- Rk c];exact(PF.mp E).1
    have M:xs[i]?=some xs[i]:=by simp[F]
    obtain⟨_,hb,U⟩:=c.at i _ _ E M;exact⟨_,_,by rw[entry_at B,M];rfl,rfl,hb,U⟩
   .obtain⟨_,hd,vs,c,T,en,ep,j,hex,a,_,C,_⟩:=iB ok (.inr ⟨o,e⟩);rw[L]at j;cases j;cases c;cases P:en.toList with
    |nil=>exact⟨hd,en,ep,hex,a,by rw[<- QP,P];rfl,λi p e=>by simp at e⟩
    |cons _ _=>rw[P]at C;cases C
  obtain⟨hd,en,ep,hex,a,V,_⟩:=z K.aT e2;refine xm (J:=Jg d o u kvs) K e2 hd hex a (λi H h=>h.1) (λi H h=>⟨h.1,by rw[V];exact h.2⟩) (λH h ok i g=>?_) q2;obtain⟨_,W,Y,_,k,_,f⟩:=z ok g.1;rw[a]at k;cases k;obtain⟨_,g⟩ : _/\i<kvs.length:=g;have Q:kvs[i]?=some kvs[i]:=by simp[g]
  obtain⟨e,b,h1,h2,h3,Z⟩:=f i _ Q;exact⟨e,.ref b,kvs[i].2,h1,h2,Z,λp E=>⟨p,b,_,_,E,rfl,h3,rfl,Q⟩⟩
 rcases q with⟨o,e1,q⟩|⟨e1,q⟩
 .exact t o H1 r e1 q
 .have N:∃o,s1.heap.get? d=some o:=by
   rcases G with rfl|⟨rfl,_⟩
   .obtain⟨_,_,_,_,o,_,_,D,_⟩:=(show ObjOk X.prog X.w H1 s1.heap d (.dT kvs)from r.aT d _ e1);exact⟨o,D⟩
   .obtain⟨_,_,_,_,o,_,_,D,_⟩:=(show ObjOk X.prog X.w H1 s1.heap d (.dK [])from r.aT d _ e1);exact⟨o,D⟩
  obtain⟨o,D⟩:=N;exact t o _ (r.bP e1 O D) ag (q o (r.FX e1 O))
end
section
def GH:List V->Hp->VK->Prop:=λxs H Q=>∃d kvs u,xs=[.ref d]/\(u=.dK kvs\/(u=.dT []/\kvs=[]))/\Rd H d u/\kvs.length<=sizeLine/\∀l,H l=none->Q (.ref l) (upd H l (.lst (kvs.map λp=>kV p.1)))
theorem vW:∀{vs:List V}{its:List UA},vs.length=its.length->(∀(i:Nat) v u,vs[i]?=some v->its[i]?=some u->RelV v u)->Vals vs its
 |[],[],_,_=>.nil
 |[],_::_,e,_=>by cases e
 |_::_,[],e,_=>by cases e
 |v::vs,u::its,e,f=>.cons (f 0 v u rfl rfl) (vW (by simpa using e) λi w z a b=>f (i+1) w z (by simpa using a) (by simpa using b))
def uB(t:X.calm=true):bV X (.type "list") GH:=by
 intro ac s σ H xs us Q I r h;obtain⟨d,kvs,u,rfl,y,f,hz,q⟩:=h;obtain⟨w,rfl,A⟩:=dU r;cases A;have m:=f.ok I.aT;have g:(d==sysModules)=false/\∃vs,KV kvs vs/\s.heap.DictOf (aK X.prog X.w) d vs:=by
  rcases y with rfl|⟨rfl,rfl⟩
  .obtain⟨z,hd,vs,a,dd⟩:=m;exact⟨hd,vs,a,dd⟩
  .obtain⟨hd,dd⟩:=pG m;exact⟨hd,[],.nil,dd⟩
 obtain⟨hd,vs,a,dd⟩:=g;obtain⟨ep,B⟩:=dd.dictAt;have n:=a.length;refine PySem.W.kdl_call (PySem.W.kdl_dict (knd:=aK X.prog X.w) (kvs:=vs) (ep:=ep) hd) (I.ok.hd t) B (by rw[<- n];exact hz) λh' tk b o kp e it=>?_;obtain⟨C,D⟩:=it;have la:b.toList.length=kvs.length:=by rw[QP,C,n]
 have E:Vals (kvs.map λp=>kV p.1) b.toList:=by
  refine vW (by rw[Ps,la]) λi v w c F=>?_;rw[PR]at c;cases j:kvs[i]? with
  |none=>rw[j]at c;cases c
  |some p=>rw[j]at c;cases c;obtain⟨k,x,e1,e2⟩:=D i w (by rw[<- Ql];exact F);obtain⟨l,_⟩:=a.at i _ _ j e1;show RelV (kV p.1) w;rw[show p.1=k from l];exact C8 e2
 have e:h'.get? s.heap.objs.size=some { cls:=.type "list",dict:=none,data:=.seq b.toList.toArray o,slots:=#[] }:=by rw[Array.toArray_toList];exact e
 exact⟨.ref s.heap.objs.size,_,I.laid (t':=tk) kp (Pq _) (show ObjOk X.prog X.w _ h' _ (.lst (kvs.map λp=>kV p.1))from⟨by rw[Ps];exact hz,b.toList,o,E,e⟩),rfl,q _ (I.aT.fresh (Pq _))⟩
end
def pO:List Int->Int
 |[]=>0
 |x::r=>r.foldl (λa b=>if b<a then b else a) x
def xn(h:l≠[])(z:Int):pO (l++[z])=if z<pO l then z else pO l:=by
 cases l with
 |nil=>exact(h rfl).elim
 |cons x r=>show(r++[z]).foldl _ x=_;rw[RF];rfl
theorem mF(xs:Array (Int×Tok)):∀k,k<xs.size->numAt xs (argBest (λi j=>decide (numAt xs i<numAt xs j)) k)=pO ((xs.toList.map (·.1)).take (k+1))
 |0,h=>by
  have e:xs.toList.map (·.1)≠[]:=λz=>by have:=Q1 List.length z;simp at this;rw[this]at h;simp at h
  cases q:xs.toList.map (·.1)with
  |nil=>exact(e q).elim
  |cons y r=>
   have:(xs[0]?.map (·.1))=some y:=by rw[<- Ql,<- PR,q];rfl
   show numAt xs 0=y;unfold numAt;rw[this];rfl
 |k+1,h=>by
  have b:=mF xs k (by lia);have c:(xs.toList.map (·.1))[k+1]?=some (numAt xs (k+1)):=by rw[PR,Ql];unfold numAt;rw[R0 h];rfl
  have d:(xs.toList.map (·.1)).take (k+1+1)=(xs.toList.map (·.1)).take (k+1)++[numAt xs (k+1)]:=by rw[List.take_succ,c];rfl
  have ne:(xs.toList.map (·.1)).take (k+1)≠[]:=λz=>by have f:=Q1 List.length z;rw[QN,Ps,QP,Sw]at f;lia
  rw[d,xn ne,<- b];show numAt xs (if(decide (numAt xs (k+1)<numAt xs (argBest _ k)))=true then k+1 else argBest _ k)=_;by_cases a:numAt xs (k+1)<numAt xs (argBest (λi j=>decide (numAt xs i<numAt xs j)) k)
  .rw[PN (P3 a),PN a]
  .rw[PK (by simpa using a),PK a]
theorem jy:∀{ns:List Int}{its:List UA},Vals (ns.map V.int) its->∃ps:List (Int×Tok),its=ps.map (λp=>.int p.1 p.2)/\ps.map (·.1)=ns
 |[],_,h=>by cases h;exact⟨[],rfl,rfl⟩
 |n::ns,_,h=>by
  cases h with
  |cons r rr=>obtain⟨t,rfl⟩:=r;obtain⟨ps,rfl,e⟩:=jy rr;exact⟨(n,t)::ps,rfl,by rw[PU,e]⟩
def xo(c:X.calm=true):bV X (.builtin "min") (λxs H Q=>∃p ns,xs=[.ref p]/\SqL X.K H p (ns.map V.int)/\ns≠[]/\Q (.int (pO ns)) H):=by
 intro ac s σ H xs us Q I r h;obtain⟨p,ns,rfl,d,b,q⟩:=h;obtain⟨u,rfl,f⟩:=dU r;cases f;obtain⟨its,g,pl,hz⟩:=I.list d;obtain⟨ps,rfl,e⟩:=jy g;have i:s.heap.IsList p (intItems ps.toArray):=by
  have:intItems ps.toArray=(ps.map (λp=>Value.int p.1 p.2)).toArray:=by simp[intItems]
  rw[this];exact pl.isList
 have a:0<ps.toArray.size:=by
  cases ps with
  |nil=>exact(b e.symm).elim
  |cons _ _=>simp
 refine min_intList (I.ok.hd c) i a λv h' tk j kp=>?_;obtain⟨t,rfl⟩:=intItems_at j;rw[mF ps.toArray _ (by lia)];have k:(ps.toArray.toList.map (·.1)).take (ps.toArray.size-1+1)=ns:=by rw[QW (by simp;lia)];simpa using e
 rw[k];exact⟨.int (pO ns),H,I.kept (t':=tk) kp,⟨t,rfl⟩,q⟩
end L2
namespace L2
open PySem PySem.Spec PySem.Calls PyProof.Rows ST
section
variable{prog:Uz}{w:World}{A:UB}{E:UA->Ux->Prop}{s:Ux}
theorem rM(K:PySem.W.KdlSrc prog w T r d n P OK)(k:A.handled=none)(aT:OK s.heap)(l:n<=sizeLine)
 (h:∀h' tk (a:Array UA),s.heap.objs.size<h'.objs.size->(∀b o,s.heap.get? b=some o->h'.get? b=some o)->ItemsOf P a n->Q a.toList {s with heap:=h',toks:=tk}):wpAny (model prog w) A (collect (.ref r)) Q E s:=by
 have f:=K.there _ aT;have m:(s.heap.push (seqObj "list" #[] 0)).get? s.heap.objs.size=some (seqObj "list" #[] 0):=PH _ rfl;have j:∀R:Result->Ux->Prop,(∀h' tk (a:Array UA) c,(∀b o,b≠s.heap.objs.size->(s.heap.push (seqObj "list" #[] 0)).get? b=some o->h'.get? b=some o)->h'.get? s.heap.objs.size=some { cls:=.type "list",dict:=none,data:=.seq a c,slots:=#[] }->ItemsOf P a n->R (.ok (.ret (.ref s.heap.objs.size))) {s with heap:=h',toks:=tk})->
  codeAny (model prog w) A (.builtin "list.__iadd__" ⟨[.ref s.heap.objs.size,.ref r],[]⟩) R { s with heap:=s.heap.push (seqObj "list" #[] 0) }:=λR p=>Rg entry_list_iadd' (by
  rw[Rn (show plainId "list.__iadd__"=true by decide +kernel) _];exact PySem.W.kdl_extend (s:={ s with heap:=s.heap.push (seqObj "list" #[] 0) }) K k (K.keep _ _ aT λb _ o e=>Pp _ e) s.heap.objs.size (RV f.1) (RV f.2) (.ref s.heap.objs.size) 0 m p l)
 unfold collect;refine KE (wpAny_runValue (Rg entry_proto_collect' (show wpAny _ _ (do again (.builtin "list.__iadd__" ⟨[<- newList [],.ref r],[]⟩)) _ _ s from ?_)));refine KE (T1 (Po ⟨Code.quiet_builtin _ (by decide +kernel),j _ λh' tk a c kp g i=>?_⟩));refine KE (wpAny_load g ?_);show wpAny _ _ (pure a.toList) _ _ _;exact Po (h h' tk a (PD g) (λb o e=>kp b o (P7 (PD e)) (Pp _ e)) i)
end
end L2
namespace L2
open PySem PySem.Spec PyProof.Rows
open Sem (wp)
open Builtin
open Sem (wp)
open Builtin
def mG(kts:List (Addr×List V))(a:Addr)(o:Obj)(ns:List Int):Hp:=λb=>match kts.lookup b with
 |some xs=>some (.tup xs)
 |none=>if b=a then some (.bP o (.lst (ns.map V.int)))else none
section
def Dq(e:kts.lookup b=some xs):mG kts a o ns b=some (.tup xs):=by unfold mG;rw[e]
def Ds(e:kts.lookup a=none):mG kts a o ns a=some (.bP o (.lst (ns.map V.int))):=by unfold mG;rw[e];exact PN rfl
def Dt(e:kts.lookup b=none)(n:b≠a):mG kts a o ns b=none:=by unfold mG;rw[e];exact PK n
end
theorem jX:∀{vs:List UA}{ns:List Int},IntsAre vs ns->Vals (ns.map V.int) vs
 |_,_,.nil=>.nil
 |_,_,.cons n t h=>.cons ⟨t,rfl⟩ (jX h)
def xq{P:Uz}{w:World}{K:Uy}{mg J:Str->Option UA}{CX:zf}{k:Nat}{W a:Addr}{fd:FuncData}{x:Str}{sp:Sp}{f:Ux}{vs:List UA}{ns:List Int}{kts:List (Addr×List V)}
 (X:K.In f.heap) (B:f.heap.Ns mainGlobals mg) (hb:f.heap.Ns builtinsNs J) (L:∀x:Str,x≠"__name__"->J x=bootBuiltins x) (C:f.heap.NoLimit) (Z:f.gens=#[])
 (ha:f.heap.get? a=some { cls:=.type "list",data:=.seq vs.toArray }) (hi:IntsAre vs ns) (hl:ns.length<=sizeLine) (hr:dE k callerA)
 (hK:∀o,K.lookup a=some o->o.cls=.type "list"->False)
 (G:∀b xs,kts.lookup b=some xs->K.lookup b=none/\∃(o:Obj)(its:Array UA)(n:Nat),f.heap.get? b=some o/\o.cls=.type "tuple"/\o.data=.seq its n/\its.size<=sizeLine/\Vals xs its.toList)
 (hM:∀p∈K,∀b xs,F4 p.2=some (b,xs)->kts.lookup b=some xs)
 (F:∀base:Heap,K.In base->base.Ns mainGlobals mg->bJ P w K mg base CX k W fd [x] sp) (j:∀(s:Ux)(u:UA),BindsTo s fd ⟨[u],[]⟩ [(x,u)])
 (M:∀H:Hp,(∃o,H a=some (.bP o (.lst (ns.map V.int))))->sp [.ref a] H (λv _=>v=.bl true) λ_ _ _=>False)
 (N:∀H e l,CX [] H f (λ_ _ _=>False) e l->False) :
 codeAny (model P w) callerA (.call (.ref W) ⟨[.ref a],[]⟩) (λr l=>r=.ok (.ret (.bool true))/\OldK f.heap l.heap/\l.os=f.os/\AllBare l.gens) f:=by
 have rv:=jX hi;have O:K.lookup a=none:=by
  cases q:K.lookup a with
  |none=>rfl
  |some o=>have e:=X a o q;rw[ha]at e;cases e;exact(hK _ q rfl).elim
 have Q:kts.lookup a=none:=by
  cases q:kts.lookup a with
  |none=>rfl
  |some xs=>obtain⟨_,o,its,n,e,c,_⟩:=G a xs q;rw[ha]at e;cases e;exact absurd c (by simp)
 obtain⟨ob,t⟩ : ∃ob:Obj,ob={ cls:=.type "list",data:=.seq vs.toArray }:=⟨_,rfl⟩;rw[<- t]at ha;generalize R:mG kts a ob ns=H;have S:H a=some (.bP ob (.lst (ns.map V.int))):=by rw[<- R];exact Ds Q
 have T:∀b xs,kts.lookup b=some xs->H b=some (.tup xs):=λb xs e=>by rw[<- R];exact Dq e
 have I:∀b,kts.lookup b=none->b≠a->H b=none:=λb e n=>by rw[<- R];exact Dt e n
 have y:∀b o,K.lookup b=some o->H b=none:=λb o e=>by
  refine I b ?_ λz=>by rw[z,O]at e;cases e
  cases q:kts.lookup b with
  |none=>rfl
  |some xs=>rw[(G b xs q).1]at e;cases e
 have A:∀(b:Addr)(o:Obj)(es:Array DictEntry)(ep:Nat),f.heap.get? b=some o->o.data=.dict es ep->H b=none:=λb o es ep e d=>by
  refine I b ?_ λz=>?_
  .cases q:kts.lookup b with
   |none=>rfl
   |some xs=>obtain⟨_,o',its,n,Y,_,d',_⟩:=G b xs q;rw[e]at Y;cases Y;rw[d]at d';cases d'
  .rw[z,ha]at e;cases e;rw[t]at d;cases d
 have i:∀{b:Addr}{m:Str->Option UA},f.heap.Ns b m->(qR f.heap H).Ns b m:=λ{b m} ⟨o,es,ep,e,d,r⟩=>⟨o,es,ep,qS e (A b o es ep e d),d,r⟩;have D:K.In (qR f.heap H):=λb o e=>qS (X b o e) (y b o e);have U:Mod K mg (qR f.heap H):=⟨D,i B,⟨J,i hb,L⟩,let ⟨mc,h1,h2⟩:=C;⟨mc,i h1,h2⟩⟩;have aT:HOk P w H f.heap:=λb u e=>by
  cases q:kts.lookup b with
  |some xs=>rw[T b xs q]at e;cases e;obtain⟨_,o,its,n,e1,c,d,z,r⟩:=G b xs q;refine⟨by rw[r.length];simpa using z,its.toList,r,o,e1,c,n,by simpa using d⟩
  |none=>
   by_cases g:b=a
   .rw[g,S]at e;cases e;rw[g];exact⟨ha,by rw[Ps];exact hl,vs,_,rv,by rw[ha,t]⟩
   .rw[I b q g]at e;cases e
 have e0:vn P w K mg (qR f.heap H) callerA [] f H:=⟨rfl,U,λb o e=>CO e,T_ (wM _ _),trivial,λb hb=>absurd (show b∈([]:List Addr)from hb) (by simp),aT,.of_eq Z,λp hp b xs e=>T b xs (hM p hp b xs e)⟩;refine S1 ((F _ D (i B)).run callerA [] f H ⟨[.ref a],[]⟩ [.ref a] [.ref a] _ _ hr e0 (j f (.ref a)) (.cons rfl .nil) (M H ⟨ob,S⟩)) λr l h=>?_;cases r with
 |error e=>exact(N H e l h).elim
 |ok fl=>
  cases fl with
  |next=>exact False.elim h
  |brk=>exact False.elim h
  |cont=>exact False.elim h
  |ret u=>
   obtain⟨v,H',os,bare,un,E,r',q⟩:=h;have q':v=.bl true:=q;subst q';obtain rfl:u=Value.bool true:=r';refine⟨rfl,OldK.of_keep λb o e=>?_,os,bare⟩;by_cases g:b=a
   .rw[g]at e ⊢;have z2:=un.jh a ob _ S;obtain⟨e2,_⟩:=E a _ z2;rw[ha]at e;cases e;exact e2
   .refine un.keep b o e ?_ (by intro z;exact absurd (show b∈([]:List Addr)from z) (by simp)) (by simp);cases q:kts.lookup b with
    |none=>exact .inl (I b q g)
    |some xs=>exact .inr ⟨xs,T b xs q⟩
section
variable{K K':Uy}
def L6(K:Uy):Bool:=K.all λp=>(F4 p.2).isNone
structure jg(K K':Uy):Prop where
 look:∀b o,K.lookup b=some o->(∀its n,o.data≠.seq its n)->K'.lookup b=some o
def xt:jg K K:=⟨λ_ _ e _=>e⟩
def jg.code(S:jg K K')(h:codeIn K cd q=true):codeIn K' cd q=true:=by
 unfold codeIn at h ⊢;cases cd with
 |ref c=>
  dsimp only at h ⊢;cases e:K.lookup c with
  |none=>rw[e]at h;cases h
  |some o=>
   obtain⟨o1,b,a,d⟩:=o;cases a with
   |fields vs=>rw[S.look c _ e (λ_ _ z=>nomatch z)];rw[e]at h;exact h
   |_=>rw[e]at h;cases h
 |_=>cases h
def jg.keep(S:jg K K')(e:K.lookup f=some ⟨o1,o2,.func fd,o4⟩):keepIn K' (.ref f)=true:=by unfold keepIn;dsimp only;rw[S.look f _ e (λ_ _ z=>nomatch z)]
def jg.ns(S:jg K K')(h:nsIn K n x=some r):nsIn K' n x=some r:=by
 unfold nsIn at h ⊢;cases e:K.lookup n with
 |none=>rw[e]at h;cases h
 |some o=>
  obtain⟨o1,b,a,c⟩:=o;cases a with
  |dict es ep=>rw[S.look n _ e (λ_ _ z=>nomatch z)];rw[e]at h;exact h
  |_=>rw[e]at h;cases h
def jg.nsOk(S:jg K K')(h:PySem.W.nsOkIn K n=true):PySem.W.nsOkIn K' n=true:=by
 unfold PySem.W.nsOkIn at h ⊢;cases e:K.lookup n with
 |none=>rw[e]at h;cases h
 |some o=>
  obtain⟨o1,b,a,c⟩:=o;cases a with
  |dict es ep=>rw[S.look n _ e (λ_ _ z=>nomatch z)];rw[e]at h;exact h
  |_=>rw[e]at h;cases h
theorem jg.tail(S:jg K K'):∀{l:List UA},PySem.W.tailIn K bm l=true->PySem.W.tailIn K' bm l=true
 |[],h=>h
 |v::r,h=>by
  unfold PySem.W.tailIn at h ⊢;rw[Bool.or_eq_true]at h ⊢;refine h.imp id λh=>?_;cases v with
  |ref A=>
   dsimp only at h ⊢;cases e:K.lookup A with
   |none=>rw[e]at h;cases h
   |some o=>
    obtain⟨o1,b,a,c⟩:=o;cases a with
    |cls d=>rw[S.look A _ e (λ_ _ z=>nomatch z)];rw[e]at h;dsimp only at h ⊢;simp only[Rj,Sz]at h ⊢;exact⟨⟨S.nsOk h.1.1,S.ns h.1.2⟩,S.tail h.2⟩
    |_=>rw[e]at h;cases h
  |_=>cases h
def jg.exc(S:jg K K')(h:excIn K C bm i=true):excIn K' C bm i=true/\nM K' C=nM K C:=by
 unfold excIn at h ⊢;unfold nM;cases e:K.lookup C with
 |none=>rw[e]at h;cases h
 |some o=>
  obtain⟨o1,d,b,f⟩:=o;rw[e]at h;cases b with
  |cls g=>
   rw[S.look C _ e (λ_ _ z=>nomatch z)];refine⟨?_,rfl⟩;split at h
   .rename_i dd c j a;injection a with a;injection a with he1 he2 he3 he4;injection he3 with he3;subst he1 he2 he3 he4
    try dsimp only at h
    try dsimp only
    split at h
    .rename_i hm hs;simp only[Rj,Sz]at h ⊢;exact⟨⟨⟨h.1.1.1,S.tail h.1.1.2⟩,S.nsOk h.1.2⟩,S.ns h.2⟩
    .cases h
   .cases h
  |_=>split at h<;>first|cases h|(rename_i a;injection a with a;injection a with _ _ a _;cases a)
end
def vX:UA->Bool
 |.type n=>n=="list"
 |_=>false
def L7(K:Uy):Bool:=K.all λp=>!vX p.2.cls
theorem zY:∀{K:Uy},L7 K=true->K.lookup a=some o->o.cls=.type "list"->False
 |[],_,e,_=>by cases e
 |(b,x)::r,h,e,c=>by
  unfold L7 at h;rw[T3,Rj]at h;rw[Sf]at e;split at e
  .cases e;rw[c]at h;have h1:=h.1;simp[vX]at h1
  .exact zY (K:=r) h.2 e c
section
variable{l:PySem.W.OpenLaw}{K:Params->Uy}{CX:World->zf}{sp:World->Sp}
def zZ(J:l.most=some n)(t:n<=sizeLine)(y:d.params.defaults=[])(L:dE k callerA)(M:∀(w:World)(h:Heap),YP w h->(K w.params).In h)
 (D:∀w:World,L7 (K w.params)=true/\L6 (K w.params)=true)
 (F:∀(w:World)(mg:Str->Option UA)(r:Addr)(h:Heap),(K w.params).In h->h.Ns mainGlobals mg->mg d.name=some (.ref r)->
   ∃fd:FuncData,(∀(s:Ux)(u:UA),BindsTo s fd ⟨[u],[]⟩ [(x,u)])/\∀base:Heap,(K w.params).In base->base.Ns mainGlobals mg->bJ l.prog w (K w.params) mg base (CX w) k r fd [x] (sp w))
 (z:∀(w:World)(H:Hp)(a:Addr)(ns:List Int),ns.length<=n->(∃o,H a=some (.bP o (.lst (ns.map V.int))))->sp w [.ref a] H (λv _=>v=.bl true) λ_ _ _=>False)
 (A:∀(w:World)(H:Hp)(s:Ux)(e:UA)(B:Ux),CX w [] H s (λ_ _ _=>False) e B->False) :
 PySem.W.WalkO q loose XP YP l.row.toRowW d [] (λf vs=>PySem.call f vs):=by
 refine Att.attach_call J y λw s₀ j mg S r o pm U doc a vs ns G Y X hd N C m i E O=>?_;have I:=M w _ Y;obtain⟨fd,hb,P⟩:=F w mg r _ I G.T.g C;exact xq (kts:=[]) I G.T.g G.T.b G.T.builtins G.T.nolimit O m i (Qb E t) L (λo e c=>zY (D w).1 e c) (λb xs e=>by cases e)
  (λp Q b xs e=>by have:=TJ.mp (D w).2 p Q;rw[e]at this;cases this) P hb (λH R=>z w H a ns E R) λH e B=>A w H j e B
end
end L2
namespace L2
open PySem PySem.Spec PySem.Calls PyProof.Rows
abbrev K0:=Sum Int (List Int)
abbrev NX:=List (List K0×Addr×UA)
end L2
namespace L3
open PySem PySem.Spec PyProof.Rows L2
abbrev DK:=Sum bI (List bI)
inductive D where
 |bB|bl (b:Bool)|int (i:Int)|str (x:Str)|tup (ds:List D)|lst (ds:List D)|qM (ks:List DK) (ds:List D)
mutual
noncomputable def D.flat:D->Bool
 |.lst _=>false
 |.qM _ _=>false
 |.tup ds=>D.tj ds
 |_=>true
noncomputable def D.tj:List D->Bool
 |[]=>true
 |d::ds=>d.flat&&D.tj ds
end
mutual
noncomputable def D.dep:D->Nat
 |.lst ds=>D.gn ds+1
 |.tup ds=>D.gn ds+1
 |.qM _ ds=>D.gn ds+1000
 |_=>0
noncomputable def D.gn:List D->Nat
 |[]=>0
 |d::ds=>max d.dep (D.gn ds)
end
mutual
noncomputable def jp:D->D->Bool
 |.bB,e=>match e with|.bB=>true|_=>false
 |.bl a,e=>match e with|.bl b=>a==b|.int b=>(if a then 1 else 0)==b|_=>false
 |.int a,e=>match e with|.int b=>a==b|.bl b=>a==(if b then 1 else 0)|_=>false
 |.str a,e=>match e with|.str b=>a==b|_=>false
 |.tup c,e=>match e with|.tup bs=>eqDs c bs|_=>false
 |.lst c,e=>match e with|.lst bs=>eqDs c bs|_=>false
 |.qM ks c,e=>match e with|.qM ls bs=>decide (ks=ls)&&eqDs c bs|_=>false
noncomputable def eqDs:List D->List D->Bool
 |[],bs=>match bs with|[]=>true|_=>false
 |a::c,bs=>match bs with|b::r=>jp a b&&eqDs c r|[]=>false
end
mutual
theorem iF:∀d:D,jp d d=true
 |.bB=>rfl
 |.bl a=>by simp[jp]
 |.int a=>by simp[jp]
 |.str a=>by simp[jp]
 |.tup b=>by simp only[jp];exact eqDs_refl b
 |.lst b=>by simp only[jp];exact eqDs_refl b
 |.qM ks b=>by simp only[jp,decide_true,Um];exact eqDs_refl b
theorem eqDs_refl:∀ds:List D,eqDs ds ds=true
 |[]=>rfl
 |d::ds=>by simp only[eqDs,iF d,eqDs_refl ds,Uk]
end
def DAt(H:Hp)(a:Addr)(ks:List DK)(vs:List V):Prop:=(∃kvs:List (bI×V),Rd H a (.dK kvs)/\ks=kvs.map (λp=>.inl p.1)/\vs=kvs.map Prod.snd)\/∃kvs:List (List bI×V),Rd H a (.dT kvs)/\ks=kvs.map (λp=>.inr p.1)/\vs=kvs.map Prod.snd
def L8:HO->Prop
 |.lst _=>True
 |.dK _=>True
 |.dT _=>True
 |.ext _=>True
 |_=>False
def Mu(H:Hp)(a:Addr):Prop:=∃o,H a=some o/\L8 o
def Fi(h:Rd H a u):∃o,H a=some o:=h.elim (λe=>⟨_,e⟩) λ⟨_,e⟩=>⟨_,e⟩
def z0(h:Rd H a u)(s:∀o,H a=some o->H' a=some o):Rd H' a u:=h.imp (s _) λ⟨o,e⟩=>⟨o,s _ e⟩
def DAt.obj(h:DAt H a ks vs):∃o,H a=some o:=h.elim (λ⟨_,e,_⟩=>Fi e) λ⟨_,e,_⟩=>Fi e
def DAt.keep(h:DAt H a ks vs)(s:∀o,H a=some o->H' a=some o):DAt H' a ks vs:=h.imp (λ⟨kvs,e,r⟩=>⟨kvs,z0 e s,r⟩) λ⟨kvs,e,r⟩=>⟨kvs,z0 e s,r⟩
def DAt.inj(h:DAt H a ks vs)(g:DAt H a ls ws):ks=ls/\vs=ws:=by rcases h with⟨k1,e1|⟨o1,e1⟩,b,c⟩|⟨k1,e1|⟨o1,e1⟩,b,c⟩<;>rcases g with⟨k2,e2|⟨d,e2⟩,q1,q2⟩|⟨k2,e2|⟨d,e2⟩,q1,q2⟩<;>(rw[e1]at e2;cases e2;try exact⟨b.trans q1.symm,c.trans q2.symm⟩)
def L9:HO->Prop
 |.dK _=>False
 |.dT _=>False
 |.bP _ (.dK _)=>False
 |.bP _ (.dT _)=>False
 |_=>True
def DAt.no(h:DAt H a ks vs)(e:H a=some o)(n:L9 o):False:=by rcases h with⟨k,z|⟨b,z⟩,_⟩|⟨k,z|⟨b,z⟩,_⟩<;>(rw[e]at z;cases z;exact n)
mutual
noncomputable def Is(H:Hp)(m:Addr->Prop):D->V->Prop
 |.bB,v=>v=.bB
 |.bl b,v=>v=.bl b
 |.int i,v=>v=.int i
 |.str x,v=>v=.str x
 |.tup ds,v=>∃a vs,v=.ref a/\H a=some (.tup vs)/\IsAll H m ds vs
 |.lst ds,v=>∃a vs,v=.ref a/\((H a=some (.lst vs)/\m a)\/∃o,H a=some (.bP o (.lst vs))/\m a)/\IsAll H m ds vs
 |.qM ks ds,v=>∃a vs,v=.ref a/\(DAt H a ks vs/\m a)/\IsAll H m ds vs
noncomputable def IsAll(H:Hp)(m:Addr->Prop):List D->List V->Prop
 |[],vs=>vs=[]
 |d::ds,vs=>∃v r,vs=v::r/\Is H m d v/\IsAll H m ds r
end
def Jh:HO->Prop
 |.tup _=>True
 |.bP _ _=>True
 |_=>False
section
mutual
theorem Is.mono(kp:∀a o,H a=some o->(m a\/Jh o)->H' a=some o)(b:∀a o,H a=some o->m a->m' a):∀{d:D}{v:V},Is H m d v->Is H' m' d v
 |.bB,_,h=>h
 |.bl _,_,h=>h
 |.int _,_,h=>h
 |.str _,_,h=>h
 |.tup ds,_,h=>by obtain⟨a,vs,e,h1,h2⟩:=h;exact⟨a,vs,e,kp a _ h1 (.inr True.intro),IsAll.mono kp b h2⟩
 |.lst ds,_,h=>by
  obtain⟨a,vs,e,h1,h2⟩:=h;refine⟨a,vs,e,?_,IsAll.mono kp b h2⟩;rcases h1 with⟨h1,h3⟩|⟨o,h1,h3⟩
  .exact .inl ⟨kp a _ h1 (.inl h3),b a _ h1 h3⟩
  .exact .inr ⟨o,kp a _ h1 (.inr True.intro),b a _ h1 h3⟩
 |.qM ks ds,_,h=>by obtain⟨a,vs,e,h1,h2⟩:=h;obtain⟨o,c⟩:=h1.1.obj;exact⟨a,vs,e,⟨h1.1.keep λo e=>kp a o e (.inl h1.2),b a o c h1.2⟩,IsAll.mono kp b h2⟩
theorem IsAll.mono(kp:∀a o,H a=some o->(m a\/Jh o)->H' a=some o)(b:∀a o,H a=some o->m a->m' a):∀{ds:List D}{vs:List V},IsAll H m ds vs->IsAll H' m' ds vs
 |[],_,h=>h
 |d::ds,_,h=>by obtain⟨v,r,e,h1,h2⟩:=h;exact⟨v,r,e,Is.mono kp b h1,IsAll.mono kp b h2⟩
end
mutual
theorem Is.flat:∀{d:D}{v:V},d.flat=true->Is H m d v->Is H m' d v
 |.bB,_,_,h=>h
 |.bl _,_,_,h=>h
 |.int _,_,_,h=>h
 |.str _,_,_,h=>h
 |.tup ds,_,f,h=>by obtain⟨a,vs,e,h1,h2⟩:=h;exact⟨a,vs,e,h1,IsAll.flat (by simpa only[D.flat]using f) h2⟩
 |.lst ds,_,f,_=>by simp[D.flat]at f
 |.qM ks ds,_,f,_=>by simp[D.flat]at f
theorem IsAll.flat:∀{ds:List D}{vs:List V},D.tj ds=true->IsAll H m ds vs->IsAll H m' ds vs
 |[],_,_,h=>h
 |d::ds,_,f,h=>by obtain⟨v,r,e,h1,h2⟩:=h;simp only[D.tj,Rj]at f;exact⟨v,r,e,Is.flat f.1 h1,IsAll.flat f.2 h2⟩
end
mutual
theorem Is.inj:∀{d e:D}{v:V},Is H m d v->Is H m' e v->d=e
 |.bB,e,_,h,g=>by cases e<;>first|rfl|(cases h;first|(obtain⟨_,_,z,_⟩:=g;cases z;done)|cases g)
 |.bl _,e,_,h,g=>by cases e<;>(cases h;first|(obtain⟨_,_,z,_⟩:=g;cases z;done)|(cases g;rfl)|cases g)
 |.int _,e,_,h,g=>by cases e<;>(cases h;first|(obtain⟨_,_,z,_⟩:=g;cases z;done)|(cases g;rfl)|cases g)
 |.str _,e,_,h,g=>by cases e<;>(cases h;first|(obtain⟨_,_,z,_⟩:=g;cases z;done)|(cases g;rfl)|cases g)
 |.tup ds,e,_,h,g=>by
  obtain⟨a,vs,rfl,h1,h2⟩:=h;cases e with
  |tup es=>obtain⟨b,ws,z,g1,g2⟩:=g;cases z;rw[h1]at g1;cases g1;rw[IsAll.inj h2 g2]
  |lst es=>obtain⟨b,ws,z,g1,g2⟩:=g;cases z;rcases g1 with⟨g1,_⟩|⟨o,g1,_⟩<;>(rw[h1]at g1;cases g1)
  |qM ls es=>obtain⟨b,ws,z,g1,g2⟩:=g;cases z;exact(g1.1.no h1 True.intro).elim
  |_=>cases g
 |.lst ds,e,_,h,g=>by
  obtain⟨a,vs,rfl,h1,h2⟩:=h;cases e with
  |tup es=>obtain⟨b,ws,z,g1,g2⟩:=g;cases z;rcases h1 with⟨h1,_⟩|⟨o,h1,_⟩<;>(rw[h1]at g1;cases g1)
  |lst es=>
   obtain⟨b,ws,z,g1,g2⟩:=g;cases z;have e:vs=ws:=by rcases h1 with⟨h1,_⟩|⟨o,h1,_⟩<;>rcases g1 with⟨g1,_⟩|⟨c,g1,_⟩<;>(rw[h1]at g1;cases g1;try rfl)
   subst e;rw[IsAll.inj h2 g2]
  |qM ls es=>obtain⟨b,ws,z,g1,g2⟩:=g;cases z;rcases h1 with⟨h1,_⟩|⟨o,h1,_⟩<;>exact(g1.1.no h1 True.intro).elim
  |_=>cases g
 |.qM ks ds,e,_,h,g=>by
  obtain⟨a,vs,rfl,h1,h2⟩:=h;cases e with
  |tup es=>obtain⟨b,ws,z,g1,g2⟩:=g;cases z;exact(h1.1.no g1 True.intro).elim
  |lst es=>obtain⟨b,ws,z,g1,g2⟩:=g;cases z;rcases g1 with⟨g1,_⟩|⟨o,g1,_⟩<;>exact(h1.1.no g1 True.intro).elim
  |qM ls es=>obtain⟨b,ws,z,g1,g2⟩:=g;cases z;obtain⟨e1,e2⟩:=h1.1.inj g1.1;subst e1 e2;rw[IsAll.inj h2 g2]
  |_=>cases g
theorem IsAll.inj:∀{ds es:List D}{vs:List V},IsAll H m ds vs->IsAll H m' es vs->ds=es
 |[],es,_,h,g=>by
  cases h;cases es with
  |nil=>rfl
  |cons e es=>obtain⟨_,_,z,_⟩:=g;cases z
 |d::ds,es,_,h,g=>by
  obtain⟨v,r,rfl,h1,h2⟩:=h;cases es with
  |nil=>cases g
  |cons e es=>obtain⟨w,q,z,g1,g2⟩:=g;cases z;rw[Is.inj h1 g1,IsAll.inj h2 g2]
end
theorem IsAll.length:∀{ds:List D}{vs:List V},IsAll H m ds vs->vs.length=ds.length
 |[],_,h=>by cases h;rfl
 |d::ds,_,h=>by obtain⟨v,r,rfl,_,h2⟩:=h;simp[IsAll.length h2]
theorem IsAll.get:∀{ds:List D}{vs:List V}{i:Nat}{d:D},IsAll H m ds vs->ds[i]?=some d->∃v,vs[i]?=some v/\Is H m d v
 |[],_,_,_,_,e=>by simp at e
 |d::ds,_,0,_,h,e=>by obtain⟨v,r,rfl,h1,h2⟩:=h;simp at e;subst e;exact⟨v,rfl,h1⟩
 |d::ds,_,i+1,_,h,e=>by obtain⟨v,r,rfl,h1,h2⟩:=h;obtain⟨w,a,b⟩:=IsAll.get (i:=i) h2 (by simpa using e);exact⟨w,by simpa using a,b⟩
theorem IsAll.take:∀{ds:List D}{vs:List V}(n:Nat),IsAll H m ds vs->IsAll H m (ds.take n) (vs.take n)
 |_,_,0,_=>rfl
 |[],_,n+1,h=>by cases h;exact rfl
 |d::ds,_,n+1,h=>by obtain⟨v,r,rfl,h1,h2⟩:=h;exact⟨v,r.take n,rfl,h1,IsAll.take n h2⟩
theorem IsAll.drop:∀{ds:List D}{vs:List V}(n:Nat),IsAll H m ds vs->IsAll H m (ds.drop n) (vs.drop n)
 |_,_,0,h=>h
 |[],_,n+1,h=>by cases h;exact rfl
 |d::ds,_,n+1,h=>by obtain⟨v,r,rfl,h1,h2⟩:=h;exact IsAll.drop n h2
end
section
variable{s:Ux}{m m':Addr->Prop}
def GI(ok:HOk P w H s.heap)(h:(H a=some (.lst vs)/\m a)\/∃o,H a=some (.bP o (.lst vs))/\m a) :
 ∃its:List UA,Vals vs its/\s.heap.IsList a its.toArray:=by
 have b:ObjOk P w H s.heap a (.lst vs)->∃its:List UA,Vals vs its/\s.heap.IsList a its.toArray:=λ⟨_,its,n,r,e⟩=>⟨its,r,⟨_,e,rfl,n,rfl⟩⟩;rcases h with⟨h,_⟩|⟨o,h,_⟩
 .exact b (ok a _ h)
 .exact b (ok a _ h).2
def GJ(ok:HOk P w H s.heap)(h:H a=some (.tup vs)):∃its:List UA,Vals vs its/\s.heap.IsTuple a its.toArray:=by obtain⟨_,its,r,e⟩:=ok a _ h;exact⟨its,r,e⟩
def xu(n:Nat)(e:Nat->Bool):(List.range n).all e=true↔∀j,j<n->e j=true:=by simp[TJ,Qh]
theorem mH:∀(ds es:List D),eqDs ds es=true↔ds.length=es.length/\∀(j:Nat)(d e:D),ds[j]?=some d->es[j]?=some e->jp d e=true
 |[],[]=>by simp[eqDs]
 |[],e::es=>by simp[eqDs]
 |d::ds,[]=>by simp[eqDs]
 |d::ds,e::es=>by
  simp only[eqDs,Rj,mH ds es,P8,Nat.add_right_cancel_iff];constructor
  .rintro⟨h1,h2,h3⟩;refine⟨h2,λj x y ex a=>?_⟩;cases j with
   |zero=>simp at ex a;subst ex;subst a;exact h1
   |succ j=>exact h3 j x y (by simpa using ex) (by simpa using a)
  .rintro⟨h2,h3⟩;exact⟨h3 0 d e rfl rfl,h2,λj x y ex a=>h3 (j+1) x y (by simpa using ex) (by simpa using a)⟩
theorem fc:∀{ds:List D}{j:Nat}{d:D},ds[j]?=some d->d.dep<=D.gn ds
 |[],_,_,e=>by simp at e
 |d::ds,0,_,e=>by simp at e;subst e;simp only[D.gn];lia
 |d::ds,j+1,x,e=>by have:=fc (ds:=ds) (j:=j) (d:=x) (by simpa using e);simp only[D.gn];lia
def pP(ok:HOk P w H s.heap){A:UB}{ds es:List D}(h1:IsAll H m ds vs)(h2:IsAll H m' es ws)(c:Vals vs its)(f:Vals ws its2)
 (rec:∀d∈ds,∀e∈es,∀(v w:V)(u a:UA),Is H m d v->Is H m' e w->RelV v u->RelV w a->SeqAt.EqAt A.in1 s u a (jp d e)) :
 ∀j (g:j<its.toArray.size) (h:j<its2.toArray.size),SeqAt.EqAt A.in1 s its.toArray[j] its2.toArray[j] (match ds[j]?,es[j]? with|some d,some e=>jp d e|_,_=>true):=by
 intro j g h;have p:=c.length;have q:=f.length;have r:=h1.length;have t:=h2.length;have x:j<its.length:=by simpa using g
 have y:j<its2.length:=by simpa using h
 have k1:j<ds.length:=by lia
 have k2:j<es.length:=by lia
 obtain⟨v,k,z⟩:=h1.get (i:=j) (d:=ds[j]) (by simp[k1]);obtain⟨B,b,l⟩:=h2.get (i:=j) (d:=es[j]) (by simp[k2]);obtain⟨u,C,ru⟩:=c.get k;obtain⟨a,n,o⟩:=f.get b
 grind
theorem uC(c:ds.length=es.length) :
 ((List.range ds.length).all λj=>match ds[j]?,es[j]? with|some d,some e=>jp d e|_,_=>true)=eqDs ds es:=by
 rw[Sv,xu,mH];constructor
 .intro h;refine⟨c,λj d e b f=>?_⟩;have:=h j (PF.mp b).1;rw[b,f]at this;exact this
 .rintro⟨_,h⟩ j g;have e1:ds[j]?=some ds[j]:=by simp[g]
  have a:j<es.length:=by lia
  have e2:es[j]?=some es[j]:=by simp[a]
  rw[e1,e2];exact h j _ _ e1 e2
theorem pQ(a:ds.length≠es.length):eqDs ds es=false:=by grind [eqDs,mH]
end
section
variable{s:Ux}
abbrev mI(H:Hp)(s:Ux)(m b:Addr->Prop)(A:UB)(n:Nat):Prop:=∀(d e:D)(v w:V)(u a:UA),d.dep<n->e.dep<1000->Is H m d v->Is H b e w->RelV v u->RelV w a->SeqAt.EqAt A.in1 s u a (jp d e)
section
def uD(ok:HOk P w H s.heap)(i:(D.lst l1).dep<=n)(k:(D.lst l2).dep<1000)(f:A.units<cLine)(q1:IsAll H m l1 vs1)(q2:IsAll H m' l2 vs2)(g:Vals vs1 its1)(h:Vals vs2 its2)(p1:s.heap.IsList a1 its1.toArray)(p2:s.heap.IsList a2 its2.toArray)
 (rec:mI H s m m' A n):SeqAt.RcAt A s (.ref a1) (.ref a2) (jp (.lst l1) (.lst l2)):=by
 have e1:its1.toArray.size=l1.length:=by rw[PL,<- g.length,q1.length]
 have e2:its2.toArray.size=l2.length:=by rw[PL,<- h.length,q2.length]
 have hd:∀d∈l1,d.dep<n:=λd hd=>by obtain⟨j,b⟩:=PX.mp hd;have:=fc b;simp only[D.dep]at i;lia
 have l:∀e∈l2,e.dep<1000:=λd hd=>by obtain⟨j,b⟩:=PX.mp hd;have:=fc b;simp only[D.dep]at k;lia
 by_cases a:l1.length=l2.length
 .have z:=SeqAt.RcAt.lists p1 p2 (by rw[e1,e2,a]) f (pP ok q1 q2 g h λd hm e c v w u o p q r t=>rec d e v w u o (hd d hm) (l e c) p q r t);rw[e1,uC a]at z;exact z
 .have z:=SeqAt.RcAt.lists_lengths p1 p2 (by rw[e1,e2];simpa using a) f;rw[show jp (.lst l1) (.lst l2)=eqDs l1 l2 from rfl,pQ a];exact z
def pR(ok:HOk P w H s.heap)(i:(D.lst l1).dep<=n)(k:(D.lst l2).dep<1000)(f:A.units<cLine)(q1:IsAll H m l1 vs1)(q2:IsAll H m' l2 vs2)(g:Vals vs1 its1)(h:Vals vs2 its2)(p1:s.heap.IsList a1 its1.toArray)(p2:s.heap.IsList a2 its2.toArray)
 (rec:mI H s m m' A n):SeqAt.RcNeAt A s (.ref a1) (.ref a2) (!jp (.lst l1) (.lst l2)):=by
 have e1:its1.toArray.size=l1.length:=by rw[PL,<- g.length,q1.length]
 have e2:its2.toArray.size=l2.length:=by rw[PL,<- h.length,q2.length]
 have hd:∀d∈l1,d.dep<n:=λd hd=>by obtain⟨j,b⟩:=PX.mp hd;have:=fc b;simp only[D.dep]at i;lia
 have l:∀e∈l2,e.dep<1000:=λd hd=>by obtain⟨j,b⟩:=PX.mp hd;have:=fc b;simp only[D.dep]at k;lia
 by_cases a:l1.length=l2.length
 .have z:=SeqAt.RcNeAt.lists p1 p2 (by rw[e1,e2,a]) f (pP ok q1 q2 g h λd hm e c v w u o p q r t=>rec d e v w u o (hd d hm) (l e c) p q r t);rw[e1,uC a]at z;exact z
 .have z:=SeqAt.RcNeAt.lists_lengths p1 p2 (by rw[e1,e2];simpa using a) f;rw[show jp (.lst l1) (.lst l2)=eqDs l1 l2 from rfl,pQ a];exact z
def vY:((List.range (min l1.length l2.length)).all (λj=>match l1[j]?,l2[j]? with|some d,some e=>jp d e|_,_=>true)&&l1.length==l2.length)=eqDs l1 l2:=by grind [uC,pQ]
def xw(ok:HOk P w H s.heap)(g:(D.tup l1).dep<=n)(h:(D.tup l2).dep<1000)(i:A.units<cLine)(q1:IsAll H m l1 vs1)(q2:IsAll H m' l2 vs2)(c:Vals vs1 its1)(f:Vals vs2 its2)(p1:s.heap.IsTuple a1 its1.toArray)(p2:s.heap.IsTuple a2 its2.toArray)
 (rec:mI H s m m' A n):SeqAt.RcAt A s (.ref a1) (.ref a2) (jp (.tup l1) (.tup l2)):=by
 have e1:its1.toArray.size=l1.length:=by rw[PL,<- c.length,q1.length]
 have e2:its2.toArray.size=l2.length:=by rw[PL,<- f.length,q2.length]
 have hd:∀d∈l1,d.dep<n:=λd hd=>by obtain⟨j,a⟩:=PX.mp hd;have:=fc a;simp only[D.dep]at g;lia
 have k:∀e∈l2,e.dep<1000:=λd hd=>by obtain⟨j,a⟩:=PX.mp hd;have:=fc a;simp only[D.dep]at h;lia
 have z:=SeqAt.RcAt.tuples p1 p2 i (pP ok q1 q2 c f λd hm e b v w u l o p q r=>rec d e v w u l (hd d hm) (k e b) o p q r);rw[e1,e2,vY]at z;exact z
def rN(ok:HOk P w H s.heap)(g:(D.tup l1).dep<=n)(h:(D.tup l2).dep<1000)(i:A.units<cLine)(q1:IsAll H m l1 vs1)(q2:IsAll H m' l2 vs2)(c:Vals vs1 its1)(f:Vals vs2 its2)(p1:s.heap.IsTuple a1 its1.toArray)(p2:s.heap.IsTuple a2 its2.toArray)
 (rec:mI H s m m' A n):SeqAt.RcNeAt A s (.ref a1) (.ref a2) (!jp (.tup l1) (.tup l2)):=by
 have e1:its1.toArray.size=l1.length:=by rw[PL,<- c.length,q1.length]
 have e2:its2.toArray.size=l2.length:=by rw[PL,<- f.length,q2.length]
 have hd:∀d∈l1,d.dep<n:=λd hd=>by obtain⟨j,a⟩:=PX.mp hd;have:=fc a;simp only[D.dep]at g;lia
 have k:∀e∈l2,e.dep<1000:=λd hd=>by obtain⟨j,a⟩:=PX.mp hd;have:=fc a;simp only[D.dep]at h;lia
 have z:=SeqAt.RcNeAt.tuples p1 p2 i (pP ok q1 q2 c f λd hm e b v w u l o p q r=>rec d e v w u l (hd d hm) (k e b) o p q r);rw[e1,e2,vY]at z;exact z
def rO(h:SeqAt.RcAt A s (.ref a1) (.ref a2) k)(hs:a1=a2->k=true):SeqAt.EqAt A s (.ref a1) (.ref a2) k:=by
 by_cases e:a1=a2
 .subst e;rw[hs rfl];exact SeqAt.EqAt.same _
 .exact SeqAt.EqAt.of_refs e h
end
def Is.shape(ok:HOk P w H s.heap)(c:d.dep<1000)(h:Is H m d v)(r:RelV v u):(d=.bB/\u=.none)\/(∃b,d=.bl b/\u=.bool b)\/(∃i t,d=.int i/\u=.int i t)\/(∃x t,d=.str x/\u=.str x t)\/
 (∃l a vs its,d=.lst l/\v=.ref a/\u=.ref a/\IsAll H m l vs/\Vals vs its/\s.heap.IsList a its.toArray)\/∃l a vs its,d=.tup l/\v=.ref a/\u=.ref a/\IsAll H m l vs/\Vals vs its/\s.heap.IsTuple a its.toArray:=by
 cases d with
 |bB=>cases h;cases r;exact .inl ⟨rfl,rfl⟩
 |bl b=>cases h;cases r;exact .inr (.inl ⟨b,rfl,rfl⟩)
 |int i=>cases h;obtain⟨t,rfl⟩:=r;exact .inr (.inr (.inl ⟨i,t,rfl,rfl⟩))
 |str x=>cases h;obtain⟨t,rfl⟩:=r;exact .inr (.inr (.inr (.inl ⟨x,t,rfl,rfl⟩)))
 |lst l=>obtain⟨a,vs,rfl,g,q⟩:=h;cases r;obtain⟨its,y,p⟩:=GI ok g;exact .inr (.inr (.inr (.inr (.inl ⟨l,a,vs,its,rfl,rfl,rfl,q,y,p⟩))))
 |tup l=>obtain⟨a,vs,rfl,g,q⟩:=h;cases r;obtain⟨its,y,p⟩:=GJ ok g;exact .inr (.inr (.inr (.inr (.inr ⟨l,a,vs,its,rfl,rfl,rfl,q,y,p⟩))))
 |qM k l=>exact absurd c (by simp only[D.dep];lia)
def Du(ok:HOk P w H s.heap)(a:A.units<cLine)(rec:mI H s m m' A n)(t:d.dep<=n)(E:n<1000)(l:e.dep<1000)(h1:Is H m d v)(h2:Is H m' e w')(x:RelV v u)(y:RelV w' u') :
 SeqAt.RcNeAt A s u u' (!jp d e):=by
 rcases h1.shape ok (by lia) x with⟨rfl,rfl⟩|⟨c,rfl,rfl⟩|⟨f,b,rfl,rfl⟩|⟨x1,b,rfl,rfl⟩|⟨z,B,o,j,rfl,rfl,rfl,q1,p,p1⟩|⟨z,B,o,j,rfl,rfl,rfl,q1,p,p1⟩<;>rcases h2.shape ok l y with⟨rfl,rfl⟩|⟨g,rfl,rfl⟩|⟨h,t2,rfl,rfl⟩|⟨i,t2,rfl,rfl⟩|⟨C,D,q,k,rfl,rfl,rfl,q2,r,p2⟩|⟨C,D,q,k,rfl,rfl,rfl,q2,r,p2⟩;exact .none_none;exact .none_bool g;exact .none_int h t2;exact .none_str i t2;exact .none_list p2 a;exact .none_tuple p2 a;exact .bool_none c;exact .bool_bool c g;exact .bool_int c h t2;exact .bool_str c i t2;exact .bool_list c p2 a;exact .bool_tuple c p2 a;exact .int_none f b;exact .int_bool f b g;exact .int_int f b h t2;exact .int_str f b i t2;exact .int_list f b p2 a;exact .int_tuple f b p2 a;exact .str_none x1 b;exact .str_bool x1 b g;exact .str_int x1 b h t2;exact .str_str x1 b i t2;exact .str_list x1 b p2 a;exact .str_tuple x1 b p2 a;exact .list_none p1 a;exact .list_bool g p1 a;exact .list_int h t2 p1 a;exact .list_str i t2 p1 a;exact pR ok t l a q1 q2 p r p1 p2 rec;exact .list_tuple p1 p2 a;exact .tuple_none p1 a;exact .tuple_bool g p1 a;exact .tuple_int h t2 p1 a;exact .tuple_str i t2 p1 a;exact .tuple_list p1 p2 a;exact rN ok t l a q1 q2 p r p1 p2 rec
def vZ(ok:HOk P w H s.heap)(a:A.units<cLine)(rec:mI H s m m' A n)(t:d.dep<=n)(F:n<1000)(l:e.dep<1000)(h1:Is H m d v)(h2:Is H m' e w')(x:RelV v u)(y:RelV w' u') :
 SeqAt.EqAt A s u u' (jp d e):=by
 rcases h1.shape ok (by lia) x with⟨rfl,rfl⟩|⟨c,rfl,rfl⟩|⟨f,b,rfl,rfl⟩|⟨x1,b,rfl,rfl⟩|⟨B,C,o,j,rfl,rfl,rfl,q1,p,p1⟩|⟨B,C,o,j,rfl,rfl,rfl,q1,p,p1⟩<;>rcases h2.shape ok l y with⟨rfl,rfl⟩|⟨g,rfl,rfl⟩|⟨h,t2,rfl,rfl⟩|⟨i,t2,rfl,rfl⟩|⟨D,E,q,k,rfl,rfl,rfl,q2,r,p2⟩|⟨D,E,q,k,rfl,rfl,rfl,q2,r,p2⟩;exact .same _;exact .none_bool g;exact .none_int h t2;exact .none_str i t2;exact .none_list p2 a;exact .none_tuple p2 a;exact .bool_none c;exact .bool_bool c g;exact .bool_int c h t2;exact .bool_str c i t2;exact .bool_list c p2 a;exact .bool_tuple c p2 a;exact .int_none f b;exact .int_bool f b g;exact .int_int f b h t2;exact .int_str f b i t2;exact .int_list f b p2 a;exact .int_tuple f b p2 a;exact .str_none x1 b;exact .str_bool x1 b g;exact .str_int x1 b h t2;exact .str_str x1 b i t2;exact .str_list x1 b p2 a;exact .str_tuple x1 b p2 a;exact .list_none p1 a;exact .list_bool g p1 a;exact .list_int h t2 p1 a;exact .list_str i t2 p1 a;exact rO (uD ok t l a q1 q2 p r p1 p2 rec) (λz=>by subst z;rw[Is.inj h1 h2];exact iF _);exact .list_tuple p1 p2 a;exact .tuple_none p1 a;exact .tuple_bool g p1 a;exact .tuple_int h t2 p1 a;exact .tuple_str i t2 p1 a;exact .tuple_list p1 p2 a;exact rO (xw ok t l a q1 q2 p r p1 p2 rec) (λz=>by subst z;rw[Is.inj h1 h2];exact iF _)
theorem z4(ok:HOk P w H s.heap):∀(n:Nat)(A:UB){d e:D}{v f:V}{u a:UA},A.units+n<cLine->n<1000->d.dep<=n->e.dep<1000->Is H m d v->Is H m' e f->RelV v u->RelV f a->SeqAt.EqAt A s u a (jp d e)
 |0,A,d,e,v,f,u,a,j,g,h,i,h1,h2,b,c=>vZ ok (by lia) (λd e v w u a hd=>absurd hd (by lia)) h g i h1 h2 b c
 |n+1,A,d,e,v,f,u,a,j,g,h,i,h1,h2,b,c=>vZ ok (by lia) (λd e v w u a hd k l o b c=>z4 ok n A.in1 (by show A.units+1+n<cLine;lia) (by lia) (by lia) k l o b c) h g i h1 h2 b c
def GK(ok:HOk P w H s.heap)(h:A.units+n<cLine)(i:n<1000):mI H s m m' A n:=λd e v w u j hd a b c f g=>z4 ok (n-1) A.in1 (by show A.units+1+(n-1)<cLine;lia) (by lia) (by lia) a b c f g
end
abbrev St:=L2.St
inductive Res(α:Type) where
 |stuck|ok (a:α)|exc (c:Str)
def Res.bind{α b:Type}:Res α->(α->Res b)->Res b
 |.stuck,_=>.stuck
 |.exc c,_=>.exc c
 |.ok a,k=>k a
inductive Sl where
 |val (d:D) (fr:Bool)|own (ds:List D) (fr:Bool)|O0 (d:D)|Pe (d:D)
abbrev En:=List (Option Sl)
inductive R where
 |val (d:D) (fr:Bool) (al:List Nat)|new (ds:List D) (fr:Bool)|BQ (d:D)
def R.d:R->D
 |.val d _ _=>d
 |.new ds _=>.lst ds
 |.BQ d=>d
def R.fr:R->Bool
 |.val _ f _=>f
 |.new _ f=>f
 |.BQ _=>true
def R.al:R->List Nat
 |.val _ _ al=>al
 |.new _ _=>[]
 |.BQ _=>[]
structure Gd where
 H₀:Hp
 Ma:Addr->Prop
 Z:Addr->Prop
 root:Option V
 NK:Option V
abbrev NO(H:Hp)(Ma:Addr->Prop):Gd:=⟨H,Ma,λ_=>False,none,none⟩
abbrev Pr:=Nat->Addr->Prop
def Gd.rt(g:Gd)(n:Nat):Option V:=if n=0 then g.root else g.NK
def Sl.O6:Sl->Bool
 |.val _ _=>false
 |_=>true
def Fj(env:En)(j:Nat):Bool:=match env[j]? with
 |some (some a)=>a.O6
 |_=>false
section
def aw(h:H a=none):Same H (upd H a o):=λb u e=>by rw[ai (ax e h)];exact e
end
def Ob(mg:Str->Option UA)(E:XK)(g:Gd)(c:Str):Prop:=∀cls dx H',mg c=some cls->Same g.H₀ H'->E cls dx H'
section
def Ji(rs:List R):Bool:=rs.all R.fr
end
def lim:Nat:=1000000
def NP(ds:List D)(fr:Bool)(al:List Nat):R:=if D.tj ds then .new ds true else if al.isEmpty then .new ds fr else .val (.lst ds) fr al
section
def GL:R2:=λx y H Q=>∃d e m a,Is H m d x/\Is H a e y/\(d.dep<=50/\e.dep<=50)/\Q (.bl (!jp d e)) H
def z5(c:X.A.units+64<cLine):nJ X (compareOp .NotEq) GL:=by intro ac s σ H x y v u Q I a b h;obtain⟨d,e,m,f,h1,h2,hd,q⟩:=h;exact Du I.aT (by lia) (GK I.aT (A:=X.A) (n:=50) (by lia) (by lia)) hd.1 (by lia) (by lia) h1 h2 a b X.prog X.w X.xe _ ⟨.bl _,H,I,rfl,q⟩
end
def nl(b H':Hp)(a:Addr):Prop:=b a=none/\Mu H' a
def z6(g:Gd)(H':Hp)(v:V):R->Prop
 |.val d fr _=>Is H' (λa=>nl g.H₀ H' a\/(fr=false/\g.Ma a)) d v
 |.new ds fr=>∃a vs,v=.ref a/\H' a=some (.lst vs)/\g.H₀ a=none/\IsAll H' (λb=>b≠a/\(nl g.H₀ H' b\/(fr=false/\g.Ma b))) ds vs
 |.BQ d=>Is H' (nl g.H₀ H') d v
def Jj(mg:Str->Option UA)(E:XK)(g:Gd)(Q:VK):Res R->Prop
 |.stuck=>False
 |.exc c=>Ob mg E g c
 |.ok r=>∀v H',Same g.H₀ H'->z6 g H' v r->Q v H'
def nU(mg:Str->Option UA)(n:Nat)(F:List D->Res R):Sp:=λvs H Q E=>vs.length=n/\∃ds Ma,IsAll H Ma ds vs/\Jj mg E (NO H Ma) Q (F ds)
inductive Fl where
 |nx (env:En)|rt (r:R)|bk (env:En)|ct (env:En)|rm (r:R) (env:En)
structure Src where
 xs:List D
 fr:Bool
 al:List Nat
theorem gF:∀(names:List (Str×NameKind))(b:List (Str×Addr)),(∀x∈names,x.2=.free->∃c,env.cells.lookup x.1=some c)->(∀y c,b.lookup y=some c->env.cells.lookup y=some c)->
 ∃cl,(forIn names b λ(x:Str×NameKind)(r:List (Str×Addr))=>(do
  if(x.2==.free)=true then
   let c <- cellOf env x.1
   pure (ForInStep.yield ((x.1,c)::r))
  else pure (ForInStep.yield r):Sem (ForInStep (List (Str×Addr)))))=pure cl/\(∀y c,cl.lookup y=some c->env.cells.lookup y=some c)/\(∀x∈names,x.2=.free->∃c,cl.lookup x.1=some c)/\(∀y c,b.lookup y=some c->∃a,cl.lookup y=some a)
 |[],b,_,h=>⟨b,by simp,h,λ_ z=>absurd z (by simp),λy c e=>⟨c,e⟩⟩
 |(n,k)::r,b,i,h=>by
  by_cases j:k=.free
  .subst j;obtain⟨c,p⟩:=i (n,.free) (by simp) rfl;have l:cellOf env n=pure c:=by simp[cellOf,p]
   have h':∀y a,((n,c)::b).lookup y=some a->env.cells.lookup y=some a:=λy a e=>by
    rw[Sf]at e;cases f:y==n with
    |true=>rw[f]at e;cases e;rw[eq_of_beq f];exact p
    |false=>rw[f]at e;exact h y a e
   obtain⟨cl,e1,e2,m,g⟩:=gF r ((n,c)::b) (λx hx=>i x (by simp[hx])) h';have self:∃a,cl.lookup n=some a:=g n c (by simp[Sf]);refine⟨cl,?_,e2,λx hx d=>?_,λy a e=>?_⟩
   .rw[List.forIn_cons];simp only[Us,Sb,l,pure_bind];exact e1
   .rcases PB.mp hx with rfl|hx
    .exact self
    .exact m x hx d
   .by_cases f:y=n
    .rw[f];exact self
    .refine g y a ?_;have hb:(y==n)=false:=by simpa using f
     rw[Sf,hb];exact e
  .obtain⟨cl,e1,e2,m,g⟩:=gF r b (λx hx=>i x (by simp[hx])) h;refine⟨cl,?_,e2,λx hx d=>?_,g⟩
   .rw[List.forIn_cons];have o:(k==NameKind.free)=false:=by simpa using j
    simp only[o,PZ,Q5,pure_bind];exact e1
   .rcases PB.mp hx with rfl|hx
    .exact absurd d j
    .exact m x hx d
def nV(h:∀x∈scope.names,x.2=.free->∃c,env.cells.lookup x.1=some c) :
 ∃cl,closureFor scope env=pure cl/\(∀y c,cl.lookup y=some c->env.cells.lookup y=some c)/\(∀x∈scope.names,x.2=.free->∃c,cl.lookup x.1=some c):=by
 obtain⟨cl,e1,e2,a,_⟩:=gF scope.names [] h (λ_ _ e=>by simp at e);refine⟨cl,?_,e2,a⟩;unfold closureFor;refine Eq.trans ?_ (show((pure cl:Sem (List (Str×Addr))) >>= λb=>pure b)=pure cl by simp);rw[<- e1]
 all_goals first
  |rfl
  |(congr 1;congr 1;funext x r;obtain⟨n,k⟩:=x;first|rfl|(dsimp only;split<;>simp_all))
theorem kZ{f:Str->NameKind->NameKind}:∀(names:List (Str×NameKind))(y:Str),(names.map λx=>(x.1,f x.1 x.2)).lookup y=(names.lookup y).map (f y)
 |[],y=>rfl
 |(n,k)::r,y=>by
  rw[PU,Sf,Sf];cases h:y==n with
  |true=>rw[eq_of_beq h];rfl
  |false=>exact kZ r y
def iG(scope:Scope)(env:Env)(y:Str):(relabel scope env).names.lookup y=(scope.names.lookup y).map λk=>if(k==.free&&env.scope.kind==.function&&env.kindOf y==some .cell)=true then .cell else k:=by
 have e:(relabel scope env).names=scope.names.map λx=>(x.1,(λn k=>if(k==NameKind.free&&env.scope.kind==.function&&env.kindOf n==some .cell)=true then NameKind.cell else k) x.1 x.2):=by unfold relabel;refine QL λx _=>?_;obtain⟨n,k⟩:=x;dsimp only;split<;>rfl
 rw[e];exact kZ (f:=λn k=>if(k==NameKind.free&&env.scope.kind==.function&&env.kindOf n==some .cell)=true then NameKind.cell else k) scope.names y
def pS(h:scope.names.lookup y=some .free):(relabel scope env).names.lookup y=some .cell\/(relabel scope env).names.lookup y=some .free:=by
 rw[iG,h];simp only[Option.map_some];split
 .exact .inl rfl
 .exact .inr rfl
def aV(X:Cx)(scope:Scope)(N:List Str)(cl:List (Str×Addr))(C:Addr)(s:Ux)(H:Hp)(ex:List Addr):Cx:={X with N:=N,s₀:=s,H₀:=H,env:=compEnvC scope cl C X.env,outer:=X.stack,ex:=ex,fn:=λ_=>false,pn:=[],xe:=λ_ _=>False}
section
def Dv(I:L2.Inv X ac σ H s)(hkind:scope.kind=.function)(hcell:∀y∈scope.names,y.2≠.cell)(hcl:∀y c,cl.lookup y=some c->X.env.cells.lookup y=some c)(hhas:∀x∈scope.names,x.2=.free->∃c,cl.lookup x.1=some c)
 (hC:s.heap.objs.size<=C) (hex:∀b∈ex,je X ac H b/\b<s.heap.objs.size):(aV X scope N cl C s H ex).Ok where
 mod:=I.ok.mod
 kind:=hkind
 glob:=I.ok.glob
 blt:=I.ok.blt
 above:=hC
 inj:=λx y c h1 h2=>I.ok.inj x y c (hcl x c h1) (hcl y c h2)
 has:=λy hy=>by
  have key:∀k,(relabel scope X.env).names.lookup y=some k->(k=.cell\/k=.free)->∃c,cl.lookup y=some c:=λk e hk=>by
   rw[iG]at e;cases q:scope.names.lookup y with
   |none=>rw[q]at e;cases e
   |some k0=>
    have hm:=RE q;have h0:=hcell _ hm;have hf:k0=.free:=by
     rw[q]at e;simp only[Option.map_some,Option.some.injEq]at e;split at e
     .rename_i z;simp only[Rj,Sz]at z;exact z.1.1
     .rcases hk with hk|hk
      .exact absurd (e.trans hk) h0
      .exact e.trans hk
    exact hhas _ hm hf
  rcases hy with hy|hy
  .exact key _ hy (.inl rfl)
  .exact key _ hy (.inr rfl)
 Ik:=λ_ _ h=>by cases h
 hd:=I.ok.hd
 frames:=I.ok.frames
 aS:=.inl rfl
 LL:=λb hb=>⟨P7 (Qr (hex b hb).2 hC),λx c e=>(hex b hb).1.2.2.2.2.1 x c (hcl x c e)⟩
 bs:=λb o e=>I.bs b o e
 B3:=Qb I.ok.B3 I.sz
 vm:=λb o e hb=>by
  rcases(hex b hb).1.2.2.2.1 with z|z
  .exact I.ok.vm b o e z
  .exact absurd (Qr (PD e) (Qb I.ok.B3 z)) (RM _)
 yC:=λb hb hfs=>by
  rcases PB.mp (I.nA b hfs)with z|z
  .exact(hex b hb).1.2.1 z
  .exact(hex b hb).1.2.2.1 z
 ku:=I.stack
 E5:=I.qJ
 kt:=I.kt
structure Lr(X:Cx) (scope:Scope) (capN:List Str) (caps:List Nat):Prop where
 at':∀(k:Nat)(y:Str),capN[k]?=some y->∃j:Nat,caps[k]?=some j/\X.N[j]?=some y
 out:∀y∈capN,X.env.kindOf y=some .cell\/X.env.kindOf y=some .free
 N5:∀y∈capN,scope.names.lookup y=some .free
 len:caps.length=capN.length
def jz(σ:St)(caps:List Nat):St:=caps.map λj=>(σ[j]?).join
def z8(I:L2.Inv X ac σ H s)(hkind:scope.kind=.function)(hcell:∀y∈scope.names,y.2≠.cell)(hcl:∀y c,cl.lookup y=some c->X.env.cells.lookup y=some c)(hhas:∀x∈scope.names,x.2=.free->∃c,cl.lookup x.1=some c)
 (hC:s.heap.objs.size<=C) (hex:∀b∈ex,je X ac H b/\b<s.heap.objs.size) (hc:Lr X scope capN caps) (kp:∀b o,s.heap.get? b=some o->h4.get? b=some o) (ns:h4.Ns C m4) :
 L2.Inv (aV X scope (tN++capN) cl C s H ex) [] (List.replicate tN.length none++jz σ caps) H {s with heap:=h4,toks:=tk} where
 ok:=Dv I hkind hcell hcl hhas hC hex
 os:=rfl
 bare:=I.bare
 base:=Un.kept kp
 loc:=by
  refine⟨m4,ns,λi y v e1 e2 e3=>?_⟩;by_cases hlt:i<tN.length
  .rw[SK (by simpa using hlt),List.getElem?_replicate]at e2;rw[PN hlt]at e2;cases e2
  .obtain⟨k,rfl⟩ : ∃k,i=tN.length+k:=⟨i-tN.length,by lia⟩;have e1:capN[k]?=some y:=by
    have e1:(tN++capN)[tN.length+k]?=some y:=e1
    rwa [Q3 (by lia),Tf]at e1
   have e2:(jz σ caps)[k]?=some (some v):=by
    rwa [Q3 (by simp),List.length_replicate,Tf]at e2
   obtain⟨j,ej,eN⟩:=hc.at' k y e1;have e4:σ[j]?=some (some v):=by
    unfold jz at e2;rw[PR,ej]at e2;have e2:(σ[j]?).join=some v:=by simpa using e2
    cases q:σ[j]? with
    |none=>rw[q]at e2;cases e2
    |some o=>rw[q]at e2;cases o with
     |none=>cases e2
     |some w=>cases e2;rfl
   have hm:=PY e1;obtain⟨m,hn,hl⟩:=I.loc;have hout:=hc.out y hm;obtain⟨u,r,l⟩:=hl j y v eN e4 (.inr hout);refine⟨u,r,.inr ⟨pS (hc.N5 y hm),?_⟩⟩;obtain⟨c,hcl2⟩:=hhas (y,.free) (RE (hc.N5 y hm)) rfl;refine⟨c,hcl2,?_⟩;rcases l with⟨l,_⟩|⟨_,c',e5,z⟩
   .rcases hout with h|h<;>(rw[h]at l;cases l)
   .have:=hcl y c hcl2;rw[e5]at this;cases this;obtain⟨o,ho,hd⟩:=z;exact⟨o,kp _ o ho,hd⟩
 cell:=λy c e=>by obtain⟨v,o,ho,hd⟩:=I.cell y c (hcl y c e);exact⟨v,o,kp _ o ho,hd⟩
 free:=I.aT.fresh hC
 fO:=λy c e=>I.fO y c (hcl y c e)
 pin:=λp hp=>absurd (show p∈([]:List (Addr×Obj))from hp) (by simp)
 aT:=I.aT.kept kp
 len:=by simp[aV,jz,hc.len]
def xx(I:L2.Inv X ac σ H s)(c:X'=aV X scope N cl C s H ex)(d:s.heap.objs.size<=C)(hex:∀b∈ex,je X ac H b/\b<s.heap.objs.size)
 (a:L2.Inv X' pl σ' H' s'):L2.Inv X ac σ H' s'/\je X ac H' C:=by
 subst c;refine⟨I.FU (ch:=ex) a.os a.base a.aT a.bare λb hb=>?_,I.tp d a.free⟩;obtain⟨_,h2,h3,e,f,g⟩:=(hex b hb).1;exact⟨e,h2,f,g⟩
def v4(I:L2.Inv X ac σ H s)(a:je X ac H C)(c:Heap.SameBut C s.heap h'):L2.Inv X ac σ H {s with heap:=h'}:=I.turned (t':=s.toks) (it:=C) (λb o hb e=>(c.2 b hb).trans e) a.1 a.2.1 a.2.2.2.1 a.2.2.2.2.1 a.2.2.2.2.2
end
section
def yQ(X:Cx)(a:List Expr)(b:TT):Prop:=∀(ac:List (Addr×Obj))(s:Ux)(σ:St)(H:Hp)(Q:Bool->Hp->Prop),L2.Inv X ac σ H s->b σ H Q->
 wpAny (model X.prog X.w) X.A (forIn a true λc r=>if r=true then do let ok <- isTrue c X.env (eval c X.env);pure (ForInStep.yield ok)else pure (ForInStep.yield r)) (TP X ac σ Q) X.xe s
def fU:yQ X [] (λ_ H Q=>Q true H):=λ_ _ σ H Q I q=>wpAny_tests_nil ⟨H,I,q⟩
def lG(h:PT X c tt):yQ X [c] tt:=λac s σ H Q I q=>wpAny_tests_one (h ac s σ H Q I q)
def xy(p:X'=aV X scope (tN++capN) cl C s3 H3 fp)(T:Turn X.prog X.w X.K tg J fp it tn)(q:X.calm=true)
 (I4:L2.Inv X' [] (List.replicate tN.length none++c) H3 s4) (bH:X'.N.length=tN.length+c.length) (st4:tn 0 s4.heap) (hf:∀b∈fp,je X' [] H3 b)
 (hg:PG X' tg gt) (ht:yQ X' ifs tt) (he:PE X' elt te)
   (W:Nat->Nat->List V->Hp->Prop) (Fin:List V->Hp->Prop) (w0:∃m,W 0 m [] H3)
   (turn:∀i m a H,W i m a H->H Dl=some (.lst a)/\((J.stop i H/\Fin a H)\/(J.go i H/\∀I H' o,J.BY i H I H'->o.length=tN.length->gt I (o++c) H' λt H1=>(∀j:Nat,tN.length<=j->t[j]?=(o++c)[j]?)/\tt t H1 λb H2=>if b=true then
     te t H2 λy h=>h Dl=some (.lst a)/\a.length<sizeLine/\∃f,f<m/\W (i+1) f (a++[y]) (upd h Dl (.lst (a++[y])))else ∃f,f<m/\W (i+1) f a H2)))
   (R:Result->Ux->Prop) (hR:∀σ' H' a B,L2.Inv X' [] σ' H' B->H' Dl=some (.lst a)->Fin a H'->R (.ok .next) B) :
   codeAny (model X.prog X.w) X.A (.compLoop (.ListComp elt [⟨tg,iter,ifs,0⟩] scope pos) 0 (.ref it) (.ref Dl) (compEnvC scope cl C X.env)) R s4:=by
  obtain⟨m0,w0⟩:=w0;have E:X'.A=X.A:=by rw[p];rfl
  have F:X'.prog=X.prog:=by rw[p];rfl
  have G:X'.w=X.w:=by rw[p];rfl
  have eK:X'.K=X.K:=by rw[p];rfl
  have eE:X'.env=compEnvC scope cl C X.env:=by rw[p];rfl
  have Z:X'.xe=λ_ _=>False:=by rw[p];rfl
  have eC:X'.calm=true:=by rw[p];exact q
  have g:∀{H':Hp},(∀b∈fp,H' b=none)->∀b∈fp,je X' [] H' b:=λhn b hb=>⟨hn b hb,(hf b hb).2⟩;refine codeAny_loop rfl (λn s=>∃i o a H,L2.Inv X' [] (o++c) H s/\o.length=tN.length/\tn i s.heap/\(∀b∈fp,H b=none)/\W i n a H) ?_ m0 ⟨0,List.replicate tN.length none,[],H3,I4,by simp,st4,λb hb=>(hf b hb).1,w0⟩;rintro n s5 ⟨i,o,a,h,I5,lo,L,M,w5⟩;show wpAny _ X.A ((compTurn (.ListComp elt [⟨tg,iter,ifs,0⟩] scope pos) 0 (.ref it) (.ref Dl) (compEnvC scope cl C X.env)).onRaise (λx=>do noteFrame x (compEnvC scope cl C X.env);theTreesLotGoes x)) _ _ s5;refine wpAny_noted ?_;rw[compTurn_list];obtain⟨hD,alt⟩:=turn i n a h w5;rcases alt with⟨stop,fin⟩|⟨go,step⟩
  .refine KE (wpAny_standAt (KE (Rl (E▸T.done X' F G eK eC i [] s5 _ h _ I5 (g M) L stop) (λr s6 ⟨hr,I6⟩=>?_) λ_ _ z=>z)));subst hr;exact Po (hR _ h a s6 I6 hD fin)
  .refine KE (wpAny_standAt (KE (Rl (E▸T.item X' F G eK eC i [] s5 _ h _ I5 (g M) L go) (λr s6 ⟨u,hr,h6⟩=>?_) λ_ _ z=>z)));subst hr;refine KE (Rl h6 (λ_ s7 ⟨I,H7,I7,r7,y7,D,fr7⟩=>?_) λ_ _ z=>z);have I7':=I7.pinned (g fr7) (T.obj _ _ D);have O:=hg _ s7 _ H7 I u _ I7' r7 (step I H7 o y7 lo);rw[F,G,E,eE,Z]at O;refine KE (Rl O (λ_ s8 ⟨k,H8,I8,shp,q8⟩=>?_) λ_ _ z=>z.elim);obtain⟨l,P,eσ⟩ : ∃l:St,l.length=tN.length/\k=l++c:=by
    have l8:k.length=tN.length+c.length:=I8.len.trans bH;refine⟨k.take tN.length,by rw[QN];lia,?_⟩;have ed:k.drop tN.length=c:=by
     apply SE
     intro j;rw[List.getElem?_drop,shp (tN.length+j) (by lia),Q3 (by lia),lo,Tf]
    rw[<- ed,Q2]
   subst eσ;have Q:=ht _ s8 _ H8 _ I8 q8;rw[F,G,E,eE,Z]at Q;refine KE (Rl Q (λok s9 ⟨H9,I9,q9⟩=>?_) λ_ _ z=>z.elim);have again:∀{B:Ux}{H':Hp},L2.Inv X' ([]++lQ fp s7.heap) (l++c) H' B->L2.Inv X' [] (l++c) H' B/\tn (i+1) B.heap/\∀b∈fp,H' b=none:=λ{B H'} J'=>by refine⟨J'.kr,T.keep _ _ _ D λb hb ob e=>(J'.pin (b,ob) (Qs _ (Qs _ (gA hb e)))).1,λb hb=>?_⟩;obtain⟨ob,e,d⟩:=T.obj _ _ D b hb;exact(J'.pin (b,ob) (Qs _ (Qs _ (gA hb e)))).2.1
   cases ok with
   |false=>obtain⟨f,hm,w9⟩:=(show ∃f,f<n/\W (i+1) f a H9 from by simpa using q9);obtain⟨a1,a2,a3⟩:=again I9;exact Po ⟨rfl,f,hm,i+1,l,a,H9,a1,P,a2,a3,w9⟩
   |true=>
    have q9:te (l++c) H9 λy h=>h Dl=some (.lst a)/\a.length<sizeLine/\∃f,f<n/\W (i+1) f (a++[y]) (upd h Dl (.lst (a++[y]))):=by simpa using q9
    have S:=he _ s9 _ H9 _ I9 q9;rw[F,G,E,eE,Z]at S;refine KE (KE (Rl S (λv s10 ⟨y,U,I10,ry,eD,hl,f,hm,w10⟩=>?_) λ_ _ z=>z.elim));have Y:=b9 (X:=X') _ s10 _ U (.ref Dl) [y] (.ref Dl) [v] (λw H'=>w=.bB/\H'=upd U Dl (.lst (a++[y]))) I10 rfl (.cons ry .nil) ⟨Dl,a,y,rfl,rfl,eD,hl,rfl,rfl⟩;rw[F,G,E,Z]at Y;refine KE (Rl Y (λ_ s11 ⟨w,H11,I11,_,_,eH⟩=>?_) λ_ _ z=>z.elim);subst eH;obtain⟨a1,a2,a3⟩:=again I11;exact Po (Po ⟨rfl,f,hm,i+1,l,a++[y],_,a1,P,a2,a3,w10⟩)
end
structure cB(X:Cx) (scope:Scope) (tN:List Str) (capN:List Str) (caps:List Nat):Prop where
 kind:scope.kind=.function
 FV:∀y∈scope.names,y.2≠.cell
 names:∀y∈scope.names,y.2=.local->scope.names.lookup y.1=some .local
 own:∀x∈tN,scope.names.lookup x=some .local
 free:∀y∈scope.names,y.2=.free->X.env.kindOf y.1=some .cell\/X.env.kindOf y.1=some .free
 cap:Lr X scope capN caps
 nd:(tN++capN).Nodup
section
def cw(X:Cx)(scope:Scope)(tg:Expr)(tN:List Str)(capN:List Str)(caps:List Nat)(g:Expr)(h:List Expr)(σ:St)(Fin:Addr->List V->Hp->Prop)(J:It)(d:Hp):Prop:=
 ∀(c:Addr),d c=none->∀(cl:List (Str×Addr))(C:Addr)(k:Ux)(fp:List Addr),∃(gt:TG)(l:TT)(te:TE)(W:Nat->Nat->List V->Hp->Prop),
  PG (aV X scope (tN++capN) cl C k (upd d c (.lst [])) fp) tg gt/\yQ (aV X scope (tN++capN) cl C k (upd d c (.lst [])) fp) h l/\PE (aV X scope (tN++capN) cl C k (upd d c (.lst [])) fp) g te/\(∃m,W 0 m [] (upd d c (.lst [])))/\
  ∀i m a H,W i m a H->H c=some (.lst a)/\((J.stop i H/\Fin c a H)\/(J.go i H/\∀n H' (o:St),J.BY i H n H'->o.length=tN.length->gt n (o++jz σ caps) H' λe H1=>(∀j:Nat,tN.length<=j->e[j]?=(o++jz σ caps)[j]?)/\l e H1 λb d=>if b=true then
   te e d λy p=>p c=some (.lst a)/\a.length<sizeLine/\∃f,f<m/\W (i+1) f (a++[y]) (upd p c (.lst (a++[y])))else ∃f,f<m/\W (i+1) f a d))
def oV{use:Option (UA->Sem Unit)}{Qv:UA->Ux->Prop}{Fin:Addr->List V->Hp->Prop}(hc:X.calm=true)(S:cB X scope tN capN caps)(I:L2.Inv X ac σ H s)(hi:PI X tg iter wi)
 (h:wi σ H (cw X scope tg tN capN caps elt ifs σ Fin))
 (hu:∀(K C:Addr)(j:List V)(H':Hp)(n:Ux),L2.Inv X ac σ H' n->je X ac H' C->H' K=some (.lst j)->Fin K j H'->(∃m,n.heap.Ns C m)->compPost (model X.prog X.w) X.A X.xe use Qv (.ref K) C (.ok .next) n)
 (hs:autoParam (∀x,foldedSetIterable iter X.env x=pure x) af) :
 wX X (comprehension (.ListComp elt [⟨tg,iter,ifs,0⟩] scope pos) scope X.env (firstIterPos [⟨tg,iter,ifs,0⟩] pos) (newList []) false (eval iter X.env) use) Qv X.xe s:=by
 obtain⟨cl,L,q,r⟩:=nV (scope:=scope) (env:=X.env) λy M hf=>I.ok.has y.1 (S.free y M hf);refine wpAny_comprehension_free rfl hs L S.kind S.names (cD (hi ac s σ H _ I h) λv s1 h1=>cD h1 λitv s2 h2=>?_);obtain⟨it,fp,tn,J,k,rfl,R,T,t,U,B⟩:=h2;refine QD (wpAny_newFunctionEnv S.FV (by intro y M;simp at M) (λa d g=>?_) S.kind);dsimp only at d g ⊢;have hD:k s2.heap.objs.size=none:=R.aT.fresh (Pq _);have G:L2.Inv X ac σ (upd k s2.heap.objs.size (.lst [])) { s2 with heap:=s2.heap.push { cls:=.type "list",dict:=none,data:=.seq ([]:List UA).toArray } }:=R.laid (t':=s2.toks) (λb u e=>Pp _ e) (Pq _) ⟨PQ _,[],0,.nil,PH _ rfl⟩;generalize D:({ s2 with heap:=s2.heap.push { cls:=.type "list",dict:=none,data:=.seq ([]:List UA).toArray } }:Ux)=i at G;have Y:s2.heap.push { cls:=.type "list",dict:=none,data:=.seq ([]:List UA).toArray }=i.heap:=by rw[<- D]
 rw[Y]at d g ⊢;have kp:∀b o,i.heap.get? b=some o->a.get? b=some o:=λb o e=>g.extBut b o (P7 (PD e)) (Pp _ e);have E:∀b o,s2.heap.get? b=some o->i.heap.get? b=some o:=λb o e=>by rw[<- Y];exact Pp _ e
 have hex:∀b∈fp,je X ac (upd k s2.heap.objs.size (.lst [])) b/\b<i.heap.objs.size:=λb hb=>by obtain⟨o,Z,_⟩:=T.obj 0 _ t b hb;have l:b<s2.heap.objs.size:=PD Z;refine⟨⟨?_,(U b hb).2⟩,PD (E b o Z)⟩;rw[ai (P7 l)];exact(U b hb).1
 have es:({s2 with heap:=a,toks:=s2.toks+([]:List (Str×UA)).length}:Ux)={i with heap:=a,toks:=s2.toks+([]:List (Str×UA)).length}:=by rw[<- D]
 have I4:L2.Inv (aV X scope (tN++capN) cl i.heap.objs.size i (upd k s2.heap.objs.size (.lst [])) fp) [] (List.replicate tN.length none++jz σ caps) (upd k s2.heap.objs.size (.lst [])) {i with heap:=a,toks:=s2.toks+([]:List (Str×UA)).length}:=z8 G S.kind S.FV q r (Pq _) hex S.cap kp d;obtain⟨gt,tt,te,W,hg,ht,he,w0,turn⟩:=B s2.heap.objs.size hD cl i.heap.objs.size i fp;have F:tn 0 a:=T.keep 0 _ _ t λb hb o e=>kp b o (E b o e);have f4:∀b∈fp,je (aV X scope (tN++capN) cl i.heap.objs.size i (upd k s2.heap.objs.size (.lst [])) fp) [] (upd k s2.heap.objs.size (.lst [])) b:=λb hb=>by
  obtain⟨f,l⟩:=hex b hb;refine⟨f.1,P7 l,λN=>?_,.inl hb,λy c e=>f.2.2.2.2.1 y c (q y c e),λp hp=>absurd (show p∈([]:List (Addr×Obj))from hp) (by simp)⟩;rcases PB.mp (G.nA b N)with z|z
  .exact f.2.1 z
  .exact f.2.2.1 z
 have loop:codeAny (model X.prog X.w) X.A (.compLoop (.ListComp elt [⟨tg,iter,ifs,0⟩] scope pos) 0 (.ref it) (.ref s2.heap.objs.size) (compEnvC scope cl i.heap.objs.size X.env)) (compPost (model X.prog X.w) X.A X.xe use Qv (.ref s2.heap.objs.size) i.heap.objs.size)
  {i with heap:=a,toks:=s2.toks+([]:List (Str×UA)).length}:=by
  refine xy rfl T hc I4 (by show(tN++capN).length=_;simp[jz,S.cap.len]) F f4 hg ht he W (Fin s2.heap.objs.size) w0 turn _ λσ' H' j n I' O P=>?_;obtain⟨Io,fo⟩:=xx G rfl (Pq _) hex I';obtain⟨m',Q,_⟩:=I'.loc;exact hu _ _ j H' n Io fo O P ⟨m',Q⟩
 rw[es];exact codeAny_compStart_list loop (T.self _ 0 _ _ _ F loop)
def z9(d:X.calm=true)(S:cB X scope tN capN caps)(I:L2.Inv X ac σ H s)(e:PI X tg iter wi)(h:wi σ H (cw X scope tg tN capN caps elt ifs σ λa _ H'=>Q (.ref a) H'))
 (hs:autoParam (∀x,foldedSetIterable iter X.env x=pure x) af):wX X (eval (.ListComp elt [⟨tg,iter,ifs,0⟩] scope pos) X.env) (EP X ac σ Q) X.xe s:=by
 rw[eval_ListComp];refine oV (use:=none) d S I e h (λa C f H' j g fo k b c=>?_) hs;obtain⟨m,c⟩:=c;exact⟨m,c,λh' i=>⟨.ref a,H',v4 g fo i,rfl,b⟩⟩
def z_{D:Ends}{i:Nat}(p:X.calm=true)(S:cB X scope tN capN caps)(q:X.N.Nodup)(c:X.N[i]?=some y)(o:X.env.scope.names.lookup y=some .local)
 (d:swapsWith (.ListComp elt [⟨tg,iter,ifs,0⟩] scope pos) (some (.Name y py)) spos.line X.env=pure true) (I:L2.Inv X ac σ H s) (r:PI X tg iter wi)
 (h:wi σ H (cw X scope tg tN capN caps elt ifs σ λb _ H'=>D.nx (σ.set i (some (.ref b))) H')) (hs:autoParam (∀x,foldedSetIterable iter X.env x=pure x) af) :
 wX X (exec (.Assign [.Name y py] (.ListComp elt [⟨tg,iter,ifs,0⟩] scope pos) spos) X.env) (SP X ac D) X.xe s:=by
 rw[exec_Assign_Name_used _ _ _ _ d];refine KE (wpAny_standAt (KE ?_));show wpAny _ X.A (do let _ <- comprehension (.ListComp elt [⟨tg,iter,ifs,0⟩] scope pos) scope X.env _ (newList []) false (eval iter X.env) (some (assign (.Name y py) X.env))) _ _ s;refine KE (Rl (oV (use:=some (assign (.Name y py) X.env)) (Qv:=λ_ f=>SP X ac D .next f) p S I r h (λb C t H' f u fo F g j=>?_) hs) (λ_ f w=>Po (Po w)) λ_ _ e=>e);obtain⟨m,j⟩:=j;show wpAny _ X.A (assign (.Name y py) X.env (.ref b)) _ _ _;refine wpAny_assign_Name (om (v:=.ref b) u q c (.inl o) rfl (λB k ⟨a,E,ha⟩=>?_) (.inr o));have l:C≠a:=by
  rcases ha with z|z
  .rw[z];exact fo.2.1
  .exact QQ (fo.2.2.2.2.1 y a z)
 refine⟨m,j.sameBut E l,λh' n=>?_⟩;exact⟨_,H',v4 k fo n,g⟩
end
def Res.N6{α:Type}:Res α->Res α
 |.exc _=>.stuck
 |r=>r
def L_(env:En)(j:Nat):Option Sl:=match env[j]? with
 |some (some (.val d fr))=>some (.val d fr)
 |some (some (.own ds fr))=>some (.val (.lst ds) fr)
 |some (some (.O0 d))=>some (.val d true)
 |_=>none
def Jk(env:En)(n:Nat)(caps:List Nat):En:=List.replicate n none++caps.map (L_ env)
def v5(mk:D->Option En)(a:En->Res Bool)(c:En->Res R):List D->Res (List R)
 |[]=>.ok []
 |x::xs=>match mk x with
  |none=>.stuck
  |some e=>(a e).bind λb=>if b then(c e).bind λr=>(v5 mk a c xs).bind λrs=>.ok (r::rs)else v5 mk a c xs
def Jl(n:Nat)(caps:List Nat)(b:En->Res Src)(c:D->Bool->En->Option En)(a:En->Res Bool)(e:En->Res R):En->Res R:=λenv=>(b env).bind λs=>if s.xs.length<=lim then
 (v5 (λd=>c d s.fr (Jk env n caps)) a e s.xs).N6.bind λrs=>.ok (NP (rs.map R.d) (Ji rs) (s.al++caps.filter (Fj env)))else .stuck
def iH(X:Cx)(scope:Scope)(tg:Expr)(tN:List Str)(capN:List Str)(caps:List Nat)(a:Expr)(b:List Expr)(c:TI):TE:=λσ H Q=>c σ H (cw X scope tg tN capN caps a b σ λd _ H'=>Q (.ref d) H')
def Aa(N:List Str)(ds:List D):En:=ds.map (λd=>some (.val d false))++List.replicate (N.length-ds.length) none
def Jm:Res Fl->Res R
 |.ok (.nx _)=>.ok (.val .bB true [])
 |.ok (.rt r)=>.ok r
 |.ok _=>.stuck
 |.exc c=>.exc c
 |.stuck=>.stuck
def Mb(N:List Str)(a:En->Res Fl)(ds:List D):Res R:=Jm (a (Aa N ds))
def Jn:gc hG X E:=λ_ _ _ _ _ _ _ h=>h.elim
section
def Dw:I0 X (λx lo d H Q=>∃a xs,x=.ref a/\SqT X.K H a xs/\(HT.sIx xs.length 0 lo=0/\HT.sIx xs.length xs.length d=xs.length)/\Q x H):=by
 intro ac s σ H x v u w lo d k Q I l hs pl n h;obtain⟨a,xs,rfl,o,j,q⟩:=h;cases l;obtain⟨its,r,b,hz⟩:=I.tuple o;have p:its.toArray.size=xs.length:=by rw[PL];exact r.length.symm
 refine⟨"tuple",_,QZ.lookup,b.typeIs,?_⟩;obtain⟨os,e,f,t⟩:=id hs;have g:s.TypeIs (.ref k) "slice":=⟨os,e,f⟩;unfold getItem
 try with_reducible refine Qz ?_
 first|refine KE (Po ?_)|skip
 refine KE (wpAny_sequenceKey b.typeIs (by decide) ?_);refine KE (Q7 (name:=Str.ofString "__getitem__") b.typeIs QZ
  (QF QZ b.typeIs entry_tuple_getitem ?_ (args_tuple_getitem _ _)))
 show wpAny _ _ (Builtin.Tuple.tupleItemsOf (.ref a) >>= _) _ _ s;refine KE (tupleItemsOf_ b ?_);refine KE (R9 g ?_);rw[PN (by decide)];refine KE (HT.sliceApplied_gen hs pl n ?_);have c:((((HT.sIx its.toArray.size 0 lo:Nat):Int)==0&&(1:Int)==1&&(HT.sIx its.toArray.size its.toArray.size d-HT.sIx its.toArray.size 0 lo)==its.toArray.size)=true):=by rw[p,j.1,j.2];simp
 show wpAny _ _ (if(((HT.sIx its.toArray.size 0 lo:Nat):Int)==0&&(1:Int)==1&&(HT.sIx its.toArray.size its.toArray.size d-HT.sIx its.toArray.size 0 lo)==its.toArray.size)=true then _ else _) _ _ s;rw[PN c];have i:EP X ac σ Q (.ref a) s:=⟨.ref a,H,I,rfl,q⟩;refine KE (m:=Builtin.Tuple.tupleIsExact (.ref a)) ?_;unfold Builtin.Tuple.tupleIsExact;refine KE (R9 b.typeIs ?_);refine Po ?_;rw[PN (by decide)];exact KE (S3 (Po ⟨_,rfl,Po i⟩))
end
section
def rP{α:Type}(xs:List α)(lo a:Option Int):List α:=(xs.drop (HT.sIx xs.length 0 lo)).take (HT.sIx xs.length xs.length a-HT.sIx xs.length 0 lo)
def IsAll.cut(h:IsAll H m ds vs)(lo a:Option Int):IsAll H m (rP ds lo a) (fB vs lo a):=by unfold rP fB;rw[h.length];exact(h.drop _).take _
def D.ty:D->String
 |.bB=>"NoneType" |.bl _=>"bool" |.int _=>"int" |.str _=>"str" |.tup _=>"tuple" |.lst _=>"list" |.qM _ _=>"dict"
def Mc(K:Uy)(H:Hp)(x:V)(t:UA):Prop:=kS K H x t\/(t=.type "dict"/\∃a,x=.ref a/\Jc H a)
def NQ(T:String)(d:D):Bool:=match d with
 |.bB=>T=="NoneType"
 |.bl _=>T=="bool" || T=="int"
 |.int _=>T=="int"
 |.str _=>T=="str"
 |.tup _=>T=="tuple"
 |.lst _=>T=="list"
 |.qM _ _=>T=="dict"
def Dx(T:String):Prop:=∀(K:Uy)(d:D),kitOne K (.type d.ty) (.type T)=some (NQ T d)
def Ab:Dx "int":=λK d=>by cases d<;>kernel_rfl
def xA:Dx "bool":=λK d=>by cases d<;>kernel_rfl
def xB:Dx "dict":=λK d=>by cases d<;>kernel_rfl
def Ac:bV X (.builtin "isinstance") (λxs H Q=>∃x T t b,xs=[x,.ty T]/\Mc X.K H x t/\kitOne X.K t (.type T)=some b/\Q (.bl b) H):=by
 intro ac s σ H xs us Q I r h;obtain⟨x,T,t,b,rfl,ty,e,q⟩:=h;obtain⟨u,c,rfl,ru,d⟩:=qW r;obtain rfl:c=Value.type T:=d;rcases ty with ty|⟨rfl,a,rfl,hd⟩
 .exact wV I ru ty e λtk=>⟨.bl b,H,I.tok tk,rfl,q⟩
 .obtain rfl:u=Value.ref a:=ru;obtain⟨f,_⟩:=pE I hd;exact Rf Ue I.jK f e (λz=>nomatch z) λtk=>⟨.bl b,H,I.tok tk,rfl,q⟩
end
def LB(K:Uy)(a:Addr):It:=⟨λi H=>∃xs x,SqL K H a xs/\xs[i]?=some x,λi H y H'=>∃p x,H p=none/\y=.ref p/\H'=upd H p (.tup [.int (i:Nat),x])/\∀xs,SqL K H a xs->xs[i]?=some x,λi H=>∃xs,SqL K H a xs/\xs.length<=i⟩
def xC{P:Uz}{w:World}{K:Uy}(a it e:Addr)(hei:e≠it):Turn P w K (.Tuple es k pos) (LB K a) [e,it] e (λi h=>(∃old,IsEnum h e it i old)/\h.IsListIter it a i) where
 mem:=by simp
 obj:=λi h st b hb=>by
  obtain⟨⟨old,he⟩,o,ho,c,d⟩:=st;rcases PB.mp hb with rfl|hb
  .exact⟨_,he,λv z=>by cases z⟩
  .have:b=it:=by simpa using hb
   subst this;exact⟨o,ho,λv z=>by rw[d]at z;cases z⟩
 keep:=λi h h' st kk=>by obtain⟨⟨old,he⟩,hl⟩:=st;exact⟨⟨old,kk e (by simp) _ he⟩,hl.at λo q=>kk it (by simp) o q⟩
 item:=by
  intro X hP hw hK hc i ac s σ H E I hf st hg;subst hP hw hK;obtain⟨xs,x,hq,hx⟩:=hg;obtain⟨⟨old,he⟩,hl⟩:=st;obtain⟨its,rv,p,hz⟩:=I.list hq;obtain⟨u,hu,ru⟩:=rv.get hx;have fe:=hf e (by simp);have fi:=hf it (by simp);have hai:a≠it:=by intro z;obtain⟨o1,e1,c1,_⟩:=p.isList;obtain⟨o2,e2,c2,_⟩:=hl;rw[z,e2]at e1;cases e1;rw[c2]at c1;injection c1 with z;exact absurd z (by decide)
  have hae:a≠e:=by intro z;obtain⟨o1,e1,c1,_⟩:=p.isList;rw[z,he]at e1;cases e1;injection c1 with z;exact absurd z (by decide)
  have hh:X.A.in1.handled=none:=I.ok.hd hc;have hil:i<its.length:=(PF.mp hu).1;refine wpAny_pyNext_enum_itemD (Draws.list hh it a hai its.toArray) he ⟨hl,p.isList⟩ (by simpa using hil) hei (by simp;exact⟨hei,QQ hae⟩) λx' h' tk hx' ho hs' hT hsz hk=>?_;have ex:x'=u:=by
   have:its[i]?=some x':=by simpa using hx'
   rw[hu]at this;exact(QH this).symm
  subst ex;refine⟨_,rfl,wpAny_letOwnedTupleGo_enum ho λh'' he'' hs''=>?_⟩;have keep2:∀b o,b≠e->b≠it->s.heap.get? b=some o->h''.get? b=some o:=λb o n1 n2 q=>(hs''.2 b n1).trans (hk b o n1 n2 q);have hTe:s.heap.objs.size≠e:=RV (PD he);have hT'':h''.get? s.heap.objs.size=some { cls:=.type "tuple",data:=.seq #[.int i tk,x'] }:=(hs''.2 _ hTe).trans hT;have I1:L2.Inv X ac σ (upd H s.heap.objs.size (.tup [.int (i:Nat),x])) {s with heap:=h'',toks:=tk+1}:=by
   refine I.step (g':=s.gens) (d':=s.drawn) (ch:=[e,it]) (λb hb=>?_) (λb o _ _ hn q _=>keep2 b o (λz=>hn (by simp[z])) (λz=>hn (by simp[z])) q)
    (λb o _ _ hn q _=>⟨o.slots,keep2 b o (λz=>hn (by simp[z])) (λz=>hn (by simp[z])) q⟩) (λb o _ q hH=>by rw[ai (P7 (PD q))];exact hH)
    (λb o hn q=>⟨o,keep2 b o (λz=>hn (by simp[z])) (λz=>hn (by simp[z])) q⟩) (λb ys q=>by rw[ai (ax q (I.aT.fresh (Pq _)))];exact q)
    (λb o' u' q=>by rw[ai (ax q (I.aT.fresh (Pq _)))];exact q) (λb ps q=>⟨#[],by rw[ai (ax q (I.aT.fresh (Pq _)))];simp[q]⟩) (λm hm=>?_) (λb u' q=>?_) I.bare
   .rcases PB.mp hb with rfl|hb
    .exact⟨fe.2.2.2.1,fe.2.1,fe.2.2.2.2.1,fe.2.2.2.2.2⟩
    .have:b=it:=by simpa using hb
     subst this;exact⟨fi.2.2.2.1,fi.2.1,fi.2.2.2.2.1,fi.2.2.2.2.2⟩
   .obtain⟨o,es',ep,ho',r⟩:=hm;exact⟨o,es',ep,keep2 _ o (QQ fe.2.1) (QQ fi.2.1) ho',r⟩
   .by_cases hb:b=s.heap.objs.size
    .subst hb;rw[ag]at q;cases q;refine⟨by show 2<=sizeLine;decide,[.int i tk,x'],.cons ⟨tk,rfl⟩ (.cons ru .nil),⟨_,hT'',rfl,0,rfl⟩⟩
    .rw[ai hb]at q;refine(I.aT b u' q).stay (λc v hc' q'=>keep2 c v ?_ ?_ q') (λc r=>by rw[ai (ax r (I.aT.fresh (Pq _)))];exact r) λc ys r=>by rw[ai (ax r (I.aT.fresh (Pq _)))];exact r
     .rcases hc' with z|z
      .rw[z];exact ax q fe.1
      .exact ax z fe.1
     .rcases hc' with z|z
      .rw[z];exact ax q fi.1
      .exact ax z fi.1
  refine⟨.ref s.heap.objs.size,_,I1,rfl,⟨_,x,I.aT.fresh (Pq _),rfl,rfl,λys hy=>by rw[I.sY hy hq];exact hx⟩,⟨⟨_,by simpa using he''⟩,?_⟩,λb hb=>?_⟩
  .obtain⟨o,q,r⟩:=hs'.1;exact⟨o,(hs''.2 it (QQ hei)).trans q,r⟩
  .rcases PB.mp hb with rfl|hb
   .rw[ai (P7 (PD he))];exact fe.1
   .have:b=it:=by simpa using hb
    subst this;obtain⟨o,q,_⟩:=hl;rw[ai (P7 (PD q))];exact fi.1
 done:=by
  intro X hP hw hK hc i ac s σ H E I hf st hg;subst hP hw hK;obtain⟨xs,hq,hx⟩:=hg;obtain⟨⟨old,he⟩,hl⟩:=st;obtain⟨its,rv,p,hz⟩:=I.list hq;have fi:=hf it (by simp);have hai:a≠it:=by intro z;obtain⟨o1,e1,c1,_⟩:=p.isList;obtain⟨o2,e2,c2,_⟩:=hl;rw[z,e2]at e1;cases e1;rw[c2]at c1;injection c1 with z;exact absurd z (by decide)
  have hh:X.A.in1.handled=none:=I.ok.hd hc;have hln:=rv.length;have Dr:Draws X.prog X.w X.A.in1 it [it,a] 0 (λ_ _=>True) (λ_ h=>h.IsListIter it a i/\h.IsList a its.toArray):=
   { live:=λ_ _ st=>let ⟨o,ho,_⟩:=st.1;⟨o,ho⟩
     frame:=λ_ _ _ st hk=>⟨st.1.at λo e=>hk it (by simp) o e,st.2.at λo e=>hk a (by simp) o e⟩
     item:=λi s Q E hi=>absurd hi (by lia)
     done:=λs Q E st hE=>wpAny_nextOf_list_end hh st.1 st.2 (by simp;lia) hE }
  exact wpAny_pyNext_enum_endD Dr he ⟨hl,p.isList⟩ λh' eb=>⟨rfl,I.turned (t':=s.toks) (λb o hb e=>eb b o hb e) fi.1 fi.2.1 fi.2.2.2.1 fi.2.2.2.2.1 fi.2.2.2.2.2⟩
 self:=λA i s Q E st h=>by obtain⟨⟨old,he⟩,_⟩:=st;exact wpAny_pyIter_enum he h
section
def v6(K:Uy)(ta:TA):TI:=λσ H R=>ta σ H λvs H1=>∃a xs,vs=[.ref a]/\SqL K H1 a xs/\R (LB K a) H1
def v7{l:Expr}(f:Gl X "enumerate") (hm:X.mg "enumerate"=none) (ha:PA X [l] ta) (hs:autoParam (starEach [l] X.env=[(false,eval l X.env)]) az):PI X (.Tuple es k Ib) (.Call (.Name "enumerate" p) [l] [] pos) (v6 X.K ta):=by
 intro ac s σ H R I h;refine Call_ (kA I f hm (by decide +kernel:bootBuiltins "enumerate"=some (.type "enumerate")) (Su (cD (ha pos ac s σ H _ I h) λus s1 ⟨vs,H1,c,g,q1⟩=>?_) hs rfl));obtain⟨a,xs,e,i,q⟩:=q1;subst e;cases g with
 |cons r rr=>
  cases rr;cases r;obtain⟨its,n,pl,hz⟩:=c.list i;refine call_enumerate_list pl.isList λh' d j hsz kp=>?_;have m:L2.Inv X ac σ H1 {s1 with heap:=h'}:=c.kept (t':=s1.toks) kp;refine wpAny_pyIter_enum d ?_;refine⟨s1.heap.objs.size+1,[s1.heap.objs.size+1,s1.heap.objs.size],_,_,H1,rfl,m,xC a s1.heap.objs.size (s1.heap.objs.size+1) (Nat.succ_ne_self _),⟨⟨_,by simpa using d⟩,j⟩,λb hb=>?_,q⟩;rcases PB.mp hb with rfl|hb
  .exact c.tp (Ui _) (c.aT.fresh (Ui _))
  .have e:b=s1.heap.objs.size:=by simpa using hb
   subst e;exact c.tp (Pq _) (c.aT.fresh (Pq _))
end
def NR(osc:Scope)(N:List Str)(scope:Scope)(tN capN:List Str)(caps:List Nat):Bool:=
 (scope.kind==.function)&&scope.names.all (λy=>y.2 != .cell)&&scope.names.all (λy=>y.2 != .local || scope.names.lookup y.1==some .local)&&tN.all (λx=>scope.names.lookup x==some .local) &&
 scope.names.all (λy=>y.2 != .free ||(osc.names.lookup y.1==some .cell || osc.names.lookup y.1==some .free))&&(capN.zip caps).all (λp=>N[p.2]?==some p.1)&&(caps.length==capN.length) &&
 capN.all (λy=>osc.names.lookup y==some .cell || osc.names.lookup y==some .free)&&capN.all (λy=>scope.names.lookup y==some .free)&&decide (tN++capN).Nodup
def cB.of(h1:X.env.scope=osc)(h2:X.N=N)(h3:NR osc N scope tN capN caps=true):cB X scope tN capN caps:=by
 unfold NR at h3;simp only[Rj,TJ,Bool.or_eq_true,Sz,bne_iff_ne,R5,ne_eq]at h3;obtain⟨⟨⟨⟨⟨⟨⟨⟨⟨d,f⟩,g⟩,h⟩,i⟩,j⟩,l⟩,m⟩,n⟩,b⟩:=h3;subst h1 h2;refine⟨d,f,λy c o=>(g y c).resolve_left λz=>z o,h,λy c p=>(i y c).resolve_left λz=>z p,⟨λk y e=>?_,m,n,l⟩,b⟩;have q:k<capN.length:=(PF.mp e).1;have a:k<caps.length:=by lia
 refine⟨caps[k],by simp[a],?_⟩;have hm:(y,caps[k])∈capN.zip caps:=by
  have:(capN.zip caps)[k]?=some (y,caps[k]):=by rw[SL];exact⟨e,by simp[a]⟩
  exact PY this
 exact j _ hm
structure Fn(K:Uy) (mg:Str->Option UA) (x:Str) (st:Stmt) (ps:List Str) (f:Addr) (fd:FuncData):Prop where
 fu:CI K x x st f fd
 bi:Binds K fd ps []
 gl:mg x=some (.ref f)
def LC(F:List D->Res R):Sp:=λvs H Q _=>vs.length=1/\∃ds Ma r,IsAll H Ma ds vs/\F ds=.ok r/\∀v H',Same H H'->z6 (NO H Ma) H' v r->Q v H'
theorem mJ:∀ns:List Int,IsAll H m (ns.map D.int) (ns.map V.int)
 |[]=>rfl
 |n::r=>⟨.int n,r.map V.int,rfl,rfl,mJ r⟩
def GM(d:∀ns:List Int,ns.length<=63->∃f al,F [.lst (ns.map .int)]=.ok (.val (.bl true) f al))(H:Hp)(a:Addr)(ns:List Int)(g:ns.length<=63)(c:∃o,H a=some (.bP o (.lst (ns.map V.int)))) :
 LC F [.ref a] H (λv _=>v=.bl true) λ_ _ _=>False:=by
 obtain⟨f,al,e⟩:=d ns g;obtain⟨o,c⟩:=c;exact⟨rfl,[.lst (ns.map .int)],λb=>b=a,_,⟨_,[],rfl,⟨a,ns.map V.int,rfl,.inr ⟨o,c,rfl⟩,mJ ns⟩,rfl⟩,e,λv H' _ h=>h⟩
section
variable{P:Uz}{w:World}{K:Uy}{mg:Str->Option UA}{base:Heap}
def bJ.top(h:bJ P w K mg base CX k f fd ps (nU mg 1 F)):bJ P w K mg base CX k f fd ps (LC F):=h.imp λvs H Q E ⟨a,ds,Ma,r,is,e,q⟩=>⟨a,ds,Ma,is,by rw[e];exact q⟩
end
def GN(h:yP P w l H s (λ_ _ _=>False) e s'):False:=by obtain⟨_,_,_,_,_,_,_,_,_,_,_,_,_,_,_,z⟩:=h;exact z
section
open Classical in
def mK(H:Hp)(m:Addr->Prop)(x:D)(u:UA):Bool:=decide (∃d v,RelV v u/\Is H m d v/\jp d x=true)
def oW(r:RelV v u)(h:Is H m d v):mK H m x u=jp d x:=by
 unfold mK;cases q:jp d x with
 |true=>exact @P3 _ (Classical.propDecidable _) ⟨d,v,r,h,q⟩
 |false=>refine @QA _ (Classical.propDecidable _) λ⟨d',c,b,h',a⟩=>?_;have e:=L2.RelV.inj r b;subst e;have e:=Is.inj h h';subst e;rw[q]at a;cases a
theorem oX(I:L2.Inv X ac σ H s)(a:A.units+50<cLine)(b:Is H m' d x)(g:d.dep<=50)(c:RelV x v) :
 ∀{ds:List D}{vs:List V}{us:List UA},IsAll H m ds vs->Vals vs us->D.gn ds<=50->∀u∈us,SeqAt.EqAt A s u v (mK H m d u)
 |[],_,_,h,r,_=>λu a=>by cases h;cases r;cases a
 |e::ds,_,_,h,r,hd=>λu hm=>by
  obtain⟨y,w,rfl,h1,h2⟩:=h;have i:max e.dep (D.gn ds)<=50:=hd;cases r with
  |cons f j=>
   rcases PB.mp hm with rfl|hm
   .rw[oW f h1];exact z4 I.aT 50 A a (by lia) (by lia) (by lia) h1 b f c
   .exact oX I a b g c h2 j (by lia) u hm
end
end L3
namespace L3
open PySem PySem.Spec PyProof.Rows L2
section
variable{X:Cx}
def rQ(neg:Bool):R2:=λx y H Q=>∃a o,y=.ref a/\Fd H a x o/\Q (.bl (if neg then !o.isSome else o.isSome)) H
def fy(e:X.A.units+64<cLine):nJ X (compareOp .NotIn) (rQ true):=by intro ac s σ H x y v u Q I b c h;obtain⟨a,o,rfl,g,q⟩:=h;cases c;exact zD (by lia) I g b λf d=>⟨.bl _,H,d,rfl,q⟩
end
def getD:List DK->List D->DK->Option D
 |k'::ks,d::ds,k=>if k'=k then some d else getD ks ds k
 |_,_,_=>none
def xD(t:TupsIn H vs its):∀x∈its,H x.2=some (.tup ((iK x.1).map kV)):=by
 unfold TupsIn at t;induction t with
 |nil=>exact λx hx=>nomatch hx
 |cons q _ a=>
  intro x hx;rcases PB.mp hx with rfl|hx
  .exact q.2
  .exact a x hx
abbrev Md:=Int×Int×Int
def dd(l:List Int)(x:Int):List Int:=if x∈l then l else l++[x]
def Jo(xs:List Int):List Int:=xs.foldl dd []
def g1(a:List Md):List Int:=Jo (a.map (·.1))
def g2(a:List Md)(x:Int):List Int:=Jo ((a.filter λt=>decide (t.1=x)).map (·.2.1))
theorem jA:∀(k:List Int),IsAll H m (k.map .int) (k.map .int)
 |[]=>rfl
 |i::k=>⟨.int i,_,rfl,rfl,jA k⟩
end L3
namespace L3
open PySem PySem.Spec PyProof.Rows L2
section
variable{X:Cx}
def Jp:V->List V->Hp->VK->Prop:=λx xs H Q=>∃l vs ds d m a y j,x=.ref l/\xs=[y]/\Rd H l (.lst vs)/\IsAll H m ds vs/\Is H a d y/\(D.gn ds<=50/\d.dep<=50)/\ds.findIdx? (λe=>jp e d)=some j/\Q (.int ((j:Nat):Int)) H
def GO(P:X.A.units+64<cLine):C3 X "list.index" Jp:=by
 intro ac s σ H x vs v us Q I D E h;obtain⟨l,xs,ds,d,m,R,y,j,rfl,rfl,G,is,ix,hd,J,q⟩:=h;cases D;obtain⟨u,rfl,ru⟩:=E.one;obtain⟨z,its,n,r,e⟩:=(show ObjOk X.prog X.w H s.heap l (.lst xs)from zp I.aT G);have S:=r.length;obtain⟨g,o,p⟩:=RW.mp J;have K:=is.length;have b:j<its.length:=by lia
 have c:∀(k:Nat)(f:k<its.length)(a:k<ds.length),mK H m d its[k]=jp ds[k] d:=λk f a=>by
  obtain⟨w,L,M⟩:=is.get (i:=k) (d:=ds[k]) (by simp[a]);obtain⟨N,C,t⟩:=r.get L;have:its[k]=N:=by rw[Px f]at C;exact QH C
  rw[this];exact oW t M
 refine call_meets F.slot_list_index ⟨_,e,rfl⟩ F.entry_list_index (F.args_list_index_2 _ _) (SeqAt.list_indexAt l its.toArray n none #[] u (mK H m d) j (by simpa using b) ?_ ?_ ?_) ⟨e,?_,?_⟩
 .have:sizeLine<2^62:=by decide
  lia
 .simp only[List.getElem_toArray];rw[c j b g];exact o
 .intro k f B;have a:k<its.length:=by simpa using f
  simp only[List.getElem_toArray];rw[c k a (by lia)];have:=p k B;simpa using this
 .exact λw O=>oX I (by show X.A.units+1+50<cLine;lia) ix hd.2 ru is r hd.1 w (by simpa using O)
 .exact⟨.int j,H,I.tok _,⟨_,rfl⟩,q⟩
end
section
def v8(a b:Str):Prop:=0<b.length/\a.length<=100000/\(Txt.split a b).length<=100000/\(Builtin.Str.partsBetween a (Builtin.Str.occurrences a b 0 a.length (a.length+1)) b.length).length<=100000
instance (a b:Str):Decidable (v8 a b):=by unfold v8;infer_instance
end
section
def dH{kvs:List (bI×V)}(h:cZ kvs k=none):cg kvs k y=kvs++[(k,y)]:=by unfold cg;rw[iA,h,PK (by simp)]
end
abbrev IP:=Int×Int
def dp(l:List IP)(x:IP):List IP:=if x∈l then l else l++[x]
def h1(a:List Md):List IP:=(a.map λt=>(t.1,t.2.1)).foldl dp []
end L3
namespace L2
open PySem PySem.Spec PySem.Calls PyProof.Rows
section
def xE:bV X (.builtin "len") (λxs H Q=>∃(d:Addr)(kvs:List (bI×V))(u:HO),xs=[.ref d]/\(u=.dK kvs\/(u=.dT []/\kvs=[]))/\Rd H d u/\kvs.length<=sizeLine/\Q (.int kvs.length) H):=by
 intro ac s σ H xs us Q I r h;obtain⟨d,kvs,u,rfl,f,b,hz,q⟩:=h;obtain⟨w,rfl,g⟩:=dU r;cases g;have e:=b.ok I.aT;have c:(d==sysModules)=false/\∃vs,KV kvs vs/\s.heap.DictOf (aK X.prog X.w) d vs:=by
  rcases f with rfl|⟨rfl,rfl⟩
  .obtain⟨z,hd,vs,a,dd⟩:=e;exact⟨hd,vs,a,dd⟩
  .obtain⟨hd,dd⟩:=pG e;exact⟨hd,[],.nil,dd⟩
 obtain⟨hd,vs,a,dd⟩:=c;refine call_len_dict hd dd (by rw[<- a.length];rw[Qf]at hz;lia) ?_;exact⟨.int kvs.length,H,I.tok _,⟨_,by rw[a.length]⟩,q⟩
end
end L2
namespace L3
open PySem PySem.Spec PyProof.Rows L2
def GP{K KK:Uy}{mg:Str->Option UA}{x:Str}{st:Stmt}{ps:List Str}{f:Addr}{oc:UA}{od an:Option Addr}{osl:Array (Option UA)}{kV doc pm cdv ct:UA}(U:jg K KK)
 (l:K.lookup f=some ⟨oc,od,.func (fnOf x x (dL st) (cW st) (aC st) .none kV doc pm an cdv ct),osl⟩) (c:codeIn K cdv x=true) (g:mg x=some (.ref f))
 (h:∀(kV doc pm:UA)(an:Option Addr)(cdv ct:UA)(us:List UA),us.length=ps.length->bindArgs (fnOf x x (dL st) (cW st) (aC st) .none kV doc pm an cdv ct) ⟨us,[]⟩=pure (ps.zip us)) :
 Fn KK mg x st ps f (fnOf x x (dL st) (cW st) (aC st) .none kV doc pm an cdv ct):=
 have F:CI KK x x st f _:=zx (U.look _ _ l (λ_ _ z=>nomatch z)) (U.code c) (U.keep l)
 ⟨F,F.binds h,g⟩
end L3
namespace Pz
section
variable{κ α:Type}[DecidableEq κ]
abbrev MD(κ α:Type):=List (κ×List α)
def MD.get(d:MD κ α)(k:κ):List α:=((d.find? λx=>decide (x.1=k)).map (·.2)).getD []
def MD.has(d:MD κ α)(k:κ):Bool:=d.any λx=>decide (x.1=k)
def MD.app(d:MD κ α)(k:κ)(v:α):MD κ α:=if d.has k then d.map (λx=>if x.1=k then(x.1,x.2++[v])else x)else d++[(k,[v])]
def MD.drop(d:MD κ α)(k:κ):MD κ α:=d.filter λx=>decide (x.1≠k)
def MD.flat(d:MD κ α):List α:=d.flatMap (·.2)
abbrev MD.keys(d:MD κ α):List κ:=d.map (·.1)
structure MD.Ok(d:MD κ α):Prop where
 nk:d.keys.Nodup
 ne:∀x∈d,x.2≠[]
theorem dM(x:κ×List α)(d:MD κ α)(k:κ):MD.get (x::d) k=if x.1=k then x.2 else MD.get d k:=by grind [MD.get]
def has_iff{d:MD κ α}{k:κ}:d.has k=true↔k∈d.keys:=by
 unfold MD.has
 grind
def Ad{d:MD κ α}{k:κ}(h:k∉d.keys):d.get k=[]:=by
 induction d with
 |nil=>rfl
 |cons x r a=>grind [dM]
def Dy{d:MD κ α}(nd:d.keys.Nodup){k:κ}{l:List α}(h:(k,l)∈d):d.get k=l:=by
 induction d with
 |nil=>cases h
 |cons x r a=>grind [dM]
def pT{d:MD κ α}{k:κ}{v:α}(h:v∈d.get k):(k,d.get k)∈d:=by
 induction d with
 |nil=>cases h
 |cons x r a=>grind [dM]
def pU{d:MD κ α}{k:κ}{v:α}(h:k∉d.keys):d.map (λx=>if x.1=k then(x.1,x.2++[v])else x)=d:=by induction d<;>grind
def Ae(d:MD κ α)(k:κ)(v:α):(d.app k v).keys=if k∈d.keys then d.keys else d.keys++[k]:=by
 unfold MD.app;by_cases h:k∈d.keys
 .rw[PN (has_iff.mpr h),PN h];unfold MD.keys;rw[QC];exact QL λx _=>by grind
 .rw[PK (λq=>h (has_iff.mp q)),PK h];unfold MD.keys;rw[Qo];rfl
def mL{d:MD κ α}(O:d.Ok)(k:κ)(v:α):(d.app k v).Ok:=by
 constructor
 .rw[Ae];split
  .exact O.nk
  .rename_i h;exact Qj.mpr ⟨O.nk,by simp,λa ha b hb e=>by grind⟩
 .intro x c;unfold MD.app at c;split at c
  .obtain⟨y,f,rfl⟩:=Pt.mp c;split
   .simp
   .exact O.ne y f
  .rcases PP.mp c with h|h
   .exact O.ne x h
   .rw[Py]at h;subst h;simp
def lq{d:MD κ α}{k:κ}{l:List α}(h:k∉d.keys):MD.get (d++[(k,l)]) k=l:=by
 grind [MD.get]
def nW{d:MD κ α}{k a:κ}{l:List α}(h:k≠a):MD.get (d++[(k,l)]) a=d.get a:=by
 grind [MD.get]
def pV{d:MD κ α}{k:κ}{v:α}(h:k∈d.keys):MD.get (d.map (λx=>if x.1=k then(x.1,x.2++[v])else x)) k=d.get k++[v]:=by
 induction d with
 |nil=>cases h
 |cons x r a=>
  rw[PU,dM,dM];by_cases e:x.1=k
  .rw[PN e,PN (show x.1=k from e),PN e]
  .rw[PK e,PK e,PK e];rcases PB.mp h with q|q
   .exact(e q.symm).elim
   .exact a q
def uE{d:MD κ α}{k a:κ}{v:α}(h:k≠a):MD.get (d.map (λx=>if x.1=k then(x.1,x.2++[v])else x)) a=d.get a:=by
 induction d with
 |nil=>rfl
 |cons x r b=>grind [dM]
theorem pW(d:MD κ α)(k:κ)(v:α)(a:κ):(d.app k v).get a=if k=a then d.get k++[v]else d.get a:=by
 unfold MD.app;by_cases h:k∈d.keys
 .rw[PN (has_iff.mpr h)];by_cases e:k=a
  .subst e;rw[PN rfl,pV h]
  .rw[PK e,uE e]
 .rw[PK (λq=>h (has_iff.mp q))];by_cases e:k=a
  .subst e;rw[PN rfl,lq h,Ad h];rfl
  .rw[PK e,nW e]
def fG{d:MD κ α}(nd:d.keys.Nodup)(k:κ)(v:α):(d.app k v).flat.Perm (v::d.flat):=by
 unfold MD.app;by_cases h:k∈d.keys
 .rw[PN (has_iff.mpr h)];induction d with
  |nil=>cases h
  |cons x r b=>
   have a:=Qu.mp nd;unfold MD.flat at b ⊢;rw[PU,Rm,Rm];by_cases e:x.1=k
   .subst e;rw[PN rfl,pU a.1];show((x.2++[v])++_).Perm _;rw[Qm];exact Uu
   .rw[PK e];rcases PB.mp h with q|q
    .exact(e q.symm).elim
    .exact((RP _).append (b a.2 q)).trans Uu
 .rw[PK (λq=>h (has_iff.mp q))];unfold MD.flat;rw[RU];show(_++([v]++[])).Perm _;rw[QR];exact List.perm_append_singleton _ _
def xF(d:MD κ α)(k:κ):(d.drop k).keys=d.keys.filter λx=>decide (x≠k):=by unfold MD.drop MD.keys;rw[List.filter_map];rfl
def v9{d:MD κ α}(O:d.Ok)(k:κ):(d.drop k).Ok:=⟨by rw[xF];exact List.Pairwise.filter _ O.nk,λx a=>O.ne x (P_.mp a).1⟩
theorem xG{d:MD κ α}{k:κ}(h:k∉d.keys):d.drop k=d:=by induction d<;>grind [MD.drop]
def kF{d:MD κ α}(nd:d.keys.Nodup)(k:κ):d.flat.Perm (d.get k++(d.drop k).flat):=by
 induction d with
 |nil=>exact RP _
 |cons x r b=>
  have a:=Qu.mp nd;rw[dM];by_cases e:x.1=k
  .subst e;rw[PN rfl];have:MD.drop (x::r) x.1=r:=by grind [MD.drop,xG]
   rw[this];exact RP _
  .rw[PK e];have:MD.drop (x::r) k=x::MD.drop r k:=by grind [MD.drop]
   rw[this];unfold MD.flat at b ⊢;rw[Rm,Rm];refine((RP _).append (b a.2)).trans ?_;rw[<- Qm,<- Qm];exact List.perm_append_comm.append_right _
def mem_flat{d:MD κ α}{v:α}:v∈d.flat↔∃x∈d,v∈x.2:=QY
def jY(d:MD κ α){k:κ}{v:α}(h:v∈d.get k):v∈d.flat:=mem_flat.mpr ⟨_,pT h,h⟩
def lH(d:MD κ α)(k:κ):(d.get k).length<=d.flat.length:=by
 induction d with
 |nil=>exact Pq _
 |cons x r a=>grind [dM,MD.flat]
def gG{d:MD κ α}(O:d.Ok):d.length<=d.flat.length:=by
 have:∀d:MD κ α,(∀x∈d,x.2≠[])->d.length<=d.flat.length:=by
  intro d;induction d with
  |nil=>intro _;exact Pq _
  |cons x r a=>
   intro h;have h1:=a λy b=>h y (Pw _ b);have h2:0<x.2.length:=SX.mpr (h x Pu);unfold MD.flat at h1 ⊢
   grind
 exact this d O.ne
end
end Pz
namespace Pz
def lo:List Int->Int
 |[]=>0
 |x::r=>r.foldl (λa b=>if b<a then b else a) x
theorem uF:∀(r:List Int)(x:Int),r.foldl (λa b=>if b<a then b else a) x∈x::r/\∀y∈x::r,r.foldl (λa b=>if b<a then b else a) x<=y
 |[],x=>by grind
 |z::r,x=>by
  obtain⟨h1,h2⟩:=uF r (if z<x then z else x);rw[RI];constructor
  .grind
  .intro y c;have h3:=h2 _ Pu
   grind
def Af(h:l≠[]):lo l∈l:=by
 cases l with
 |nil=>exact(h rfl).elim
 |cons x r=>exact(uF r x).1
def Ag(h:y∈l):lo l<=y:=by
 cases l with
 |nil=>cases h
 |cons x r=>exact(uF r x).2 y h
structure qD(pile:Int->Int->Int):Prop where
 nn:∀{p l:Int},0<=p->0<=l->0<=pile p l
 ch:∀{p l:Int},0<=p->0<=l->∀k:Nat,pile p l<=k↔p/2^k=l/2^k
section
variable(P:qD pile)
include P
theorem qD.zero(a:0<=p)(b:0<=l):pile p l=0↔p=l:=by
 have h1:=P.nn a b;have h2:=P.ch a b 0
 grind
theorem qD.lt(a:0<=l)(f:l<=p)(c:l<=r)(h:pile p l<pile r l):p<r:=by
 have d:0<=p:=RX a f;have g:0<=r:=RX a c;obtain⟨k,j⟩:=Q8 (P.nn d a);have e1:=(P.ch d a k).mp (by lia);have e2:¬r/2^k=l/2^k:=λe=>by have:=(P.ch g a k).mpr e;lia
 have b:(0:Int)<2^k:=Int.pow_pos (by decide);have m:=Int.ediv_le_ediv b c;refine Int.not_le.mp λi=>?_;have n:=Int.ediv_le_ediv b i;lia
theorem qD.same(c:0<=l)(hm:l<=m)(g:l<=r)(h:pile m l<pile r l):pile r m=pile r l:=by
 have m0:0<=m:=RX c hm;have d:0<=r:=RX c g;have f:∀j:Nat,pile r m<=j↔pile r l<=j:=by
  intro j;rw[P.ch d m0,P.ch d c];by_cases n:pile m l<=j
  .rw[(P.ch m0 c j).mp n]
  .have hd:∀{a b:Int}{i:Nat},a/2^j=b/2^j->a/2^(j+i)=b/2^(j+i):=by intro a b i e;rw[Int.pow_add,<- Int.ediv_ediv_of_nonneg (TC (Int.pow_pos (by decide))),<- Int.ediv_ediv_of_nonneg (TC (Int.pow_pos (by decide))),e]
   obtain⟨k,o⟩:=Q8 (P.nn m0 c);obtain⟨i,rfl⟩ : ∃i,k=j+i:=⟨k-j,by lia⟩;constructor<;>intro e<;>exfalso
   .have e1:=hd (i:=i) e;rw[(P.ch m0 c (j+i)).mp (by lia)]at e1;have:=(P.ch d c (j+i)).mpr e1;lia
   .have:=(P.ch d c j).mpr e;lia
 obtain⟨a,ha⟩:=Q8 (P.nn d m0);obtain⟨b,hb⟩:=Q8 (P.nn d c);have h1:=f a;have h2:=f b;lia
end
section
variable{α:Type}
abbrev Q(α:Type):=MD Int (Int×α)
structure tJ(pile:Int->Int->Int) (last:Int) (d:Q α):Prop where
 ok:d.Ok
 l0:0<=last
 at_:∀x∈d,∀y∈x.2,x.1=pile y.1 last/\last<=y.1
def tJ.add(h:tJ pile last d)(a:α)(b:last<=p):tJ pile last (d.app (pile p last) (p,a)):=by
 refine⟨mL h.ok _ _,h.l0,λx hx y hy=>?_⟩;unfold MD.app at hx;split at hx
 .obtain⟨z,hz,rfl⟩:=Pt.mp hx;by_cases e:z.1=pile p last
  .rw[PN e]at hy ⊢;rcases PP.mp hy with hy|hy
   .exact h.at_ z hz y hy
   .rw[Py]at hy;subst hy;exact⟨e,b⟩
  .rw[PK e]at hy ⊢;exact h.at_ z hz y hy
 .rcases PP.mp hx with hx|hx
  .exact h.at_ x hx y hy
  .grind
def c9(pile:Int->Int->Int)(last:Int)(d:Q α)(l:List (Int×α)):Q α:=l.foldl (λd x=>d.app (pile x.1 last) x) d
theorem tJ.c9:∀{l:List (Int×α)}{d:Q α},tJ pile last d->(∀x∈l,last<=x.1)->tJ pile last (c9 pile last d l)
 |[],d,h,_=>h
 |x::l,d,h,a=>tJ.c9 (l:=l) (h.add x.2 (a x Pu)) λy b=>a y (Pw _ b)
theorem iI:∀{l:List (Int×α)}{d:Q α},d.Ok->(c9 pile last d l).flat.Perm (l++d.flat)
 |[],d,h=>RP _
 |x::l,d,h=>(iI (l:=l) (mL h _ _)).trans (((RP _).append (fG h.nk _ _)).trans Uu)
def ck(d:Q α):Int:=lo d.keys
def lowP(d:Q α):Int:=lo ((d.get (ck d)).map (·.1))
def mid(pile:Int->Int->Int)(d:Q α):Q α:=c9 pile (lowP d) (d.drop (ck d)) (d.get (ck d))
def dN(pile:Int->Int->Int)(d:Q α):List (Int×α):=(mid pile d).get 0
def left(pile:Int->Int->Int)(d:Q α):Q α:=(mid pile d).drop 0
structure IC(pile:Int->Int->Int) (last:Int) (d:Q α):Prop where
 ge:last<=lowP d
 ok:tJ pile (lowP d) (left pile d)
 eq:∀x∈dN pile d,x.1=lowP d
 lt:∀x∈(left pile d).flat,lowP d<x.1
 pm:d.flat.Perm (dN pile d++(left pile d).flat)
 ne:dN pile d≠[]
 k1:ck d∈d.keys
 k2:d.get (ck d)≠[]
 k3:0∈(mid pile d).keys
 o1:tJ pile (lowP d) (d.drop (ck d))
def xH(P:qD pile)(h:tJ pile last d)(m:d≠[]):IC pile last d:=by
 have k1:ck d∈d.keys:=Af (by simpa[MD.keys]using m);obtain⟨x0,f,n⟩:=Pt.mp k1;have s:d.get (ck d)=x0.2:=Dy h.ok.nk (by grind);have k2:d.get (ck d)≠[]:=by rw[s];exact h.ok.ne x0 f
 have hm:lowP d∈(d.get (ck d)).map (·.1):=Af (by simpa using k2);obtain⟨t,o,u⟩:=Pt.mp hm;have cU:∀y∈d.get (ck d),ck d=pile y.1 last/\last<=y.1:=λy b=>by rw[s]at b;have:=h.at_ x0 f y b;rw[n]at this;exact this
 have l:last<=lowP d:=by grind
 have l0:0<=lowP d:=RX h.l0 l;have kP:pile (lowP d) last=ck d:=by grind
 have g:∀y∈d.get (ck d),lowP d<=y.1:=λy b=>Ag (Pt.mpr ⟨y,b,rfl⟩);have i:∀x∈d.drop (ck d),∀y∈x.2,x.1=pile y.1 (lowP d)/\lowP d<y.1:=λx a y b=>by
  obtain⟨a,c⟩:=P_.mp a;have c:x.1≠ck d:=Qa c;have v:ck d<=x.1:=Ag (Pt.mpr ⟨x,a,rfl⟩);obtain⟨e1,e2⟩:=h.at_ x a y b;have j:pile (lowP d) last<pile y.1 last:=by grind
  exact⟨e1.trans (P.same h.l0 l e2 j).symm,P.lt h.l0 l e2 j⟩
 have o1:tJ pile (lowP d) (d.drop (ck d)):=⟨v9 h.ok _,l0,λx a y b=>⟨(i x a y b).1,TC (i x a y b).2⟩⟩;have k:tJ pile (lowP d) (mid pile d):=o1.c9 g;have p:d.flat.Perm (mid pile d).flat:=(kF h.ok.nk _).trans (iI o1.ok).symm;have q:(mid pile d).flat.Perm (dN pile d++(left pile d).flat):=kF k.ok.nk 0;have eq:∀x∈dN pile d,x.1=lowP d:=λx a=>by have:=k.at_ _ (pT a) x a;exact(P.zero (RX l0 this.2) l0).mp this.1.symm
 have lt:∀x∈(left pile d).flat,lowP d<x.1:=λx a=>by obtain⟨y,b,a⟩:=mem_flat.mp a;obtain⟨b,c⟩:=P_.mp b;have c:y.1≠0:=Qa c;obtain⟨e1,e2⟩:=k.at_ y b x a;have:¬x.1=lowP d:=λe=>c (e1.trans ((P.zero (RX l0 e2) l0).mpr e));lia
 have r:t∈dN pile d:=by
  have h1:t∈d.flat:=jY d o
  grind
 exact⟨l,⟨v9 k.ok _,l0,λx a=>k.at_ x (P_.mp a).1⟩,eq,lt,p.trans q,(λe=>by grind),k1,k2,Pt.mpr ⟨_,pT r,rfl⟩,o1⟩
end
end Pz
namespace Pz
abbrev Arr:=Int×Int×Int
abbrev Rule:=Int×Int×Int×List Int
abbrev xI:=Int×Option Int×Option Int
abbrev TD:=List (Arr×xI)
def bL(t:TD)(a:Arr):Option xI:=(t.find? λx=>decide (x.1=a)).map (·.2)
def tput(t:TD)(a:Arr)(v:xI):TD:=if(bL t a).isSome then t.map (λx=>if x.1=a then(x.1,v)else x)else t++[(a,v)]
structure PS where
 told:TD
 last:Int
 aH:Q Arr
 settled:MD (Int×Int) (Int×Int)
 aL:MD (Int×Int) (Int×Rule×Int)
abbrev RS:=MD (Int×Int) (Int×Rule)
section
variable(pile:Int->Int->Int)(rs:RS)
def gu(S:PS)(a:Arr)(p:Int):Bool:=match bL S.told a with
 |none=>true
 |some v=>decide (p<v.1)
def iJ(S:PS)(a:Arr)(p:Int)(n m:Option Int):PS:={S with told:=tput S.told a (p,n,m),aH:=S.aH.app (pile p S.last) (p,a)}
def bp(S:PS)(a:Arr)(p:Int)(n m:Option Int):PS:=if gu S a p then iJ pile S a p n m else S
def nth1(l:List Int):Int:=l[1]?.getD 0
def pX(S:PS)(num:Int)(r:Rule)(mid a:Int):PS:={S with aL:=S.aL.app (mid,nth1 r.2.2.2) (num,r,a)}
def first(S:PS)(num:Int)(r:Rule)(mid a:Int):PS:=(S.settled.get (mid,nth1 r.2.2.2)).foldl (λS x=>bp pile S (r.1,r.2.1,x.1) (a+x.2+1) (some num) (some mid)) (pX S num r mid a)
def note(S:PS)(a:Arr)(b:Int):PS:={S with settled:=S.settled.app (a.1,a.2.1) (a.2.2,b)}
def k7(a:Arr)(b:Int)(S:PS)(x:Int×Rule×Int):PS:=bp pile S (x.2.1.1,x.2.1.2.1,a.2.2) (x.2.2+b+1) (some x.1) (some a.1)
def cJ(a:Arr)(b:Int)(S:PS)(x:Int×Rule):PS:=if x.2.2.2.2.length=1 then bp pile S (x.2.1,x.2.2.1,a.2.2) (b+1) (some x.1) none else first pile S x.1 x.2 a.2.2 b
def settle(S:PS)(a:Arr)(b:Int):PS:=(rs.get (a.1,a.2.1)).foldl (cJ pile a b) ((S.aL.get (a.1,a.2.1)).foldl (k7 pile a b) (note S a b))
def bR(S:PS)(x:Int×Arr):Bool:=match bL S.told x.2 with
 |none=>false
 |some v=>decide (v.1=x.1)
def turn(S:PS)(x:Int×Arr):PS:=if bR S x then settle pile rs S x.2 x.1 else S
def batch(S:PS)(l:List (Int×Arr)):PS:=l.foldl (turn pile rs) S
def take(S:PS):PS:={S with last:=lowP S.aH,aH:=left pile S.aH}
end
def L:Nat:=16000000
structure js(S:PS):Prop where
 t:S.told.length<L
 p:S.aH.length<L
 pf:S.aH.flat.length<L
 s:S.settled.length<L
 sf:S.settled.flat.length<L
 l:S.aL.length<L
 lf:S.aL.flat.length<L
inductive Loop(pile:Int->Int->Int) (rs:RS):Nat->PS->PS->Prop where
 |done {S:PS}:S.aH=[]->Loop pile rs 0 S S
 |step {n:Nat} {S T:PS}:S.aH≠[]->tJ pile S.last S.aH->(∀x∈dN pile S.aH,bL S.told x.2≠none)->js S->js (batch pile rs (take pile S) (dN pile S.aH))->
  Loop pile rs n (batch pile rs (take pile S) (dN pile S.aH)) T->Loop pile rs (n+1) S T
theorem dz(x:Arr×xI)(t:TD)(a:Arr):bL (x::t) a=if x.1=a then some x.2 else bL t a:=by grind [bL]
def tget_none:bL t a=none↔a∉t.map (·.1):=by
 induction t with
 |nil=>simp[bL]
 |cons x r b=>grind [dz]
def mM(h:bL t a=some v):(a,v)∈t:=by
 induction t with
 |nil=>cases h
 |cons x r b=>grind [dz]
def rR(nd:(t.map (·.1)).Nodup)(h:(a,v)∈t):bL t a=some v:=by
 induction t with
 |nil=>cases h
 |cons x r b=>grind [dz]
def xJ(t:TD)(a:Arr)(v:xI):(tput t a v).map (·.1)=if a∈t.map (·.1)then t.map (·.1)else t.map (·.1)++[a]:=by
 unfold tput;cases h:bL t a with
 |none=>rw[PK (by simp),PK (tget_none.mp h),Qo];rfl
 |some w=>have:a∈t.map (·.1):=Pt.mpr ⟨_,mM h,rfl⟩;rw[PN (by simp),PN this,QC];exact QL λx _=>by grind
def Dz(h:(t.map (·.1)).Nodup)(a:Arr)(v:xI):((tput t a v).map (·.1)).Nodup:=by
 rw[xJ];split
 .exact h
 .rename_i q;exact Qj.mpr ⟨h,by simp,λx c b hb e=>by rw[Py]at hb;subst hb;subst e;exact q c⟩
def rS(t:TD)(a:Arr)(v:xI):t.length<=(tput t a v).length/\(tput t a v).length<=t.length+1:=by
 unfold tput;split
 .rw[Ps];lia
 .rw[PJ];simp
def gv(t:TD)(a:Arr)(v:xI)(b:Arr):bL (tput t a v) b=if a=b then some v else bL t b:=by
 unfold tput;cases h:bL t a with
 |none=>
  rw[PK (by simp)];have d:=tget_none.mp h;clear h;induction t with
  |nil=>rw[Sx,dz]
  |cons x r c=>grind [dz]
 |some w=>
  rw[PN (by simp)];have hm:a∈t.map (·.1):=Pt.mpr ⟨_,mM h,rfl⟩;clear h;by_cases e:a=b
  .subst e;rw[PN rfl];induction t with
   |nil=>cases hm
   |cons x r c=>grind [dz]
  .rw[PK e];clear hm;induction t with
   |nil=>rfl
   |cons x r c=>grind [dz]
structure fx(S T:PS):Prop where
 t:S.told.length<=T.told.length
 p:S.aH.length<=T.aH.length
 pf:S.aH.flat.length<=T.aH.flat.length
 s:S.settled.length<=T.settled.length
 sf:S.settled.flat.length<=T.settled.flat.length
 l:S.aL.length<=T.aL.length
 lf:S.aL.flat.length<=T.aL.flat.length
def fx.refl(S:PS):fx S S:=by
 grind [PS,fx]
def fx.trans(a:fx S T)(b:fx T U):fx S U:=⟨Qb a.t b.t,Qb a.p b.p,Qb a.pf b.pf,Qb a.s b.s,Qb a.sf b.sf,Qb a.l b.l,Qb a.lf b.lf⟩
def fx.fit(a:fx S T)(h:js T):js S:=⟨QS a.t h.t,QS a.p h.p,QS a.pf h.pf,QS a.s h.s,QS a.sf h.sf,QS a.l h.l,QS a.lf h.lf⟩
def ff{κ α:Type}[DecidableEq κ](d:MD κ α)(k:κ)(v:α):d.length<=(d.app k v).length/\d.flat.length<=(d.app k v).flat.length:=by
 unfold MD.app;split
 .rw[Ps];refine⟨Pq _,?_⟩;unfold MD.flat;rw[List.length_flatMap,List.length_flatMap,QC];induction d with
  |nil=>exact Pq _
  |cons x r a=>
   rename_i h;clear h;rw[PU,PU,Uo,Uo];refine Nat.add_le_add ?_ ?_
   .simp only[Function.comp];split<;>simp
   .clear a;induction r with
    |nil=>exact Pq _
    |cons y r a=>rw[PU,PU,Uo,Uo];exact Nat.add_le_add (by simp only[Function.comp];split<;>simp) a
 .rw[PJ];unfold MD.flat;rw[RU,PJ];lia
theorem cE{a:Type}(f:PS->a->PS)(h:∀S x,fx S (f S x)):∀(l:List a)(S:PS),fx S (l.foldl f S)
 |[],S=>.refl S
 |x::l,S=>(h S x).trans (cE f h l _)
def ci(S:PS)(a:Arr)(p:Int)(n m:Option Int):fx S (bp pile S a p n m):=by
 unfold bp;split
 .exact⟨(rS _ _ _).1,(ff _ _ _).1,(ff _ _ _).2,Pq _,Pq _,Pq _,Pq _⟩
 .exact .refl S
def uG(S:PS)(num:Int)(r:Rule)(mid a:Int):fx S (first pile S num r mid a):=fx.trans (T:=pX S num r mid a) ⟨Pq _,Pq _,Pq _,Pq _,Pq _,(ff _ _ _).1,(ff _ _ _).2⟩ (cE _ (λS x=>ci S _ _ _ _) _ _)
def jB(a:Arr)(b:Int)(S:PS)(x:Int×Rule):fx S (cJ pile a b S x):=by
 unfold cJ;split
 .exact ci _ _ _ _ _
 .exact uG _ _ _ _ _
def rT(S:PS)(a:Arr)(b:Int):fx S (settle pile rs S a b):=(fx.trans (S:=S) (T:=note S a b) ⟨Pq _,Pq _,Pq _,(ff _ _ _).1,(ff _ _ _).2,Pq _,Pq _⟩ (cE (k7 pile a b) (λS x=>ci S _ _ _ _) _ _)).trans (cE _ (jB a b) _ _)
def xK(S:PS)(x:Int×Arr):fx S (turn pile rs S x):=by
 unfold turn;split
 .exact rT _ _ _
 .exact .refl S
theorem iL{b:Type}(f:PS->b->PS){a:Arr}(h:∀S x,bL S.told a≠none->bL (f S x).told a≠none):∀(l:List b)(S:PS),bL S.told a≠none->bL (l.foldl f S).told a≠none
 |[],S,k=>k
 |x::l,S,k=>iL f h l _ (h S x k)
def mP(h:bL S.told b≠none):bL (bp pile S a p n m).told b≠none:=by
 unfold bp;split
 .show bL (tput _ _ _) _≠none;rw[gv];split
  .simp
  .exact h
 .exact h
def Ah(h:bL S.told b≠none):bL (cJ pile a p S x).told b≠none:=by
 unfold cJ;split
 .exact mP h
 .exact iL _ (λS x k=>mP k) _ _ (show bL (pX S _ _ _ _).told b≠none from h)
def DA(h:bL S.told b≠none):bL (turn pile rs S x).told b≠none:=by
 unfold turn;split
 .exact iL _ (λS x k=>Ah k) _ _ (iL (k7 pile _ _) (λS x k=>mP k) _ _ (show bL (note S _ _).told b≠none from h))
 .exact h
end Pz
namespace Pz
def Sd(S:PS)(a:Arr)(q:Int):Prop:=(a.2.2,q)∈S.settled.get (a.1,a.2.1)
def gd(S:PS)(a:Arr)(p:Int):Prop:=∃v,bL S.told a=some v/\v.1<=p
def JustP(sd:Arr->Int->Prop)(c:Int)(put:List Int)(t p:Int)(m:Option Int):Prop:=match put with
 |[]=>m=none/\p=1/\t=c
 |[x]=>m=none/\∃q,sd (c,x,t) q/\p=q+1
 |[x,y]=>∃d q1 q2,m=some d/\sd (c,x,d) q1/\sd (d,y,t) q2/\p=q1+q2+1
 |_=>False
def JustP.mono(h:∀a q,sd a q->sd' a q)(j:JustP sd c put t p m):JustP sd' c put t p m:=by
 match put,j with
 |[],j=>exact j
 |[x],⟨e,q,s,e2⟩=>exact⟨e,q,h _ _ s,e2⟩
 |[x,y],⟨d,q1,q2,e,s1,s2,e2⟩=>exact⟨d,q1,q2,e,h _ _ s1,h _ _ s2,e2⟩
section
variable(RL:List Rule)(M:List Arr)
def Just(sd:Arr->Int->Prop)(a:Arr)(v:xI):Prop:=match v.2.1 with
 |none=>v.2.2=none/\v.1=0/\a∈M
 |some i=>∃(j:Nat)(r:Rule),i=j/\RL[j]?=some r/\a.1=r.1/\a.2.1=r.2.1/\JustP sd r.2.2.1 r.2.2.2 a.2.2 v.1 v.2.2
theorem Just.mono(h:∀a q,sd a q->sd' a q)(j:Just RL M sd a v):Just RL M sd' a v:=by
 obtain⟨p,n,m⟩:=v;cases n with
 |none=>exact j
 |some i=>obtain⟨k,r,e1,e2,b,c,j⟩:=j;exact⟨k,r,e1,e2,b,c,j.mono h⟩
structure B(pile:Int->Int->Int) (U:List Arr) (S:PS) (rest:List (Int×Arr)):Prop where
 q:tJ pile S.last S.aH
 nd:S.aH.flat.Nodup
 nr:rest.Nodup
 tk:(S.told.map (·.1)).Nodup
 tu:∀a v,bL S.told a=some v->a∈U
 ju:∀a v,bL S.told a=some v->Just RL M (Sd S) a v
 ps:∀a v,bL S.told a=some v->0<=v.1
 sd:∀a p,Sd S a p->p<=S.last/\∃v,bL S.told a=some v/\v.1=p
 sp:∀a v,bL S.told a=some v->Sd S a v.1\/(v.1,a)∈S.aH.flat\/(v.1,a)∈rest
 it:∀p a,(p,a)∈S.aH.flat\/(p,a)∈rest->gd S a p
 ns:∀p a,(p,a)∈S.aH.flat\/(p,a)∈rest->¬Sd S a p
 m0:∀a v,bL S.told a=some v->a∈M->v=(0,none,none)
end
def rU(h:¬gu S a p=true):gd S a p:=by
 grind [gu,gd]
def fH(h:gu S a p=true)(e:bL S.told a=some v):p<v.1:=by unfold gu at h;rw[e]at h;exact Qa h
def i9(a:Arr)(p:Int)(n m:Option Int):gd (bp pile S a p n m) a p:=by
 unfold bp;by_cases h:gu S a p=true
 .rw[PN h];exact⟨(p,n,m),by show bL (tput _ _ _) _=_;rw[gv,PN rfl],SY _⟩
 .rw[PK h];exact rU h
def gH(h:gd S b q):gd (bp pile S a p n m) b q:=by
 unfold bp;by_cases k:gu S a p=true
 .rw[PN k];obtain⟨v,e,c⟩:=h;by_cases e2:a=b
  .subst e2;exact⟨(p,n,m),by show bL (tput _ _ _) _=_;rw[gv,PN rfl],TC (Int.lt_of_lt_of_le (fH k e) c)⟩
  .exact⟨v,by show bL (tput _ _ _) _=_;rw[gv,PK e2];exact e,c⟩
 .rw[PK k];exact h
def gI(a:Arr)(p:Int)(n m:Option Int):(bp pile S a p n m).settled=S.settled/\(bp pile S a p n m).aL=S.aL/\(bp pile S a p n m).last=S.last:=by unfold bp;split<;>exact⟨rfl,rfl,rfl⟩
def uH(h:S.aH.Ok)(a:Arr)(p:Int)(n m:Option Int)(b:x∈(bp pile S a p n m).aH.flat):x∈S.aH.flat\/x=(p,a):=by
 unfold bp at b;split at b
 .rcases PB.mp ((fG h.nk _ _).mem_iff.mp b)with e|e
  .exact .inr e
  .exact .inl e
 .exact .inl b
def oY(h:S.aH.Ok)(a:Arr)(p:Int)(n m:Option Int):(bp pile S a p n m).aH.flat.length<=S.aH.flat.length+1:=by
 unfold bp;split
 .exact T_ (fG h.nk _ _).length_eq
 .lia
theorem B.bp(b:B RL M pile U S rest)(i:Just RL M (Sd S) a (p,n,m))(j:a∈U)(f:S.last<=p)(o:(p,a)∉rest)(hs:¬Sd S a p)
 (hm:a∈M->gd S a 0\/(p,n,m)=(0,none,none)):B RL M pile U (bp pile S a p n m) rest:=by
 unfold Pz.bp;by_cases k:gu S a p=true
 .rw[PN k];have r:∀c q,Sd (iJ pile S a p n m) c q↔Sd S c q:=λc q=>Iff.rfl;have tg:∀c,bL (iJ pile S a p n m).told c=if a=c then some (p,n,m)else bL S.told c:=λc=>gv _ _ _ _;have pf:=fG b.q.ok.nk (pile p S.last) (p,a);have l:0<=p:=RX b.q.l0 f;have fl:∀x,x∈(iJ pile S a p n m).aH.flat↔x=(p,a)\/x∈S.aH.flat:=λx=>by show x∈(S.aH.app (pile p S.last) (p,a)).flat↔_;rw[pf.mem_iff,PB]
  refine⟨b.q.add a f,?_,b.nr,Dz b.tk _ _,λc v e=>?_,λc v e=>?_,λc v e=>?_,λc q h=>?_,λc v e=>?_,λq c h=>?_,λq c h=>?_,λc v e g=>?_⟩
  .refine pf.nodup_iff.mpr (Qu.mpr ⟨λh=>?_,b.nd⟩);obtain⟨v,e,d⟩:=b.it p a (.inl h);have:=fH k e;lia
  .rw[tg]at e;by_cases z:a=c
   .rw[<- z];exact j
   .rw[PK z]at e;exact b.tu c v e
  .rw[tg]at e;by_cases z:a=c
   .rw[PN z]at e;cases e;rw[<- z];exact i
   .rw[PK z]at e;exact b.ju c v e
  .rw[tg]at e;by_cases z:a=c
   .rw[PN z]at e;cases e;exact l
   .rw[PK z]at e;exact b.ps c v e
  .obtain⟨h1,v,e,d⟩:=b.sd c q h;refine⟨h1,v,?_,d⟩;rw[tg,PK (λz=>?_)]
   .exact e
   .subst z;have:=fH k e;lia
  .rw[tg]at e;by_cases z:a=c
   .rw[PN z]at e;cases e;subst z;exact .inr (.inl ((fl _).mpr (.inl rfl)))
   .rw[PK z]at e;rcases b.sp c v e with h|h|h
    .exact .inl h
    .exact .inr (.inl ((fl _).mpr (.inr h)))
    .exact .inr (.inr h)
  .have:(q,c)=(p,a)\/(q,c)∈S.aH.flat\/(q,c)∈rest:=by
    rcases h with h|h
    .rcases (fl _).mp h with h|h
     .exact .inl h
     .exact .inr (.inl h)
    .exact .inr (.inr h)
   rcases this with h|h
   .cases h;exact⟨(p,n,m),by grind,SY _⟩
   .obtain⟨v,e,d⟩:=b.it q c h;by_cases z:a=c
    .subst z;exact⟨(p,n,m),by grind,TC (Int.lt_of_lt_of_le (fH k e) d)⟩
    .exact⟨v,by grind,d⟩
  .rcases h with h|h
   .rcases (fl _).mp h with h|h
    .cases h;exact hs
    .exact b.ns q c (.inl h)
   .exact b.ns q c (.inr h)
  .rw[tg]at e;by_cases z:a=c
   .rw[PN z]at e;cases e;subst z;rcases hm g with⟨v,e,d⟩|h
    .have:=fH k e;lia
    .exact h
   .rw[PK z]at e;exact b.m0 c v e g
 .rw[PK k];exact b
end Pz
namespace Pz
section
variable(RL:List Rule)(M U:List Arr)(pile:Int->Int->Int)
structure BG(S:PS) (rest:List (Int×Arr)):Prop where
 b:B RL M pile U S rest
 gt:∀x∈S.aH.flat,S.last<x.1
 eq:∀x∈rest,x.1=S.last
 mh:∀a∈M,gd S a 0
structure Ext(S T:PS) (rest:List (Int×Arr)) (k:Nat):Prop where
 bg:BG RL M U pile T rest
 mono:∀a p,gd S a p->gd T a p
 se:T.settled=S.settled
 la:T.last=S.last
 len:T.aH.flat.length<=S.aH.flat.length+k
end
def oZ(h:T.settled=S.settled):Sd T=Sd S:=by unfold Sd;rw[h]
theorem Ext.trans(x:Ext RL M U pile S T rest k)(y:Ext RL M U pile T V rest l):Ext RL M U pile S V rest (k+l):=⟨y.bg,λa p h=>y.mono a p (x.mono a p h),y.se.trans x.se,y.la.trans x.la,by have:=x.len;have:=y.len;lia⟩
theorem BG.bp(g:BG RL M U pile S rest)(f:Just RL M (Sd S) a (p,n,m))(i:a∈U)(e:S.last<p):Ext RL M U pile S (bp pile S a p n m) rest 1:=by
 obtain⟨e1,e2,c⟩:=gI (pile:=pile) (S:=S) a p n m;have hb:=g.b.bp f i (TC e) (λh=>by have:=g.eq _ h;dsimp only at this;lia) (λh=>by have:=(g.b.sd _ _ h).1;lia) λh=>.inl (g.mh a h);refine⟨⟨hb,λx d=>?_,λx d=>by rw[c];exact g.eq x d,λb hb=>gH (g.mh b hb)⟩,λb q h=>gH h,e1,c,oY g.b.q.ok _ _ _ _⟩;rw[c];rcases uH g.b.q.ok _ _ _ _ d with h|rfl
 .exact g.gt x h
 .exact e
theorem jC{c:Type}(a:c->Arr)(fp:c->Int)(fn b:c->Option Int):∀(l:List c){S:PS},BG RL M U pile S rest->
 (∀x∈l,Just RL M (Sd S) (a x) (fp x,fn x,b x)/\a x∈U/\S.last<fp x)->
 Ext RL M U pile S (l.foldl (λS x=>bp pile S (a x) (fp x) (fn x) (b x)) S) rest l.length/\(l.foldl (λS x=>bp pile S (a x) (fp x) (fn x) (b x)) S).aL=S.aL/\
 ∀x∈l,gd (l.foldl (λS x=>bp pile S (a x) (fp x) (fn x) (b x)) S) (a x) (fp x)
 |[],S,g,_=>⟨⟨g,λ_ _ h=>h,rfl,rfl,Pq _⟩,rfl,λ_ h=>nomatch h⟩
 |x::l,S,g,h=>by
  obtain⟨j,u,lt⟩:=h x Pu;have e:=g.bp j u lt;obtain⟨r,d,f⟩:=jC a fp fn b l (S:=bp pile S (a x) (fp x) (fn x) (b x)) e.bg λy hy=>by rw[oZ e.se,e.la];exact h y (Pw _ hy)
  rw[RI,P8,Uv];refine⟨e.trans r,d.trans (gI _ _ _ _).2.1,λy hy=>?_⟩;rcases PB.mp hy with rfl|hy
  .exact r.mono _ _ (i9 _ _ _ _)
  .exact f y hy
structure sX(RL:List Rule) (M U:List Arr) (rs:RS):Prop where
 dX:∀r∈RL,r.2.2.2.length<=2
 to:∀{n r c x},(n,r)∈rs.get (c,x)->∃(j:Nat)(l:List Int),n=j/\RL[j]?=some r/\r.2.2.1=c/\r.2.2.2=x::l
 of:∀{j:Nat}{r:Rule}{x l},RL[j]?=some r->r.2.2.2=x::l->((j:Int),r)∈rs.get (r.2.2.1,x)
 u1:∀a∈M,a∈U
 u2:∀r∈RL,(r.1,r.2.1,r.2.2.1)∈U
 u3:∀r∈RL,∀s x t,(s,x,t)∈U->(r.1,r.2.1,t)∈U
def GQ(RL:List Rule)(S:PS):Prop:=∀(j:Nat)(r:Rule),RL[j]?=some r->match r.2.2.2 with
 |[]=>gd S (r.1,r.2.1,r.2.2.1) 1
 |[x]=>∀t q,Sd S (r.2.2.1,x,t) q->gd S (r.1,r.2.1,t) (q+1)
 |[x,y]=>∀d t q1 q2,Sd S (r.2.2.1,x,d) q1->Sd S (d,y,t) q2->gd S (r.1,r.2.1,t) (q1+q2+1)
 |_=>True
structure Lk(RL:List Rule) (S:PS):Prop where
 ok:S.aL.Ok
 to:∀{n r q d y},(n,r,q)∈S.aL.get (d,y)->∃(j:Nat)(x:Int),n=j/\RL[j]?=some r/\r.2.2.2=[x,y]/\Sd S (r.2.2.1,x,d) q
 of:∀{j:Nat}{r:Rule}{x y d q},RL[j]?=some r->r.2.2.2=[x,y]->Sd S (r.2.2.1,x,d) q->((j:Int),r,q)∈S.aL.get (d,y)
theorem Fk(d:sX RL M U rs)(f:a∈U)(K:0<=p):∀(l:List (Int×Rule)){S:PS},BG RL M U pile S rest->S.aL.Ok->S.settled.Ok->S.last=p->Sd S a p->(∀x∈l,x∈rs.get (a.1,a.2.1))->
 Ext RL M U pile S (l.foldl (cJ pile a p) S) rest (l.length*S.settled.flat.length)/\(l.foldl (cJ pile a p) S).aL.Ok/\(l.foldl (cJ pile a p) S).aL.flat.length<=S.aL.flat.length+l.length/\
 (∀k z,z∈(l.foldl (cJ pile a p) S).aL.get k↔z∈S.aL.get k\/∃x∈l,x.2.2.2.2.length=2/\k=(a.2.2,nth1 x.2.2.2.2)/\z=(x.1,x.2,p))/\
 (∀x∈l,x.2.2.2.2.length=1->gd (l.foldl (cJ pile a p) S) (x.2.1,x.2.2.1,a.2.2) (p+1))/\
 ∀x∈l,x.2.2.2.2.length=2->∀t q,Sd S (a.2.2,nth1 x.2.2.2.2,t) q->gd (l.foldl (cJ pile a p) S) (x.2.1,x.2.2.1,t) (p+q+1)
 |[],S,g,ok,so,D,ha,_=>⟨⟨g,λ_ _ h=>h,rfl,rfl,TF _ _⟩,ok,by simp,(λk z=>⟨.inl,λh=>h.elim id λ⟨x,h,_⟩=>(PV h).elim⟩),(λ_ h=>(PV h).elim),λ_ h=>(PV h).elim⟩
 |x::l,S,g,ok,so,D,ha,i=>by
  obtain⟨n,r⟩:=x;obtain⟨j,E,rfl,s,F,u⟩:=d.to (i _ Pu);have w:r∈RL:=PY s;have G:=d.dX r w;have n1:1<=S.settled.flat.length:=Tj (jY _ ha);have one:Ext RL M U pile S (cJ pile a p S ((j:Int),r)) rest S.settled.flat.length/\(cJ pile a p S ((j:Int),r)).aL.Ok/\(cJ pile a p S ((j:Int),r)).aL.flat.length<=S.aL.flat.length+1/\
   (∀k z,z∈(cJ pile a p S ((j:Int),r)).aL.get k↔z∈S.aL.get k\/(r.2.2.2.length=2/\k=(a.2.2,nth1 r.2.2.2)/\z=((j:Int),r,p)))/\
   (r.2.2.2.length=1->gd (cJ pile a p S ((j:Int),r)) (r.1,r.2.1,a.2.2) (p+1))/\
   (r.2.2.2.length=2->∀t q,Sd S (a.2.2,nth1 r.2.2.2,t) q->gd (cJ pile a p S ((j:Int),r)) (r.1,r.2.1,t) (p+q+1)):=by
   unfold cJ;by_cases h1:r.2.2.2.length=1
   .rw[PN (show((j:Int),r).2.2.2.2.length=1 from h1)];have c:r.2.2.2=[a.2.1]:=by
     rw[u]at h1 ⊢;cases E with
     |nil=>rfl
     |cons _ _=>simp at h1
    have e:=g.bp (a:=(r.1,r.2.1,a.2.2)) (p:=p+1) (n:=some (j:Int)) (m:=none) ⟨j,r,rfl,s,rfl,rfl,by rw[c];exact⟨rfl,p,by rw[F];exact ha,rfl⟩⟩ (d.u3 r w _ _ _ f) (by lia);obtain⟨_,e2,_⟩:=gI (pile:=pile) (S:=S) (r.1,r.2.1,a.2.2) (p+1) (some (j:Int)) none;refine⟨⟨e.bg,e.mono,e.se,e.la,Qb e.len (T5 n1 _)⟩,by rw[e2];exact ok,by rw[e2];lia,λk z=>?_,λ_=>i9 _ _ _ _,λh=>by lia⟩;rw[e2];exact⟨.inl,λh=>h.elim id λh=>by lia⟩
   .rw[PK (show ¬((j:Int),r).2.2.2.2.length=1 from h1)];have h2:r.2.2.2.length=2:=by rw[u]at h1 G ⊢;simp only[P8]at h1 G ⊢;lia
    obtain⟨y,c⟩ : ∃y,r.2.2.2=[a.2.1,y]:=by
     rw[u]at h2 ⊢
     match E,h2 with
     |[y],_=>exact⟨y,rfl⟩
    have L:nth1 r.2.2.2=y:=by rw[c];rfl
    have g1:BG RL M U pile (pX S (j:Int) r a.2.2 p) rest:=⟨⟨g.b.q,g.b.nd,g.b.nr,g.b.tk,g.b.tu,g.b.ju,g.b.ps,g.b.sd,g.b.sp,g.b.it,g.b.ns,g.b.m0⟩,g.gt,g.eq,g.mh⟩;obtain⟨e,e2,N⟩:=jC (λx:Int×Int=>(r.1,r.2.1,x.1)) (λx=>p+x.2+1) (λ_=>some (j:Int)) (λ_=>some a.2.2) (S.settled.get (a.2.2,nth1 r.2.2.2)) g1 λx hx=>by
     have H:Sd S (a.2.2,y,x.1) x.2:=by rw[L]at hx;exact hx
     obtain⟨_,v,I,Z⟩:=g.b.sd _ _ H;have:=g.b.ps _ _ I;refine⟨⟨j,r,rfl,s,rfl,rfl,?_⟩,d.u3 r w _ _ _ (g.b.tu _ _ I),by show S.last<_;lia⟩;rw[c];exact⟨a.2.2,p,x.2,rfl,by rw[F];exact ha,H,rfl⟩
    have O:∀k z,z∈(first pile S (j:Int) r a.2.2 p).aL.get k↔z∈S.aL.get k\/(r.2.2.2.length=2/\k=(a.2.2,nth1 r.2.2.2)/\z=((j:Int),r,p)):=λk z=>by
     show z∈(List.foldl _ _ _:PS).aL.get k↔_;rw[e2];show z∈(S.aL.app _ _).get k↔_;rw[pW];by_cases A:(a.2.2,nth1 r.2.2.2)=k
     .subst A;rw[PN rfl,PP,Py];exact⟨λh=>h.elim .inl λh=>.inr ⟨h2,rfl,h⟩,λh=>h.elim .inl λh=>.inr h.2.2⟩
     .rw[PK A];exact⟨.inl,λh=>h.elim id λh=>(A h.2.1.symm).elim⟩
    have lk:(first pile S (j:Int) r a.2.2 p).aL=S.aL.app (a.2.2,nth1 r.2.2.2) ((j:Int),r,p):=e2;refine⟨⟨e.bg,λb q h=>e.mono b q h,e.se,e.la,Qb e.len (T5 (lH _ _) _)⟩,by rw[lk];exact mL ok _ _,by rw[lk,(fG ok.nk _ _).length_eq];exact Pq _,O,λh=>by lia,λ_ t q h=>N (t,q) h⟩
  obtain⟨e,B,P,C,Q,R⟩:=one;obtain⟨o,T,r2,V,W,X⟩:=Fk d f K l e.bg B (by rw[e.se];exact so) (by rw[e.la];exact D) (by rw[oZ e.se];exact ha) λy Y=>i y (Pw _ Y);rw[RI,P8];rw[e.se]at o;refine⟨by rw[Nat.add_mul,Nat.one_mul,Uv];exact e.trans o,T,by lia,λk z=>?_,λx hx h=>?_,λx hx h t q J=>?_⟩
  .rw[V,C];constructor
   .rintro ((h|h)|⟨x,hx,h⟩)
    .exact .inl h
    .exact .inr ⟨_,Pu,h⟩
    .exact .inr ⟨x,Pw _ hx,h⟩
   .rintro (h|⟨x,hx,h⟩)
    .exact .inl (.inl h)
    .rcases PB.mp hx with rfl|hx
     .exact .inl (.inr h)
     .exact .inr ⟨x,hx,h⟩
  .rcases PB.mp hx with rfl|hx
   .exact o.mono _ _ (Q h)
   .exact W x hx h
  .rcases PB.mp hx with rfl|hx
   .exact o.mono _ _ (R h t q J)
   .exact X x hx h t q (by rw[oZ e.se];exact J)
end Pz
namespace Pz
section
variable(RL:List Rule)(M U:List Arr)(pile:Int->Int->Int)(C:Nat)
structure N8(S:PS) (k:Nat):Prop where
 so:S.settled.Ok
 G:∃G:List Arr,G.Nodup/\G.length=S.settled.flat.length/\∀a∈G,∃q,Sd S a q
 ln:S.aL.flat.length<=RL.length*S.settled.flat.length
 pn:S.aH.flat.length+k<=C+RL.length*(S.settled.flat.length*S.settled.flat.length)
structure I(S:PS) (rest:List (Int×Arr)):Prop where
 bg:BG RL M U pile S rest
 Ck:GQ RL S
 lk:Lk RL S
 cnt:N8 RL C S rest.length
end
def sd_note:Sd (note S a p) c q↔Sd S c q\/(a=c/\p=q):=by
 grind [Sd,note,pW]
theorem I.settle(N:sX RL M U rs)(D:∀k,(rs.get k).length<=RL.length)(i:I RL M U pile C S ((p,a)::rest))(V:bL S.told a=some v)(O:v.1=p) :
 I RL M U pile C (settle pile rs S a p) rest/\(settle pile rs S a p).settled.flat.length=S.settled.flat.length+1:=by
 have b:=i.bg.b;have pl:p=S.last:=i.bg.eq _ Pu;have p0:0<=p:=by rw[pl];exact b.q.l0
 have E:a∈U:=b.tu a v V;have nS:∀q,¬Sd S a q:=λq h=>by obtain⟨_,w,e,ew⟩:=b.sd a q h;rw[V]at e;cases e;rw[<- ew,O]at h;exact b.ns p a (.inr Pu) h
 have nr:=Qu.mp b.nr;have m:∀c q,Sd S c q->Sd (note S a p) c q:=λc q h=>sd_note.mpr (.inl h);have u:Sd (note S a p) a p:=sd_note.mpr (.inr ⟨rfl,rfl⟩);have g1:BG RL M U pile (note S a p) rest:=by
  refine⟨⟨b.q,b.nd,nr.2,b.tk,b.tu,λc w e=>(b.ju c w e).mono RL M m,b.ps,λc q h=>?_,λc w e=>?_,λq c h=>?_,λq c h k=>?_,b.m0⟩,i.bg.gt,λx A=>i.bg.eq x (Pw _ A),i.bg.mh⟩
  .rcases sd_note.mp h with h|⟨rfl,rfl⟩
   .exact b.sd c q h
   .exact⟨Int.le_of_eq pl,v,V,O⟩
  .rcases b.sp c w e with h|h|h
   .exact .inl (m _ _ h)
   .exact .inr (.inl h)
   .rcases PB.mp h with h|h
    .cases h;exact .inl u
    .exact .inr (.inr h)
  .exact b.it q c (h.elim .inl λh=>.inr (Pw _ h))
  .rcases sd_note.mp k with k|⟨rfl,rfl⟩
   .exact b.ns q c (h.elim .inl λh=>.inr (Pw _ h)) k
   .rcases h with h|h
    .have:=i.bg.gt _ h;dsimp only at this;lia
    .exact nr.1 h
 have so1:(note S a p).settled.Ok:=mL i.cnt.so _ _;have n1:(note S a p).settled.flat.length=S.settled.flat.length+1:=(fG i.cnt.so.nk _ _).length_eq;obtain⟨e1,Z,h1⟩:=jC (λx:Int×Rule×Int=>(x.2.1.1,x.2.1.2.1,a.2.2)) (λx=>x.2.2+p+1) (λx=>some x.1) (λ_=>some a.1) (S.aL.get (a.1,a.2.1)) g1 λx A=>by obtain⟨n,r,q⟩:=x;obtain⟨j,y,rfl,o,B,s⟩:=i.lk.to A;obtain⟨_,w,tw,hw⟩:=b.sd _ _ s;have:=b.ps _ _ tw;refine⟨⟨j,r,rfl,o,rfl,rfl,?_⟩,N.u3 r (PY o) _ _ _ E,by show S.last<q+p+1;lia⟩;show JustP _ r.2.2.1 r.2.2.2 _ _ _;rw[B];exact⟨a.1,q,p,rfl,m _ _ s,u,rfl⟩
 generalize W:(S.aL.get (a.1,a.2.1)).foldl (λS x=>bp pile S (x.2.1.1,x.2.1.2.1,a.2.2) (x.2.2+p+1) (some x.1) (some a.1)) (note S a p)=F at e1 Z h1;have s2:F.settled=(note S a p).settled:=e1.se;have H:Sd F=Sd (note S a p):=oZ s2;have P:F.aL=S.aL:=Z;obtain⟨e2,k1,k2,k3,X,k5⟩:=Fk (rs:=rs) N E p0 (rs.get (a.1,a.2.1)) e1.bg (by rw[P];exact i.lk.ok) (by grind) (by rw[e1.la,pl];rfl) (by rw[H];exact u) λx A=>A;have eT:(rs.get (a.1,a.2.1)).foldl (cJ pile a p) F=Pz.settle pile rs S a p:=by rw[<- W];rfl
 rw[eT]at e2 k1 k2 k3 X k5;generalize Pz.settle pile rs S a p=T at e2 k1 k2 k3 X k5;have Q:T.settled=(note S a p).settled:=e2.se.trans s2;have g:∀c q,Sd T c q↔Sd S c q\/(a=c/\p=q):=λc q=>by rw[oZ Q];exact sd_note
 have hm:∀{j:Nat}{r:Rule}{x d l},RL[j]?=some r->r.2.2.2=x::l->a=(r.2.2.1,x,d)->((j:Int),r)∈rs.get (a.1,a.2.1):=λo O h=>by rw[h];exact N.of o O
 have mono:∀c q,gd S c q->gd T c q:=λc q h=>e2.mono _ _ (e1.mono _ _ h);refine⟨⟨e2.bg,?_,⟨k1,?_,?_⟩,⟨by grind,?_,?_,?_⟩⟩,by grind⟩
 .intro j r o;have hc:=i.Ck j r o;cases f:r.2.2.2 with
  |nil=>rw[f]at hc;exact mono _ _ hc
  |cons x ys=>
   cases ys with
   |nil=>
    rw[f]at hc;intro t q s;rcases(g _ _).mp s with h|⟨h,rfl⟩
    .exact mono _ _ (hc t q h)
    .obtain rfl:a.2.2=t:=by rw[h]
     exact X ((j:Int),r) (hm o f h) (by rw[f];rfl)
   |cons y zs=>
    cases zs with
    |cons _ _=>trivial
    |nil=>
     rw[f]at hc;intro d t q1 q2 Y J;have ny:nth1 r.2.2.2=y:=by rw[f];rfl
     rcases(g _ _).mp Y with K|⟨K,rfl⟩
     .rcases (g _ _).mp J with R|⟨R,rfl⟩
      .exact mono _ _ (hc d t q1 q2 K R)
      .obtain rfl:a.2.2=t:=by rw[R]
       exact e2.mono _ _ (h1 ((j:Int),r,q1) (by rw[R];exact i.lk.of o f K))
     .obtain rfl:a.2.2=d:=by rw[K]
      refine k5 ((j:Int),r) (hm o f K) (by rw[f];rfl) t q2 ?_;rw[ny,H,<- oZ Q];exact J
 .intro n r q d y h;rcases(k3 _ _).mp h with h|⟨x,A,L,hk,hz⟩
  .rw[P]at h;obtain⟨j,x,e1,e2,e3,e4⟩:=i.lk.to h;exact⟨j,x,e1,e2,e3,(g _ _).mpr (.inl e4)⟩
  .obtain⟨n',r'⟩:=x;obtain⟨rfl,hz⟩:=Prod.mk.inj hz;obtain⟨rfl,s⟩:=Prod.mk.inj hz;obtain⟨j,l,rfl,o,hc,f⟩:=N.to A;obtain⟨rfl,B⟩:=Prod.mk.inj hk;have L:r.2.2.2.length=2:=L;have B:y=nth1 r.2.2.2:=B;rw[f]at L B;refine⟨j,a.2.1,rfl,o,?_,(g _ _).mpr (.inr ⟨by rw[hc],s.symm⟩)⟩;rcases l with _|⟨z,_|_⟩
   .cases L
   .rw[f,B];rfl
   .cases L
 .intro j r x y d q o f s;rw[k3];rcases(g _ _).mp s with h|⟨h,rfl⟩
  .rw[P];exact .inl (i.lk.of o f h)
  .exact .inr ⟨((j:Int),r),hm o f h,by rw[f];rfl,by rw[f,h];rfl,rfl⟩
 .obtain⟨G,g1,g2,g3⟩:=i.cnt.G;refine⟨a::G,Qu.mpr ⟨λh=>?_,g1⟩,by grind,λc hc=>?_⟩
  .obtain⟨q,s⟩:=g3 a h;exact nS q s
  .rcases PB.mp hc with rfl|hc
   .exact⟨p,(g _ _).mpr (.inr ⟨rfl,rfl⟩)⟩
   .obtain⟨q,s⟩:=g3 c hc;exact⟨q,(g _ _).mpr (.inl s)⟩
 .have:=i.cnt.ln;have:=D (a.1,a.2.1);rw[Q,n1,Up,Nat.mul_one];rw[P]at k2;lia
 .have c1:=i.cnt.pn;have c2:=e1.len;have c3:=e2.len;have c4:=i.cnt.ln;have c5:=lH S.aL (a.1,a.2.1);have c6:(rs.get (a.1,a.2.1)).length*F.settled.flat.length<=RL.length*(S.settled.flat.length+1):=by rw[s2,n1];exact Nat.mul_le_mul_right _ (D _)
  rw[P8]at c1;have c7:(note S a p).aH.flat.length=S.aH.flat.length:=rfl;rw[Q,n1];have c8:RL.length*((S.settled.flat.length+1)*(S.settled.flat.length+1))=RL.length*(S.settled.flat.length*S.settled.flat.length)+RL.length*S.settled.flat.length+RL.length*(S.settled.flat.length+1):=by rw[Nat.add_mul,Nat.one_mul,Up RL.length,Up S.settled.flat.length,Nat.mul_one,Up RL.length (S.settled.flat.length*S.settled.flat.length)]
  rw[c8];lia
def I.skip(i:I RL M U pile C S (x::rest))(h:¬bR S x=true):I RL M U pile C S rest:=by
 have b:=i.bg.b;refine⟨⟨⟨b.q,b.nd,(Qu.mp b.nr).2,b.tk,b.tu,b.ju,b.ps,b.sd,λc w e=>?_,λq c h=>b.it q c (h.elim .inl λh=>.inr (Pw _ h)),λq c h=>b.ns q c (h.elim .inl λh=>.inr (Pw _ h)),b.m0⟩,i.bg.gt,λy a=>i.bg.eq y (Pw _ a),i.bg.mh⟩,i.Ck,i.lk,i.cnt.so,i.cnt.G,i.cnt.ln,by have:=i.cnt.pn;rw[P8]at this;lia⟩;rcases b.sp c w e with k|k|k
 .exact .inl k
 .exact .inr (.inl k)
 .grind [bR]
theorem I.batch(c:sX RL M U rs)(b:∀k,(rs.get k).length<=RL.length):∀(l:List (Int×Arr)){S:PS},I RL M U pile C S l->
 I RL M U pile C (batch pile rs S l) []/\S.settled.flat.length<=(batch pile rs S l).settled.flat.length/\((batch pile rs S l).settled.flat.length=S.settled.flat.length->batch pile rs S l=S)
 |[],S,i=>⟨i,Pq _,λ_=>rfl⟩
 |x::l,S,i=>by
  show I RL M U pile C (Pz.batch pile rs (turn pile rs S x) l) []/\_<=(Pz.batch pile rs (turn pile rs S x) l).settled.flat.length/\((Pz.batch pile rs (turn pile rs S x) l).settled.flat.length=_->Pz.batch pile rs (turn pile rs S x) l=S);unfold turn;by_cases h:bR S x=true
  .rw[PN h];obtain⟨p,a⟩:=x;unfold bR at h;cases e:bL S.told a with
   |none=>rw[show((p,a):Int×Arr).2=a from rfl,e]at h;cases h
   |some v=>rw[show((p,a):Int×Arr).2=a from rfl,e]at h;obtain⟨j,n⟩:=i.settle c b e (Qa h);obtain⟨d,f,g⟩:=I.batch c b l j;exact⟨d,by grind,λq=>by grind⟩
  .rw[PK h];exact I.batch c b l (i.skip h)
structure Top(RL:List Rule) (M U:List Arr) (pile:Int->Int->Int) (C:Nat) (S:PS):Prop where
 b:B RL M pile U S []
 mh:∀a∈M,gd S a 0
 Ck:GQ RL S
 lk:Lk RL S
 cnt:N8 RL C S 0
def I.top(i:I RL M U pile C S []):Top RL M U pile C S:=⟨i.bg.b,i.bg.mh,i.Ck,i.lk,i.cnt⟩
theorem Top.take(P:qD pile)(t:Top RL M U pile C S)(d:S.aH≠[]):I RL M U pile C (take pile S) (dN pile S.aH):=by
 have b:=t.b;have k:=xH P b.q d;have mem:∀x,x∈S.aH.flat↔x∈(left pile S.aH).flat\/x∈dN pile S.aH:=λx=>by rw[k.pm.mem_iff,PP];exact Or.comm
 obtain⟨n1,n2,_⟩:=Qj.mp (k.pm.nodup_iff.mp b.nd);have no:∀{q c},(q,c)∉([]:List (Int×Arr)):=λh=>nomatch h;refine⟨⟨⟨k.ok,n2,n1,b.tk,b.tu,b.ju,b.ps,λa p h=>⟨RX (b.sd a p h).1 k.ge,(b.sd a p h).2⟩,λa v e=>?_,λp a h=>b.it p a (.inl ((mem _).mpr h)),λp a h=>b.ns p a (.inl ((mem _).mpr h)),b.m0⟩,k.lt,k.eq,t.mh⟩,t.Ck,⟨t.lk.ok,t.lk.to,t.lk.of⟩,t.cnt.so,t.cnt.G,t.cnt.ln,?_⟩
 .rcases b.sp a v e with h|h|h
  .exact .inl h
  .exact .inr ((mem _).mp h)
  .exact(no h).elim
 .have h1:=k.pm.length_eq;rw[PJ]at h1;have h2:=t.cnt.pn;show(left pile S.aH).flat.length+(dN pile S.aH).length<=_;show _<=C+RL.length*(S.settled.flat.length*S.settled.flat.length);lia
theorem bF{α:Type}[DecidableEq α]:∀(l m:List α),l.Nodup->(∀x∈l,x∈m)->l.length<=m.length
 |[],m,_,_=>PQ _
 |x::l,m,nd,h=>by
  have c:=h x Pu;have a:=Qu.mp nd;have:=bF l (m.erase x) a.2 λy b=>(List.mem_erase_of_ne (λ(e:y=x)=>a.1 (by grind))).mpr (h y (Pw _ b))
  grind
def Top.dX(t:Top RL M U pile C S):S.settled.flat.length<=U.length/\S.told.length<=U.length:=by
 obtain⟨G,g1,g2,c⟩:=t.cnt.G;constructor
 .rw[<- g2];exact bF G U g1 λa ha=>by obtain⟨q,d⟩:=c a ha;obtain⟨_,v,e,_⟩:=t.b.sd a q d;exact t.b.tu a v e
 .have:=bF (S.told.map (·.1)) U t.b.tk λa ha=>by obtain⟨x,f,rfl⟩:=Pt.mp ha;exact t.b.tu x.1 x.2 (rR t.b.tk f)
  rwa [Ps]at this
def Top.fit(t:Top RL M U pile C S)(c:C+RL.length*(U.length*U.length)<L)(d:RL.length*U.length<L)(e:U.length<L):js S:=by obtain⟨a,f⟩:=t.dX;have g:=gG t.b.q.ok;have h:=gG t.cnt.so;have i:=gG t.lk.ok;have j:=t.cnt.pn;have k:RL.length*(S.settled.flat.length*S.settled.flat.length)<=RL.length*(U.length*U.length):=SZ _ (SQ a a);have l:=t.cnt.ln;have m:RL.length*S.settled.flat.length<=RL.length*U.length:=SZ _ a;constructor<;>lia
def Top.loop(P:qD pile)(s:sX RL M U rs)(f:∀k,(rs.get k).length<=RL.length)(m:C+RL.length*(U.length*U.length)<L)(o:RL.length*U.length<L)(p:U.length<L) :
 ∀(a b:Nat)(S:PS),Top RL M U pile C S->U.length-S.settled.flat.length<=a->S.aH.flat.length<=b->∃n T,Loop pile rs n S T/\Top RL M U pile C T/\T.aH=[]:=by
 have step:∀S,Top RL M U pile C S->S.aH≠[]->let S2:=batch pile rs (Pz.take pile S) (dN pile S.aH);Top RL M U pile C S2/\(∀n T,Loop pile rs n S2 T->Loop pile rs (n+1) S T)/\
  (S.settled.flat.length<S2.settled.flat.length\/S2.settled.flat.length=S.settled.flat.length/\S2.aH.flat.length<S.aH.flat.length):=by
  intro S t c;obtain⟨i,h1,h2⟩:=I.batch s f _ (t.take P c);have t2:=i.top;refine⟨t2,λn T l=>.step c t.b.q (λx u=>?_) (t.fit m o p) (t2.fit m o p) l,?_⟩
  .obtain⟨v,e,_⟩:=t.b.it x.1 x.2 (.inl ((xH P t.b.q c).pm.mem_iff.mpr (PP.mpr (.inl u))));rw[e];simp
  have k:=xH P t.b.q c;by_cases e:(batch pile rs (Pz.take pile S) (dN pile S.aH)).settled.flat.length=S.settled.flat.length
  .refine .inr ⟨e,?_⟩;rw[h2 e];show(left pile S.aH).flat.length<_;rw[k.pm.length_eq,PJ];have:=SX.mpr k.ne;lia
  .have h1:S.settled.flat.length<=(batch pile rs (Pz.take pile S) (dN pile S.aH)).settled.flat.length:=h1;exact .inl (by lia)
 intro a;induction a with
 |zero=>
  intro b;induction b with
  |zero=>intro S t _ hb;have:S.aH=[]:=Qw.mp (by have:=gG t.b.q.ok;lia);exact⟨0,S,.done this,t,this⟩
  |succ b g=>
   intro S t ha hb;by_cases c:S.aH=[]
   .exact⟨0,S,.done c,t,c⟩
   obtain⟨t2,d,hd⟩:=step S t c;have:=t2.dX.1;obtain⟨n,T,l,r⟩:=g _ t2 (by rcases hd with h|h<;>lia) (by rcases hd with h|h<;>lia);exact⟨_,T,d _ _ l,r⟩
 |succ a j=>
  intro b;induction b with
  |zero=>intro S t _ hb;have:S.aH=[]:=Qw.mp (by have:=gG t.b.q.ok;lia);exact⟨0,S,.done this,t,this⟩
  |succ b g=>
   intro S t ha hb;by_cases c:S.aH=[]
   .exact⟨0,S,.done c,t,c⟩
   obtain⟨t2,d,hd⟩:=step S t c;have:=t2.dX.1;rcases hd with h|h
   .obtain⟨n,T,l,r⟩:=j _ _ t2 (by lia) (Pq _);exact⟨_,T,d _ _ l,r⟩
   .obtain⟨n,T,l,r⟩:=g _ t2 (by lia) (by lia);exact⟨_,T,d _ _ l,r⟩
end Pz
namespace Pz
def en:List Rule->Nat->List (Int×Rule)
 |[],_=>[]
 |r::l,k=>((k:Int),r)::en l (k+1)
theorem en_mem:∀{l:List Rule}{k:Nat}{n:Int}{r:Rule},(n,r)∈en l k↔∃j:Nat,n=((k+j:Nat):Int)/\l[j]?=some r
 |[],k,n,r=>⟨λh=>(PV h).elim,λ⟨j,_,h⟩=>by simp at h⟩
 |x::l,k,n,r=>by
  unfold en;rw[PB,en_mem];constructor
  .rintro (h|⟨j,rfl,h⟩)
   .obtain⟨rfl,rfl⟩:=Prod.mk.inj h;exact⟨0,rfl,rfl⟩
   .exact⟨j+1,by lia,by simpa using h⟩
  .rintro⟨j,rfl,h⟩;cases j with
   |zero=>left;simp at h;subst h;rfl
   |succ j=>exact .inr ⟨j,by lia,by simpa using h⟩
theorem mQ:∀(l:List Rule)(k:Nat),(en l k).length=l.length:=by intro l;induction l<;>grind [en]
def fV(d:RS)(x:Int×Rule):RS:=if x.2.2.2.2.length>0 then d.app (x.2.2.2.1,x.2.2.2.2[0]?.getD 0) x else d
def bU(RL:List Rule):RS:=(en RL 0).foldl fV []
def xL(d:RS)(x:Int×Rule)(k:Int×Int)(z:Int×Rule):z∈(fV d x).get k↔z∈d.get k\/(z=x/\∃y l,x.2.2.2.2=y::l/\k=(x.2.2.2.1,y)):=by
 unfold fV;cases h:x.2.2.2.2 with
 |nil=>grind
 |cons y l=>
  rw[PN (by simp),pW]
  grind
theorem pY:∀(l:List (Int×Rule))(d:RS)(k:Int×Int)(z:Int×Rule),z∈(l.foldl fV d).get k↔z∈d.get k\/(z∈l/\∃y a,z.2.2.2.2=y::a/\k=(z.2.2.2.1,y))
 |[],d,k,z=>⟨.inl,λq=>q.elim id λq=>(PV q.1).elim⟩
 |x::l,d,k,z=>by
  rw[RI,pY l,xL,PB];constructor
  .rintro ((h|⟨rfl,h⟩)|⟨h1,h2⟩)
   .exact .inl h
   .exact .inr ⟨.inl rfl,h⟩
   .exact .inr ⟨.inr h1,h2⟩
  .rintro (h|⟨rfl|h1,h2⟩)
   .exact .inl (.inl h)
   .exact .inl (.inr ⟨rfl,h2⟩)
   .exact .inr ⟨h1,h2⟩
theorem uI:∀(l:List (Int×Rule))(d:RS),d.Ok->(l.foldl fV d).Ok/\(l.foldl fV d).flat.length<=d.flat.length+l.length
 |[],d,h=>⟨h,Pq _⟩
 |x::l,d,h=>by
  rw[RI,P8];have:(fV d x).Ok/\(fV d x).flat.length<=d.flat.length+1:=by
   unfold fV;split
   .exact⟨mL h _ _,T_ (fG h.nk _ _).length_eq⟩
   .exact⟨h,by lia⟩
  obtain⟨a,b⟩:=uI l _ this.1;exact⟨a,by lia⟩
theorem rV{κ α:Type}:MD.Ok (κ:=κ) (α:=α) []:=⟨Qn,λ_ h=>(PV h).elim⟩
def GR(RL:List Rule):(bU RL).Ok/\(bU RL).flat.length<=RL.length:=by
 grind [bU,en,MD.flat,uI,rV,mQ]
def S0:PS:=⟨[],0,[],[],[]⟩
variable(pile:Int->Int->Int)
def g9(S:PS)(a:Arr):PS:=bp pile S a 0 none none
def eV(S:PS)(x:Int×Rule):PS:=if x.2.2.2.2.length=0 then bp pile S (x.2.1,x.2.2.1,x.2.2.2.1) 1 (some x.1) none else S
def iN(RL:List Rule)(M:List Arr):PS:=(en RL 0).foldl (eV pile) (M.foldl (g9 pile) S0)
variable{pile}
structure yT(RL:List Rule) (M U:List Arr) (pile:Int->Int->Int) (S:PS) (k:Nat):Prop where
 b:B RL M pile U S []
 l0:S.last=0
 s0:S.settled=[]
 k0:S.aL=[]
 len:S.aH.flat.length<=k
def yT.no(h:yT RL M U pile S k)(a:Arr)(q:Int):¬Sd S a q:=by unfold Sd;rw[h.s0];exact λh=>(PV h).elim
theorem yT.bp(h:yT RL M U pile S k)(c:Just RL M (Sd S) a (p,n,m))(d:a∈U)(e:0<=p)(hm:a∈M->gd S a 0\/(p,n,m)=(0,none,none)):yT RL M U pile (bp pile S a p n m) (k+1):=by obtain⟨e1,e2,f⟩:=gI (pile:=pile) (S:=S) a p n m;exact⟨h.b.bp c d (by rw[h.l0];exact e) (λh=>(PV h).elim) (h.no _ _) hm,by rw[f];exact h.l0,by rw[e1];exact h.s0,by rw[e2];exact h.k0,Qb (oY h.b.q.ok _ _ _ _) (Nat.add_le_add_right h.len 1)⟩
def Me:yT RL M U pile S0 0:=by have no:∀{α:Type}{x:α},x∉([]:List α):=λh=>(PV h).elim;exact⟨⟨⟨rV,SY _,λ_ h=>(no h).elim⟩,Qn,Qn,Qn,(λ_ _ h=>nomatch h),(λ_ _ h=>nomatch h),(λ_ _ h=>nomatch h),(λ_ _ h=>(no h).elim),(λ_ _ h=>nomatch h),(λ_ _ h=>h.elim (λh=>(no h).elim) λh=>(no h).elim),(λ_ _ h=>h.elim (λh=>(no h).elim) λh=>(no h).elim),(λ_ _ h=>nomatch h)⟩,rfl,rfl,rfl,Pq _⟩
theorem Jq:∀(l:List Arr){S:PS}{k:Nat},yT RL M U pile S k->(∀a∈l,a∈M/\a∈U)->yT RL M U pile (l.foldl (g9 pile) S) (k+l.length)/\(∀a p,gd S a p->gd (l.foldl (g9 pile) S) a p)/\∀a∈l,gd (l.foldl (g9 pile) S) a 0
 |[],S,k,h,_=>⟨h,λ_ _ h=>h,λ_ h=>(PV h).elim⟩
 |a::l,S,k,h,c=>by
  obtain⟨h1,h2⟩:=c a Pu;have e:=h.bp (a:=a) (p:=0) (n:=none) (m:=none) ⟨rfl,rfl,h1⟩ h2 (SY _) λ_=>.inr rfl;obtain⟨f,d,g⟩:=Jq l e λb hb=>c b (Pw _ hb);rw[RI,P8,Uv l.length,<- Nat.add_assoc];refine⟨f,λb p h=>d b p (gH h),λb hb=>?_⟩;rcases PB.mp hb with rfl|hb
  .exact d _ _ (i9 _ _ _ _)
  .exact g b hb
theorem Jr(u2:∀r∈RL,(r.1,r.2.1,r.2.2.1)∈U):∀(l:List (Int×Rule)){S:PS}{k:Nat},yT RL M U pile S k->(∀a∈M,gd S a 0)->(∀x∈l,∃j:Nat,x.1=j/\RL[j]?=some x.2)->
 yT RL M U pile (l.foldl (eV pile) S) (k+l.length)/\(∀a p,gd S a p->gd (l.foldl (eV pile) S) a p)/\∀x∈l,x.2.2.2.2=[]->gd (l.foldl (eV pile) S) (x.2.1,x.2.2.1,x.2.2.2.1) 1
 |[],S,k,h,_,_=>⟨h,λ_ _ h=>h,λ_ h=>(PV h).elim⟩
 |x::l,S,k,h,hm,c=>by
  obtain⟨j,e1,e2⟩:=c x Pu;have one:yT RL M U pile (eV pile S x) (k+1)/\(∀a p,gd S a p->gd (eV pile S x) a p)/\(x.2.2.2.2=[]->gd (eV pile S x) (x.2.1,x.2.2.1,x.2.2.2.1) 1):=by
   unfold eV;by_cases h0:x.2.2.2.2.length=0
   .rw[PN h0];have e:=h.bp (a:=(x.2.1,x.2.2.1,x.2.2.2.1)) (p:=1) (n:=some x.1) (m:=none) ⟨j,x.2,e1,e2,rfl,rfl,by rw[Qw.mp h0];exact⟨rfl,rfl,rfl⟩⟩ (u2 _ (PY e2)) (by decide) λh=>.inl (hm _ h);exact⟨e,λb p h=>gH h,λ_=>i9 _ _ _ _⟩
   .rw[PK h0];exact⟨⟨h.b,h.l0,h.s0,h.k0,Nat.le_succ_of_le h.len⟩,λ_ _ h=>h,λe=>(h0 (by rw[e];rfl)).elim⟩
  obtain⟨o1,d,g⟩:=one;obtain⟨i,f,o⟩:=Jr u2 l o1 (λa ha=>d a 0 (hm a ha)) λb hb=>c b (Pw _ hb);rw[RI,P8,Uv l.length,<- Nat.add_assoc];refine⟨i,λb p h=>f b p (d b p h),λb hb e=>?_⟩;rcases PB.mp hb with rfl|hb
  .exact f _ _ (g e)
  .exact o b hb e
structure Set(RL:List Rule) (M U:List Arr):Prop where
 dX:∀r∈RL,r.2.2.2.length<=2
 u1:∀a∈M,a∈U
 u2:∀r∈RL,(r.1,r.2.1,r.2.2.1)∈U
 u3:∀r∈RL,∀s x t,(s,x,t)∈U->(r.1,r.2.1,t)∈U
 big:M.length+RL.length+RL.length*(U.length*U.length)<L
 Lu:RL.length*U.length<L
 Lo:U.length<L
def Set.Ll(h:Set RL M U):sX RL M U (bU RL):=by
 refine⟨h.dX,λ{n r c x} q=>?_,λ{j r x l} e1 e2=>?_,h.u1,h.u2,h.u3⟩
 .rcases (pY _ _ _ _).mp q with q|⟨q,y,l,e,k⟩
  .exact(PV q).elim
  .obtain⟨j,e1,e2⟩:=en_mem.mp q
   grind
 .exact(pY _ _ _ _).mpr (.inr ⟨en_mem.mpr ⟨j,by grind,e1⟩,x,l,e2,rfl⟩)
def xM(h:Set RL M U):Top RL M U pile (M.length+RL.length) (iN pile RL M):=by
 obtain⟨f,p,e⟩:=Jq (RL:=RL) (M:=M) (U:=U) (pile:=pile) M Me λa ha=>⟨ha,h.u1 a ha⟩;obtain⟨c,g,i⟩:=Jr h.u2 (en RL 0) f e λx k=>by obtain⟨j,e1,e2⟩:=en_mem.mp k;exact⟨j,by grind,e2⟩
 have c:yT RL M U pile (iN pile RL M) _:=c;refine⟨c.b,λa ha=>g a 0 (e a ha),λj r m=>?_,⟨by rw[c.k0];exact rV,λ{n r q d y} h=>by rw[c.k0]at h;exact(PV h).elim,λ_ _ h=>(c.no _ _ h).elim⟩,⟨by rw[c.s0];exact rV,⟨[],Qn,by rw[c.s0];rfl,λ_ h=>(PV h).elim⟩,by rw[c.k0];exact PQ _,?_⟩⟩
 .cases o:r.2.2.2 with
  |nil=>exact i ((j:Int),r) (en_mem.mpr ⟨j,by grind,m⟩) o
  |cons x l=>
   match l with
   |[]=>exact λt q h=>(c.no _ _ h).elim
   |[y]=>exact λd t q1 q2 h=>(c.no _ _ h).elim
   |_::_::_=>trivial
 .have:=c.len;rw[mQ]at this;lia
def At(t:TD)(a:Arr)(q:Int):Prop:=∃w,bL t a=some w/\w.1=q
def Mg(t:TD)(a:Arr)(q:Int):Prop:=∃w,bL t a=some w/\w.1<=q
structure Good(RL:List Rule) (M U:List Arr) (t:TD):Prop where
 nd:(t.map (·.1)).Nodup
 u:∀a v,bL t a=some v->a∈U
 ju:∀a v,bL t a=some v->Just RL M (At t) a v
 ps:∀a v,bL t a=some v->0<=v.1
 m0:∀a∈M,bL t a=some (0,none,none)
 Ck:∀(j:Nat)(r:Rule),RL[j]?=some r->match r.2.2.2 with
  |[]=>Mg t (r.1,r.2.1,r.2.2.1) 1
  |[x]=>∀d q,At t (r.2.2.1,x,d) q->Mg t (r.1,r.2.1,d) (q+1)
  |[x,y]=>∀d e q1 q2,At t (r.2.2.1,x,d) q1->At t (d,y,e) q2->Mg t (r.1,r.2.1,e) (q1+q2+1)
  |_=>True
def Top.good(h:Top RL M U pile C S)(e:S.aH=[]):Good RL M U S.told:=by
 have hs:∀a q,Sd S a q↔At S.told a q:=λa q=>by
  constructor
  .intro k;exact(h.b.sd a q k).2
  .rintro⟨w,k,rfl⟩;rcases h.b.sp a w k with k|k|k
   .exact k
   .rw[e]at k;exact(PV k).elim
   .exact(PV k).elim
 refine⟨h.b.tk,h.b.tu,λa v k=>(h.b.ju a v k).mono RL M λa q=>(hs a q).mp,h.b.ps,λa ha=>?_,λj r g=>?_⟩
 .obtain⟨v,k,_⟩:=h.mh a ha;rw[k,h.b.m0 a v k ha]
 .have c:=h.Ck j r g;cases f:r.2.2.2 with
  |nil=>rw[f]at c;exact c
  |cons x l=>
   rw[f]at c
   match l with
   |[]=>exact λt q k=>c t q ((hs _ _).mpr k)
   |[y]=>exact λd t q1 q2 k1 k2=>c d t q1 q2 ((hs _ _).mpr k1) ((hs _ _).mpr k2)
   |_::_::_=>trivial
def Set.run(P:qD pile)(h:Set RL M U):js (iN pile RL M)/\∃n T,Loop pile (bU RL) n (iN pile RL M) T/\Good RL M U T.told:=by have t:=xM (pile:=pile) h;obtain⟨n,T,l,t2,e⟩:=t.loop P h.Ll (λk=>Qb (lH _ k) (GR RL).2) h.big h.Lu h.Lo _ _ _ (Pq _) (Pq _);exact⟨t.fit h.big h.Lu h.Lo,n,T,l,t2.good e⟩
end Pz
namespace Pz
def DB(x y k:Nat):(x ||| y)-(x &&& y)<2^k↔x/2^k=y/2^k:=by
 have c:(x ||| y)/2^k=x/2^k ||| y/2^k:=by rw[<- Rr,<- Rr,<- Rr,Nat.shiftRight_or_distrib]
 have d:(x &&& y)/2^k=x/2^k &&& y/2^k:=by rw[<- Rr,<- Rr,<- Rr,Nat.shiftRight_and_distrib]
 have e:(x ||| y)%2^k=x%2^k ||| y%2^k:=Nat.or_mod_two_pow;have f:(x &&& y)%2^k=x%2^k &&& y%2^k:=Nat.and_mod_two_pow;have a:0<2^k:=Nat.two_pow_pos k;have g:=Nat.div_add_mod (x ||| y) (2^k);have i:=Nat.div_add_mod (x &&& y) (2^k);have j:=Uw (x ||| y) a;have l:x/2^k &&& y/2^k<=x/2^k:=Nat.and_le_left;have m:x/2^k &&& y/2^k<=y/2^k:=Nat.and_le_right;have n:x/2^k<=x/2^k ||| y/2^k:=Nat.left_le_or;have o:y/2^k<=x/2^k ||| y/2^k:=Nat.right_le_or;have p:x%2^k &&& y%2^k<=x%2^k:=Nat.and_le_left;have q:x%2^k<=x%2^k ||| y%2^k:=Nat.left_le_or;constructor
 .intro h;refine Nat.le_antisymm ?_ ?_
  all_goals
   refine Nat.not_lt.mp λr=>?_;have b:(x &&& y)/2^k+1<=(x ||| y)/2^k:=by lia
   have hm:=SZ (2^k) b;rw[Up,Nat.mul_one]at hm;lia
 .grind
def DC(z k:Nat):(if((z:Int)==0)=true then 0 else(z:Int).natAbs.log2+1)<=k↔z<2^k:=by
 rw[Int.natAbs_natCast];by_cases h:z=0
 .subst h;rw[PN (by decide)];exact⟨λ_=>Nat.two_pow_pos k,λ_=>PQ _⟩
 .have:¬((z:Int)==0)=true:=by simpa using h
  rw[PK this];exact Nat.log2_lt h
end Pz
namespace L4
open PySem PySem.Spec PyProof.Rows L2 L3
section
variable{κ:Type}[DecidableEq κ]
abbrev DX(κ:Type):=List (κ×Addr×List V)
abbrev DX.kv(xs:DX κ):List (κ×V):=xs.map λx=>(x.1,V.ref x.2.1)
structure DL(mk:List (κ×V)->HO) (H:Hp) (a:Addr) (xs:DX κ):Prop where
 root:H a=some (mk xs.kv)
 qG:∀x∈xs,H x.2.1=some (.lst x.2.2)
 nk:(xs.map (·.1)).Nodup
 na:(xs.map (·.2.1)).Nodup
def cX(a:Addr)(xs:DX κ)(b:Addr):Prop:=b=a\/∃x∈xs,b=x.2.1
def fW(xs:DX κ)(k:κ):Option (Addr×List V):=(xs.find? λx=>decide (x.1=k)).map (·.2)
def kG(xs:DX κ)(k:κ)(v:V):DX κ:=xs.map λx=>if x.1=k then(x.1,x.2.1,x.2.2++[v])else x
def jD(xs:DX κ)(k:κ):cZ xs.kv k=(fW xs k).map λp=>.ref p.1:=by
 induction xs with
 |nil=>rfl
 |cons x r a=>
  unfold fW at a ⊢;show cZ ((x.1,V.ref x.2.1)::DX.kv r) k=_;rw[Q9];by_cases h:x.1=k
  .rw[fC h,P3 h];rfl
  .rw[fD h,QA h,a]
def xN(xs:DX κ)(k:κ)(v:V):(kG xs k v).kv=xs.kv:=by unfold kG DX.kv;rw[QC];apply QL;intro x _;show((if x.1=k then(x.1,x.2.1,x.2.2++[v])else x).1,V.ref (if x.1=k then(x.1,x.2.1,x.2.2++[v])else x).2.1)=_;split<;>rfl
def mR{e:Type}(f:κ×Addr×List V->e)(g:∀a b c d,f (a,b,c)=f (a,b,d))(xs:DX κ)(k:κ)(v:V):(kG xs k v).map f=xs.map f:=by
 unfold kG;rw[QC];apply QL;intro x _;show f (if x.1=k then(x.1,x.2.1,x.2.2++[v])else x)=_;split
 .exact g _ _ _ _
 .rfl
def dP{xs:DX κ}(h:fW xs k=some p):(k,p)∈xs:=by unfold fW at h;obtain⟨x,c,rfl⟩:=QV.mp h;have h1:=List.find?_some c;have h2:=List.mem_of_find?_eq_some c;have e:x.1=k:=Qa h1;obtain⟨a,b⟩:=x;dsimp only at e;subst e;exact h2
def xO{xs:DX κ}(h:fW xs k=none):k∉xs.map (·.1):=λa=>by obtain⟨x,b,rfl⟩:=Pt.mp a;unfold fW at h;have:=List.find?_eq_none.mp (Option.map_eq_none_iff.mp h) x b;simp at this
variable{mk:List (κ×V)->HO}
def DL.old(f:∀q ws,mk q≠.lst ws)(G:DL mk H a xs)(m:fW xs k=some p)(hm:H' p.1=some (.lst (p.2++[v])))(kp:∀c u,H c=some u->c≠p.1->H' c=some u):DL mk H' a (kG xs k v):=by
 have g:=dP m;have h:a≠p.1:=λe=>by have:=G.qG _ g;dsimp only at this;rw[<- e,G.root]at this;exact f _ _ (QH this)
 refine⟨by rw[xN];exact kp _ _ G.root h,λx n=>?_,by rw[mR _ (λ_ _ _ _=>rfl)];exact G.nk,by rw[mR _ (λ_ _ _ _=>rfl)];exact G.na⟩;obtain⟨y,l,rfl⟩:=Pt.mp n;by_cases e:y.1=k
 .rw[PN e];have:y=(k,p):=by
   have h1:(xs.map (·.1)).Nodup:=G.nk;obtain⟨i,d⟩:=PX.mp l;obtain⟨j,b⟩:=PX.mp g;have e1:(xs.map (·.1))[i]?=some k:=by rw[PR,d];exact Q1 some e
   have e2:(xs.map (·.1))[j]?=some k:=by rw[PR,b];rfl
   have:i=j:=(Tu (PF.mp e1).1 h1).mp (e1.trans e2.symm);subst this;rw[d]at b;exact QH b
  subst this;exact hm
 .rw[PK e];refine kp _ _ (G.qG y l) λq=>e ?_;obtain⟨i,d⟩:=PX.mp l;obtain⟨j,b⟩:=PX.mp g;have e1:(xs.map (·.2.1))[i]?=some p.1:=by rw[PR,d];exact Q1 some q
  have e2:(xs.map (·.2.1))[j]?=some p.1:=by rw[PR,b];rfl
  have:i=j:=(Tu (PF.mp e1).1 G.na).mp (e1.trans e2.symm);subst this;rw[d]at b;rw[QH b]
def DL.new(g:∀q ws,mk q≠.lst ws)(G:DL mk H a xs)(i:fW xs k=none)(j:H l=none)(hm:H' l=some (.lst [v]))(ha:H' a=some (mk (xs.kv++[(k,.ref l)])))(kp:∀c u,H c=some u->c≠a->H' c=some u):DL mk H' a (xs++[(k,l,[v])]):=by
 have nl:∀x∈xs,x.2.1≠l:=λx d e=>by have:=G.qG x d;rw[e,j]at this;cases this
 refine⟨by grind,λx d=>?_,?_,?_⟩
 .rcases PP.mp d with h|h
  .refine kp _ _ (G.qG x h) λe=>?_;have:=G.qG x h;rw[e,G.root]at this;exact g _ _ (QH this)
  .rw[Py]at h;subst h;exact hm
 .rw[Qo,Qj];exact⟨G.nk,by simp,λb hb c f e=>by rw[PU,RO,Py]at f;subst f;subst e;exact xO i hb⟩
 .rw[Qo,Qj];exact⟨G.na,by simp,λb hb c f e=>by rw[PU,RO,Py]at f;subst f;subst e;obtain⟨x,d,q⟩:=Pt.mp hb;exact nl x d q⟩
end
def Reads(t:TE)(σ:L2.St)(H:Hp)(v:V):Prop:=∀Q:VK,Q v H->t σ H Q
def Makes(t:TE)(σ:L2.St)(H:Hp)(ws:List V):Prop:=∀Q:VK,(∀p,H p=none->Q (.ref p) (upd H p (.tup ws)))->t σ H Q
section
variable{K:Uy}
def Reads.va(h:σ[i]?=some (some v)):Reads (ao i) σ H v:=λ_ q=>⟨_,h,q⟩
def Reads.k:Reads (tC v) σ H v:=λ_ q=>q
def Reads.op(ha:Reads ta σ H x)(hb:Reads tb σ H y)(h:∀Q:VK,Q z H->r x y H Q):Reads (bv r ta tb) σ H z:=λQ q=>ha _ (hb _ (h Q q))
def Reads.ix(h:Reads ta σ H (.ref b))(hs:H b=some (.tup ws))(e:yO ws n=some v):Reads (bv (nK K) ta (tC (.int n))) σ H v:=h.op .k λ_ q=>⟨b,ws,n,v,rfl,rfl,SqT.of hs,e,q⟩
def Reads.fld(h:Reads ta σ H (.ref o))(a:∃dx,H o=some (.ins C dx fs))(cl:qC K C)(n:NoAttr K C f)(b:fs.lookup f=some v):Reads (eG K ta f) σ H v:=λQ q=>by obtain⟨dx,a⟩:=a;exact h _ ⟨o,C,dx,_,_,rfl,a,cl,n,b,q⟩
def GS(h:Reads ta σ H (.ref o))(a:∃dx,H o=some (.ins C dx fs))(cl:qC K C)(n:NoAttr K C f)(b:fs.lookup f=some v)(q:Q v H):eG K ta f σ H Q:=Reads.fld h a cl n b _ q
def ReadsA(t:TA)(σ:L2.St)(H:Hp)(vs:List V):Prop:=∀Q:List V->Hp->Prop,Q vs H->t σ H Q
def ReadsA.ni:ReadsA aF σ H []:=λ_ q=>q
def ReadsA.c(h:Reads ta σ H v)(k:ReadsA tr σ H vs):ReadsA (au ta tr) σ H (v::vs):=λ_ q=>h _ (k _ q)
def Makes.t(h:ReadsA tr σ H ws)(l:Nat.ble ws.length 9=true):Makes (dc tr) σ H ws:=λ_ q=>h _ ⟨Qb (Sy l) (by decide),q⟩
def nX(h:ReadsA tr σ H ws)(l:Nat.ble ws.length 9=true)(k:∀p,H p=none->Q (.ref p) (upd H p (.tup ws))):dc tr σ H Q:=Makes.t h l _ k
def rW(h:Reads ta σ H (.ref b))(a:∃dx,H b=some (.ins C dx fs))(c:fs.lookup m=none)(ha:ReadsA tr σ H vs)(k:sp (.ref b::(vs++dvs)) H Q E):eS C m sp dvs E ta tr σ H Q:=by obtain⟨dx,a⟩:=a;exact h _ ⟨b,dx,fs,rfl,a,c,ha _ k⟩
def yR{Q:L2.St->Hp->Prop}(a:H b=some (.tup [v,w]))(k:Q ((σ.set i (some v)).set j (some w)) H):dZ K 2 (aW (aA i) (aW (aA j) dY)) (.ref b) σ H Q:=⟨b,_,rfl,SqT.of a,rfl,_,_,rfl,_,_,rfl,rfl,k⟩
def gw{t u:TS}{D:Ends}(h:Reads te σ H (.bl c))(k1:c=true->t D σ H)(k2:¬c=true->u D σ H):dD (bQ te) t u D σ H:=h _ ⟨_,rfl,ub k1 k2⟩
end
def kH{κ:Type}[DecidableEq κ](xs:DX κ)(k:κ)(l:Addr)(v:V):DX κ:=if(fW xs k).isSome then kG xs k v else xs++[(k,l,[v])]
def mS(K:Uy)(to tk te:TE):TE:=qZ K "list" dG (qZ K "dict" uy to (au tk (au (eJ aF) aF))) (au te aF)
def v_{κ:Type}[DecidableEq κ]{mk:List (κ×V)->HO}(o:∀q ws,mk q≠.lst ws){K:Uy}{te:TE}{σ:L2.St}{H:Hp}{a l:Addr}{xs:DX κ}{k:κ}{ws:List V}{C:Hp->Prop}(G:DL mk H a xs)(i:H l=none)
 (r:∀H',(∀c u,H c=some u->c≠a->H' c=some u)->Makes te σ H' ws) (E:∀x∈xs,x.2.2.length<16000000)
 (B:∀(l p:Addr)(H':Hp),H l=none->H p=none->H' p=some (.tup ws)->DL mk H' a (kH xs k l (.ref p))->(∀c u,H c=some u->¬cX a xs c->H' c=some u)->C H') :
 (∃v,cZ xs.kv k=some v/\I_ K "list" v (upd H l (.lst []))/\au te aF σ (upd H l (.lst [])) λxs w=>dG v xs w λ_ H'=>C H')\/(cZ xs.kv k=none/\I_ K "list" (.ref l) (upd (upd H l (.lst [])) a (mk (cg xs.kv k (.ref l))))/\au te aF σ (upd (upd H l (.lst [])) a (mk (cg xs.kv k (.ref l)))) λxs w=>dG (.ref l) xs w λ_ H'=>C H'):=by
 have sz:∀n,n<16000000->n<sizeLine:=λn h=>by rw[Qf];lia
 have y:H a≠none:=by rw[G.root];simp
 have f:a≠l:=λe=>y (by rw[e];exact i);have kl:∀c u,H c=some u->upd H l (.lst []) c=some u:=λc u e=>by rw[ai (ax e i)];exact e
 cases d:fW xs k with
 |some q=>
  left;have D:=G.qG _ (dP d);refine⟨.ref q.1,by rw[jD,d];rfl,.inl ⟨rfl,_,SqL.of (kl _ _ D)⟩,r _ (λc u e _=>kl c u e) _ λp j=>?_⟩;have b:H p=none:=(aw i).free j;have s:q.1≠p:=λe=>by grind
  refine⟨q.1,q.2,.ref p,rfl,rfl,by rw[ai s];exact kl _ _ D,sz _ (E _ (dP d)),?_⟩;have kp:∀c u,H c=some u->c≠q.1->upd (upd (upd H l (.lst [])) p (.tup ws)) q.1 (.lst (q.2++[.ref p])) c=some u:=λc u e g=>by rw[ai g,ai (ax e b)];exact kl c u e
  refine B l p _ i b (by rw[ai (QQ s),ag]) ?_ λc u e g=>kp c u e λz=>g (.inr ⟨_,dP d,z⟩);unfold kH;rw[d,PN (by simp)];exact G.old o d ag kp
 |none=>
  right;refine⟨by rw[jD,d];rfl,.inl ⟨rfl,[],SqL.of (by rw[ai (QQ f),ag])⟩,r _ (λc u e g=>by rw[ai g];exact kl c u e) _ λp j=>?_⟩;have A:cZ xs.kv k=none:=by rw[jD,d];rfl
  have t:p≠a:=λe=>by rw[e,ag]at j;cases j
  have m:p≠l:=λe=>by rw[e,ai (QQ f),ag]at j;cases j
  have b:H p=none:=by rw[ai t,ai m]at j;exact j
  refine⟨l,[],.ref p,rfl,rfl,by rw[ai (QQ m),ai (QQ f),ag],by decide,?_⟩;refine B l p _ i b (by rw[ai m,ag]) ?_ λc u e g=>?_
  .unfold kH;rw[d,PK (by simp)];refine G.new o d i ag (by rw[ai f,ai (QQ t),ag,dH _ A]) λc u e g=>?_;rw[ai (ax e i),ai (ax e b),ai g];exact kl c u e
  .rw[ai (ax e i),ai (ax e b),ai (λz=>g (.inl z))];exact kl c u e
def pZ{K:Uy}{to tk te:TE}{σ:L2.St}{H:Hp}{C:Hp->Prop}(G:DL .dT H a xs)(f:Reads to σ H (.ref a))(g:Reads tk σ H (.ref b))(hb:H b=some (.tup (k.map kV)))
 (h:∀H',(∀c u,H c=some u->c≠a->H' c=some u)->Makes te σ H' ws) (hz:xs.length<16000000) (i:∀x∈xs,x.2.2.length<16000000)
 (j:∀(l p:Addr)(H':Hp),H l=none->H p=none->H' p=some (.tup ws)->DL .dT H' a (kH xs k l (.ref p))->(∀c u,H c=some u->¬cX a xs c->H' c=some u)->C H') :
 mS K to tk te σ H λ_ H'=>C H':=by
 have kl:∀l,H l=none->∀c u,H c=some u->upd H l (.lst []) c=some u:=λl d c u e=>by rw[ai (ax e d)];exact e
 exact f _ ⟨.inr (.inr (.inl ⟨rfl,.inr ⟨_,G.root⟩⟩)),g _ ⟨PQ _,λl d=>⟨a,b,k,.ref l,xs.kv,rfl,rfl,kl l d _ _ hb,.inl (kl l d _ _ G.root),by unfold DX.kv;rw[Ps,Qf];lia,v_ (mk:=.dT) (λ_ _ z=>HO.noConfusion z) G d h i j⟩⟩⟩
def Fo(K:Uy)(to tk te:TE):TE:=qZ K "list" dG (qZ K "dict" Fe to (au tk (au (eJ aF) aF))) (au te aF)
def DD{K:Uy}{to tk te:TE}{σ:L2.St}{H:Hp}{C:Hp->Prop}(G:DL .dK H a xs)(d:Reads to σ H (.ref a))(e:Reads tk σ H (.int i))
 (f:∀H',(∀c u,H c=some u->c≠a->H' c=some u)->Makes te σ H' ws) (hz:xs.length<16000000) (g:∀x∈xs,x.2.2.length<16000000)
 (h:∀(l p:Addr)(H':Hp),H l=none->H p=none->H' p=some (.tup ws)->DL .dK H' a (kH xs (.inl i) l (.ref p))->(∀c u,H c=some u->¬cX a xs c->H' c=some u)->C H') :
 Fo K to tk te σ H λ_ H'=>C H':=by
 have kl:∀l,H l=none->upd H l (.lst []) a=some (.dK xs.kv):=λl b=>by rw[ai (ax G.root b)];exact G.root
 exact d _ ⟨.inr (.inr (.inl ⟨rfl,.inl ⟨_,G.root⟩⟩)),e _ ⟨PQ _,λl b=>⟨a,.inl i,.ref l,xs.kv,rfl,rfl,.inl (kl l b),by unfold DX.kv;rw[Ps,Qf];lia,v_ (mk:=.dK) (λ_ _ z=>HO.noConfusion z) G b f g h⟩⟩⟩
section
def Fq:V->List V->Hp->VK->Prop:=λx xs H Q=>∃i,x=.int i/\xs=[]/\Q (.int (Builtin.Int.intBits i)) H
def DE:C3 X "int.bit_length" Fq:=by intro ac s σ H x xs v us Q I a rs q;obtain⟨i,rfl,rfl,q⟩:=q;obtain⟨t,rfl⟩:=a;cases rs;exact call_int_bit_length ⟨.int _,H,I.tok _,⟨_,rfl⟩,q⟩
end
structure IA(C:Addr) (H:Hp) (q ap:Addr) (last:Int) (xs:DX bI):Prop where
 ins:∃dx,H q=some (.ins C dx [("last",.int last),("piles",.ref ap)])
 aH:DL .dK H ap xs
 dX:xs.length<16000000
 low:∀x∈xs,x.2.2.length<16000000
structure qI(K:Uy) (C:Addr):Prop where
 cl:qC K C
 nl:NoAttr K C "last"
 np:NoAttr K C "piles"
def aD(a last:Int):Int:=Builtin.Int.intBits (Builtin.bitXor a last)
def Js(K:Uy):TE:=Fo K (eG K (ao 0) "piles") (wY K "int" Fq (bv (yN λi j=>.int (Builtin.bitXor i j)) (ao 1) (eG K (ao 0) "last"))) (dc (au (ao 1) (au (ao 2) aF)))
def GT{K:Uy}{C q ap b:Addr}{H:Hp}{d:Hp->Prop}(T:qI K C)(G:IA C H q ap last xs)(h0:σ[0]?=some (some (.ref q)))(h1:σ[1]?=some (some (.int price)))(h2:σ[2]?=some (some (.ref b)))
 (e:∀(l p:Addr)(H':Hp),H l=none->H p=none->H' p=some (.tup [.int price,.ref b])->(∃dx,H' q=some (.ins C dx [("last",.int last),("piles",.ref ap)]))->DL .dK H' ap (kH xs (.inl (aD price last)) l (.ref p))->(∀c u,H c=some u->¬cX ap xs c->H' c=some u)->d H') :
 Js K σ H λ_ H'=>d H':=by
 obtain⟨dx,a⟩:=G.ins;have f:¬cX ap xs q:=λz=>by
  rcases z with z|⟨x,g,z⟩
  .have:=G.aH.root;rw[<- z,a]at this;cases this
  .have:=G.aH.qG x g;rw[<- z,a]at this;cases this
 refine DD (ws:=[.int price,.ref b]) (i:=aD price last) G.aH (λQ h=>⟨_,h0,q,C,dx,_,_,rfl,a,T.cl,T.np,rfl,h⟩) (λQ h=>?_) (λH' _ Q h=>⟨_,h1,_,h2,(by show 2<=sizeLine;decide),h⟩) G.dX G.low λl p H' j k hm hd kp=>e l p H' j k hm ⟨dx,kp _ _ a f⟩ hd kp;exact⟨_,h1,_,h0,q,C,dx,_,_,rfl,a,T.cl,T.nl,rfl,_,_,rfl,rfl,rfl,_,rfl,rfl,h⟩
inductive o8(C:Addr):Sp
 |mk {q ap b:Addr} {last price:Int} {xs:DX bI} {H:Hp} {Q:VK} {E:XK} (G:IA C H q ap last xs) (k:∀(l p:Addr)(H':Hp),H l=none->H p=none->H' p=some (.tup [.int price,.ref b])->(∃dx,H' q=some (.ins C dx [("last",.int last),("piles",.ref ap)]))->DL .dK H' ap (kH xs (.inl (aD price last)) l (.ref p))->(∀c u,H c=some u->¬cX ap xs c->H' c=some u)->Q .bB H'):o8 C [.ref q,.int price,.ref b] H Q E
def xP(h:o8 C vs H Q E):vs.length=3:=by cases h;rfl
def Ai{K:Uy}{C:Addr}{vs:List V}(T:qI K C)(h:o8 C vs H Q E)(a:N.length=3):cj (Js K) {nx:=λ_ H'=>Q .bB H',rt:=Q} (br N vs) H:=by obtain⟨G,k⟩:=h;exact GT T G rfl rfl rfl k
section
variable{κ:Type}[DecidableEq κ]{mk:List (κ×V)->HO}{H H':Hp}{a:Addr}{xs:DX κ}{k:κ}{p:Addr×List V}
def jZ(xs:DX κ)(k:κ):DX κ:=xs.filter λx=>decide (x.1≠k)
theorem Aj(xs:DX κ)(k:κ):(jZ xs k).kv=jk xs.kv k:=by unfold jZ jk DX.kv;rw[List.filter_map];rfl
theorem DL.drop(h:∀q ws,mk q≠.lst ws)(G:DL mk H a xs)(m:fW xs k=some p)(ha:H' a=some (mk (jk xs.kv k)))(kp:∀c u,H c=some u->c≠a->H' c=some u) :
 DL mk H' a (jZ xs k)/\H' p.1=some (.lst p.2)/\¬cX a (jZ xs k) p.1:=by
 have g:=dP m;have b:∀x∈xs,x.2.1≠a:=λx d e=>by have:=G.qG x d;rw[e,G.root]at this;exact h _ _ (QH this)
 have sub:(jZ xs k).Sublist xs:=List.filter_sublist;refine⟨⟨by rw[Aj];exact ha,λx d=>?_,(sub.map _).nodup G.nk,(sub.map _).nodup G.na⟩,kp _ _ (G.qG _ g) (b _ g),λz=>?_⟩
 .have f:=(P_.mp d).1;exact kp _ _ (G.qG x f) (b x f)
 .rcases z with z|⟨x,d,z⟩
  .exact b _ g z
  .obtain⟨h1,h2⟩:=P_.mp d;have l:x.1≠k:=Qa h2;obtain⟨i,n⟩:=PX.mp h1;obtain⟨j,o⟩:=PX.mp g;have e1:(xs.map (·.2.1))[i]?=some p.1:=by grind
   have e2:(xs.map (·.2.1))[j]?=some p.1:=by grind
   have:i=j:=(Tu (PF.mp e1).1 G.na).mp (e1.trans e2.symm);subst this;rw[n]at o;exact l (by grind)
end
end L4
namespace L4
open PySem PySem.Spec PySem.Calls PyProof.Rows L2 L3
section
abbrev rX(v d:Addr):HO:=.ext λh=>PySem.W.KdlKeysView h v d
def Fs:V->List V->Hp->VK->Prop:=λx xs H Q=>∃a kvs,x=.ref a/\xs=[]/\H a=some (.dK kvs)/\∀v,H v=none->Q (.ref v) (upd H v (rX v a))
def DF:C3 X "dict.keys" Fs:=by intro ac s σ H x xs v us Q I b rs q;obtain⟨a,kvs,rfl,rfl,ha,q⟩:=q;obtain rfl:v=Value.ref a:=b;cases rs;obtain⟨z,hd,vs,c,dd⟩:=vG I.aT ha;refine R_ PySem.F.slot_dict_keys dd.typeIs PySem.F.entry_dict_keys (PySem.F.args_dict_keys_1 _) (PySem.W.kdl_meets_keys (aK X.prog X.w) a hd) ?_;have d:PySem.W.KdlKeysView (s.heap.push { cls:=.type "dict_keys",data:=.fields #[.ref a] }) s.heap.objs.size a:=⟨_,PH _ rfl,rfl,rfl⟩;exact⟨⟨vs,dd⟩,.ref s.heap.objs.size,_,I.laid (a:=s.heap.objs.size) (o:=rX s.heap.objs.size a) (t':=s.toks) (λ_ _ e=>Pp _ e) (Pq _) ⟨d,⟨_,PH _ rfl⟩,λh1 h2 ⟨o,f,r⟩ k=>⟨o,k _ f,r⟩⟩,rfl,q _ (I.aT.fresh (Pq _))⟩
def Ft:List V->Hp->VK->Prop:=λxs H Q=>∃(v a:Addr)(kvs:List (bI×V))(ns:List Int),xs=[.ref v]/\H v=some (rX v a)/\H a=some (.dK kvs)/\kvs.map (·.1)=ns.map Sum.inl/\ns≠[]/\Q (.int (pO ns)) H
def xQ(K:X.calm=true):bV X (.builtin "min") Ft:=by
 intro ac s σ H xs us Q I r q;obtain⟨v,a,kvs,ns,rfl,m,ha,E,p,q⟩:=q;obtain⟨u,rfl,ru⟩:=dU r;obtain rfl:u=Value.ref v:=ru;obtain⟨z,hd,vs,f,dd⟩:=vG I.aT ha;obtain⟨y,_,_⟩:=(show ObjOk X.prog X.w H s.heap v (rX v a)from I.aT v _ m);obtain⟨ep,F⟩:=dd.dictAt;have L:=f.length;have M:kvs.length=ns.length:=by have:=Q1 List.length E;simpa using this
 have g:∀(i:Nat)(k:bI)(x:UA),vs[i]?=some (k,x)->∃n,ns[i]?=some n/\k=.inl n:=λi k x e=>by
  have G:i<kvs.length:=by rw[L];exact(PF.mp e).1
  obtain⟨e1,_⟩:=f.at i _ _ (Px G) e;have e2:(kvs.map (·.1))[i]?=some k:=by rw[PR,Px G];exact Q1 some e1
  rw[E,PR]at e2;obtain⟨n,h1,h2⟩:=QV.mp e2;exact⟨n,h1,h2.symm⟩
 generalize c:(ns.map λn=>(n,(0:Tok))).toArray=ps;have hsz:ps.size=ns.length:=by rw[<- c];simp
 have h:∀(i:Nat)(n:Int),ns[i]?=some n->numAt ps i=n:=λi n e=>by unfold numAt;rw[<- c];simp[e]
 have B:ps.toList.map (·.1)=ns:=by rw[<- c];simp[Function.comp_def]
 have J:0<ns.length:=SX.mpr p;have l:a≠s.heap.objs.size:=by obtain⟨o,_,_,C,_⟩:=dd;exact P7 (PD C)
 refine call_min_walk (PySem.W.kdl_pyIter_keys (knd:=aK X.prog X.w) (s:=s) y F ?_);refine⟨_,_,_,_,_,_,_,rfl,Walks.dictKeys (knd:=aK X.prog X.w) (A:=X.A.in1) (I.ok.hd K) s.heap.objs.size a l vs ep,⟨⟨_,PH _ rfl,rfl,rfl⟩,F.at' λo e=>Pp _ e⟩,λb hb=>?_,by lia,CmpOf.ints_lt (numAt ps) (λi v m=>?_),λv h' tk hP kp=>?_⟩
 .simp only[PB,PV,Ua]at hb;rw[Sj];rcases hb with rfl|rfl
  .exact Rt _
  .obtain⟨o,_,_,C,_⟩:=dd;exact SC (PD C)
 .obtain⟨k,x,e1,e2⟩:=m;obtain⟨n,D,rfl⟩:=g i k x e1;obtain⟨j,t,d,rfl⟩|⟨j,t,d,_⟩:=bC (show jj (.inl n) v=true from e2)
  .cases d;exact⟨t,by rw[h i n D]⟩
  .cases d
 .obtain⟨k,x,e1,e2⟩:=hP;obtain⟨n,D,rfl⟩:=g _ k x e1;obtain⟨j,t,d,rfl⟩|⟨j,t,d,_⟩:=bC (show jj (.inl n) v=true from e2)
  .cases d;have hb:=mF ps (vs.length-1) (by lia);rw[h _ n D,B,QW (by lia)]at hb;exact⟨.int n,H,I.kept (t':=tk) λb o e=>kp b o (λhm=>by rw[Py]at hm;subst hm;exact RM _ (PD e)) (Pp _ e),⟨t,rfl⟩,by rw[hb];exact q⟩
  .cases d
end
end L4
namespace L4
open PySem PySem.Spec PyProof.Rows L2 L3
inductive aN{α β:Type} (R:α->β->Prop):List α->List β->Prop where
 |nil:aN R [] []
 |cons {x y xs ys}:R x y->aN R xs ys->aN R (x::xs) (y::ys)
section
variable{α β:Type}{R R':α->β->Prop}
def aN.len(h:aN R xs ys):xs.length=ys.length:=by
 induction h with
 |nil=>rfl
 |cons _ _ a=>rw[P8,P8,a]
def aN.mono(f:∀x y,R x y->R' x y)(h:aN R xs ys):aN R' xs ys:=by
 induction h with
 |nil=>exact .nil
 |cons a _ b=>exact .cons (f _ _ a) b
def aN.snoc(h:aN R xs ys)(r:R x y):aN R (xs++[x]) (ys++[y]):=by
 induction h with
 |nil=>exact .cons r .nil
 |cons a _ b=>exact .cons a b
theorem aN.get(h:aN R xs ys){i:Nat}(e:ys[i]?=some y):∃x,xs[i]?=some x/\R x y:=by
 induction h generalizing i with
 |nil=>simp at e
 |cons a _ b=>
  cases i with
  |zero=>simp at e;subst e;exact⟨_,rfl,a⟩
  |succ i=>simp at e;obtain⟨x,e1,e2⟩:=b e;exact⟨x,by simpa using e1,e2⟩
def aN.E4{b c:Type}{T:b->c->Prop}(f:α->b)(g:β->c)(k:∀x y,R x y->T (f x) (g y))(h:aN R xs ys):aN T (xs.map f) (ys.map g):=by
 induction h with
 |nil=>exact .nil
 |cons a _ d=>exact .cons (k _ _ a) d
end
def KT(H H':Hp):Prop:=∀a ws,H a=some (.tup ws)->H' a=some (.tup ws)
section
variable{κ κ' α:Type}[DecidableEq κ][DecidableEq κ'](key:κ->κ')(it:Hp->α->V->Prop)
abbrev RepM(H:Hp)(d:Pz.MD κ α)(xs:DX κ'):Prop:=aN (λx y=>y.1=key x.1/\aN (it H) x.2 y.2.2) d xs
variable{key it}
def RepM.keep(hm:∀a v,it H a v->it H' a v)(h:RepM key it H d xs):RepM key it H' d xs:=h.mono λ_ _ ⟨e,a⟩=>⟨e,a.mono hm⟩
def RepM.find(inj:∀a b,key a=key b->a=b)(h:RepM key it H d xs)(k:κ) :
 (fW xs (key k)=none/\d.has k=false/\d.get k=[])\/∃p,fW xs (key k)=some p/\d.has k=true/\aN (it H) (d.get k) p.2:=by
 induction h with
 |nil=>exact .inl ⟨rfl,rfl,rfl⟩
 |@cons x y d xs r _ c=>
  unfold fW at c ⊢;unfold Pz.MD.has at c ⊢;rw[Q9,Pz.dM,Uj];by_cases e:x.1=k
  .right;have:y.1=key k:=by rw[r.1,e]
   rw[P3 this,P3 e,PN e];exact⟨y.2,rfl,rfl,r.2⟩
  .have:¬y.1=key k:=λz=>e (inj _ _ (r.1.symm.trans z));rw[QA this,QA e,PK e,Bool.false_or];exact c
def RepM.add(inj:∀a b,key a=key b->a=b)(hm:∀a v,it H a v->it H' a v)(h:RepM key it H d xs)(c:it H' v (.ref p)):RepM key it H' (d.app k v) (kH xs (key k) l (.ref p)):=by
 have h':=h.keep hm;unfold Pz.MD.app kH;rcases h.find inj k with⟨e1,e2,_⟩|⟨q,e1,e2,_⟩
 .rw[e1,e2];exact h'.snoc ⟨rfl,.cons c .nil⟩
 .rw[e1,e2];refine h'.E4 _ _ λx y ⟨f,g⟩=>?_;by_cases e:x.1=k
  .have:y.1=key k:=by rw[f,e]
   rw[PN e,PN this];exact⟨f,g.snoc c⟩
  .grind
theorem RepM.drop(inj:∀a b,key a=key b->a=b)(h:RepM key it H d xs)(k:κ):RepM key it H (d.drop k) (jZ xs (key k)):=by
 induction h with
 |nil=>exact .nil
 |@cons x y d xs r _ c=>
  unfold Pz.MD.drop jZ at c ⊢;by_cases e:x.1=k
  .have:y.1=key k:=by rw[r.1,e]
   rw[List.filter_cons_of_neg (by simpa using e),List.filter_cons_of_neg (by simpa using this)];exact c
  .have:¬y.1=key k:=λz=>e (inj _ _ (r.1.symm.trans z));rw[List.filter_cons_of_pos (by simpa using e),List.filter_cons_of_pos (by simpa using this)];exact .cons r c
theorem RepM.keys(h:RepM key it H d xs):xs.map (·.1)=d.keys.map key:=by
 induction h with
 |nil=>rfl
 |cons r _ a=>grind
def RepM.low(h:RepM key it H d xs)(a:d.flat.length<n):∀x∈xs,x.2.2.length<n:=by
 induction h with
 |nil=>exact λ_ h=>(PV h).elim
 |@cons x y d xs r _ b=>
  unfold Pz.MD.flat at a b;rw[Rm,PJ]at a;intro z hz;rcases PB.mp hz with rfl|hz
  .have:=r.2.len;lia
  .exact b (by lia) z hz
end
def vO:Option Int->V
 |none=>.bB
 |some i=>.int i
def mT(a:Pz.Arr):List V:=[.int a.1,.int a.2.1,.int a.2.2]
def IsArr(H:Hp)(a:Pz.Arr)(v:V):Prop:=∃p,v=.ref p/\H p=some (.tup (mT a))
def IsRule(H:Hp)(r:Pz.Rule)(v:V):Prop:=∃p q,v=.ref p/\H p=some (.tup [.int r.1,.int r.2.1,.int r.2.2.1,.ref q])/\H q=some (.tup (r.2.2.2.map .int))
def IsVal(H:Hp)(x:Pz.xI)(v:V):Prop:=∃p,v=.ref p/\H p=some (.tup [.int x.1,vO x.2.1,vO x.2.2])
def IsItem(H:Hp)(x:Int×Pz.Arr)(v:V):Prop:=∃p w,v=.ref p/\H p=some (.tup [.int x.1,w])/\IsArr H x.2 w
def IsSet(H:Hp)(x:Int×Int)(v:V):Prop:=∃p,v=.ref p/\H p=some (.tup [.int x.1,.int x.2])
def IsLack(H:Hp)(x:Int×Pz.Rule×Int)(v:V):Prop:=∃p w,v=.ref p/\H p=some (.tup [.int x.1,w,.int x.2.2])/\IsRule H x.2.1 w
def IsNum(H:Hp)(x:Int×Pz.Rule)(v:V):Prop:=∃p w,v=.ref p/\H p=some (.tup [.int x.1,w])/\IsRule H x.2 w
section
variable(k:KT H H')
include k
theorem IsArr.keep(a:Pz.Arr)(v:V):IsArr H a v->IsArr H' a v:=λ⟨p,e,h⟩=>⟨p,e,k _ _ h⟩
theorem IsRule.keep(a:Pz.Rule)(v:V):IsRule H a v->IsRule H' a v:=λ⟨p,q,e,h,g⟩=>⟨p,q,e,k _ _ h,k _ _ g⟩
theorem IsVal.keep(a:Pz.xI)(v:V):IsVal H a v->IsVal H' a v:=λ⟨p,e,h⟩=>⟨p,e,k _ _ h⟩
theorem IsItem.keep(a:Int×Pz.Arr)(v:V):IsItem H a v->IsItem H' a v:=λ⟨p,w,e,h,g⟩=>⟨p,w,e,k _ _ h,IsArr.keep k _ _ g⟩
theorem IsSet.keep(a:Int×Int)(v:V):IsSet H a v->IsSet H' a v:=λ⟨p,e,h⟩=>⟨p,e,k _ _ h⟩
theorem IsLack.keep(a:Int×Pz.Rule×Int)(v:V):IsLack H a v->IsLack H' a v:=λ⟨p,w,e,h,g⟩=>⟨p,w,e,k _ _ h,IsRule.keep k _ _ g⟩
theorem IsNum.keep(a:Int×Pz.Rule)(v:V):IsNum H a v->IsNum H' a v:=λ⟨p,w,e,h,g⟩=>⟨p,w,e,k _ _ h,IsRule.keep k _ _ g⟩
end
def ak(a:Pz.Arr):List bI:=[.inl a.1,.inl a.2.1,.inl a.2.2]
def uJ(a b:Pz.Arr)(h:ak a=ak b):a=b:=by grind [ak]
def Mh(a:Pz.Arr):(ak a).map kV=mT a:=rfl
def k2(k:Int×Int):List bI:=[.inl k.1,.inl k.2]
def iO(a b:Int×Int)(h:k2 a=k2 b):a=b:=by grind [k2]
def k1(i:Int):bI:=.inl i
def kI(a b:Int)(h:k1 a=k1 b):a=b:=Sum.inl.inj h
abbrev RepT(H:Hp)(t:Pz.TD)(kt:List (List bI×V)):Prop:=aN (λx y=>y.1=ak x.1/\IsVal H x.2 y.2) t kt
theorem RepT.keep(k:KT H H')(h:RepT H t kt):RepT H' t kt:=h.mono λ_ _ ⟨e,a⟩=>⟨e,IsVal.keep k _ _ a⟩
def RepT.find(h:RepT H t kt)(a:Pz.Arr) :
 (cZ kt (ak a)=none/\Pz.bL t a=none)\/∃v x,cZ kt (ak a)=some v/\Pz.bL t a=some x/\IsVal H x v:=by
 induction h with
 |nil=>exact .inl ⟨rfl,rfl⟩
 |@cons x y t kt r _ b=>
  rw[Pz.dz];by_cases e:x.1=a
  .have:y.1=ak a:=by rw[r.1,e]
   rw[PN e,fC this];exact .inr ⟨_,_,rfl,rfl,r.2⟩
  .have:¬y.1=ak a:=λz=>e (uJ _ _ (r.1.symm.trans z));rw[PK e,fD this];exact b
def RepT.put(h:RepT H t kt)(c:IsVal H x v):RepT H (Pz.tput t a x) (cg kt (ak a) v):=by
 unfold Pz.tput cg;rw[iA];rcases h.find a with⟨e1,e2⟩|⟨w,y,e1,e2,_⟩
 .rw[e1,e2];exact h.snoc ⟨rfl,c⟩
 .rw[e1,e2];refine h.E4 _ _ λz y ⟨b,d⟩=>?_;by_cases e:z.1=a
  .have:y.1=ak a:=by rw[b,e]
   rw[PN e,PN this];exact⟨b,c⟩
  .have:¬y.1=ak a:=λq=>e (uJ _ _ (b.symm.trans q));rw[PK e,PK this];exact⟨b,d⟩
def i_{κ:Type}[DecidableEq κ]{xs:DX κ}{k:κ}{l a c:Addr}{v:V}(h:cX a (kH xs k l v) c):cX a xs c\/c=l:=by
 rcases h with h|⟨x,hx,h⟩
 .exact .inl (.inl h)
 .unfold kH at hx;split at hx
  .obtain⟨y,b,rfl⟩:=Pt.mp hx;refine .inl (.inr ⟨y,b,?_⟩);rw[h];split<;>rfl
  .rcases PP.mp hx with hx|hx
   .exact .inl (.inr ⟨x,hx,h⟩)
   .rw[Py]at hx;subst hx;exact .inr h
section
variable{κ κ' α:Type}[DecidableEq κ][DecidableEq κ'](mk:List (κ'×V)->HO)(key:κ->κ')(it:Hp->α->V->Prop)
structure PM(col:Addr->Nat) (j:Nat) (B H:Hp) (a:Addr) (dd:Pz.MD κ α) (xs:DX κ'):Prop where
 d:DL mk H a xs
 r:RepM key it H dd xs
 c:∀c,cX a xs c->col c=j/\B c=none
variable{mk key it}{d:Pz.MD κ α}
def DL.obj(h:DL mk H a xs)(b:cX a xs c):H c≠none:=by
 grind [DL,cX]
def DL.keep(h:DL mk H a xs)(kp:∀c u,H c=some u->cX a xs c->H' c=some u):DL mk H' a xs:=⟨kp _ _ h.root (.inl rfl),λx b=>kp _ _ (h.qG x b) (.inr ⟨x,b,rfl⟩),h.nk,h.na⟩
theorem PM.keep(h:PM mk key it col j B H a d xs)(b:∀x v,it H x v->it H' x v)(kp:∀c u,H c=some u->col c=j->H' c=some u)(f:∀c,H c≠none->col' c=col c):PM mk key it col' j B H' a d xs:=⟨h.d.keep λc u e i=>kp c u e (h.c c i).1,h.r.keep b,λc i=>⟨by rw[f c (h.d.obj i)];exact(h.c c i).1,(h.c c i).2⟩⟩
def DL.kt(b:∀q ws,mk q≠.tup ws)(h:DL mk H a xs)(kp:∀c u,H c=some u->¬cX a xs c->H' c=some u):KT H H':=by
 grind [DL,cX,KT]
def p8(col:Addr->Nat)(j:Nat)(H:Hp):Addr->Nat:=λc=>open Classical in if H c=none then j else col c
def bG(b:H a≠none):p8 col j H a=col a:=by unfold p8;rw[PK b]
def Al(b:H a=none):p8 col j H a=j:=by unfold p8;rw[PN b]
def PM.new(h:PM mk key it col j B H a d xs)(b:Same B H)(h1:DL mk H' a xs')(h2:RepM key it H' d' xs')(f:∀c,cX a xs' c->cX a xs c\/H c=none):PM mk key it (p8 col j H) j B H' a d' xs':=
 ⟨h1,h2,λc i=>by
   rcases f c i with i|e
   .rw[bG (h.d.obj i)];exact h.c c i
   .exact⟨Al e,b.free e⟩⟩
def PM.base(h:PM mk key it col j B H a d xs)(hb:∀c,cX a xs c->B' c=none):PM mk key it col j B' H a d xs:=⟨h.d,h.r,λc i=>⟨(h.c c i).1,hb c i⟩⟩
end
structure PA where
 o:Addr
 ta:Addr
 aq:Addr
 ap:Addr
 sa:Addr
 la:Addr
 ar:Addr
def pf(A:PA):List (Str×V):=[("rules",.ref A.ar),("told",.ref A.ta),("offers",.ref A.aq),("settled",.ref A.sa),("lacking",.ref A.la)]
abbrev qf(A:PA)(last:Int):List (Str×V):=[("last",.int last),("piles",.ref A.ap)]
structure PO(CP CQ:Addr) (col:Addr->Nat) (B H:Hp) (A:PA) (last:Int) (t:Pz.TD) (kt:List (List bI×V)):Prop where
 ins:∃dx,H A.o=some (.ins CP dx (pf A))
 CM:∃dx,H A.aq=some (.ins CQ dx (qf A last))
 td:H A.ta=some (.dT kt)
 tr:RepT H t kt
 c5:col A.ta=5/\B A.ta=none
 c6:col A.o=6/\B A.o=none
 c7:col A.aq=7/\B A.aq=none
structure bE(CP CQ:Addr) (B H:Hp) (A:PA) (rs:Pz.RS) (S:Pz.PS) (xs xl xr:DX (List bI)) (xp:DX bI) (kt:List (List bI×V)) (col:Addr->Nat):Prop where
 same:Same B H
 p1:PM .dK k1 IsItem col 1 B H A.ap S.aH xp
 p2:PM .dT k2 IsSet col 2 B H A.sa S.settled xs
 p3:PM .dT k2 IsLack col 3 B H A.la S.aL xl
 p4:PM .dT k2 IsNum col 4 B H A.ar rs xr
 po:PO CP CQ col B H A S.last S.told kt
def PAt(CP CQ:Addr)(B H:Hp)(A:PA)(rs:Pz.RS)(S:Pz.PS)(xs a b:DX (List bI)):Prop:=∃c kt col,bE CP CQ B H A rs S xs a b c kt col
section
theorem PO.keep(h:PO CP CQ col B H A last t kt)(k:KT H H')(kp:∀c u,H c=some u->5<=col c->col c<=7->H' c=some u)(a:∀c,H c≠none->col' c=col c):PO CP CQ col' B H' A last t kt:=by
 obtain⟨⟨dx,h1⟩,⟨b,h2⟩,h3,d,c5,c6,c7⟩:=h;refine⟨⟨dx,kp _ _ h1 (by lia) (by lia)⟩,⟨b,kp _ _ h2 (by lia) (by lia)⟩,kp _ _ h3 (by lia) (by lia),d.keep k,?_,?_,?_⟩
 .rw[a _ (by grind)];exact c5
 .rw[a _ (by grind)];exact c6
 .rw[a _ (by grind)];exact c7
def bE.pile(h:bE CP CQ B H A rs S xs xl xr xp kt col)(h1:DL .dK H' A.ap xp')(h2:RepM k1 IsItem H' d' xp')(b:∀c,cX A.ap xp' c->cX A.ap xp c\/H c=none)
 (kp:∀c u,H c=some u->¬cX A.ap xp c->H' c=some u):bE CP CQ B H' A rs {S with aH:=d'} xs xl xr xp' kt (p8 col 1 H):=by
 have k:KT H H':=h.p1.d.kt (λ_ _ z=>HO.noConfusion z) kp;have a:∀c u,H c=some u->col c≠1->H' c=some u:=λc u e n=>kp c u e λi=>n (h.p1.c c i).1;exact⟨(λc u e=>kp c u (h.same c u e) λi=>by rw[(h.p1.c c i).2]at e;cases e),h.p1.new h.same h1 h2 b,h.p2.keep (IsSet.keep k) (λc u e z=>a c u e (by lia)) λc=>bG,h.p3.keep (IsLack.keep k) (λc u e z=>a c u e (by lia)) λc=>bG,h.p4.keep (IsNum.keep k) (λc u e z=>a c u e (by lia)) λc=>bG,h.po.keep k (λc u e z _=>a c u e (by lia)) λc=>bG⟩
def bE.NE(h:bE CP CQ B H A rs S xs xl xr xp kt col)(h1:DL .dT H' A.sa xs')(h2:RepM k2 IsSet H' d' xs')(b:∀c,cX A.sa xs' c->cX A.sa xs c\/H c=none)
 (kp:∀c u,H c=some u->¬cX A.sa xs c->H' c=some u):bE CP CQ B H' A rs {S with settled:=d'} xs' xl xr xp kt (p8 col 2 H):=by
 have k:KT H H':=h.p2.d.kt (λ_ _ z=>HO.noConfusion z) kp;have a:∀c u,H c=some u->col c≠2->H' c=some u:=λc u e n=>kp c u e λi=>n (h.p2.c c i).1;exact⟨(λc u e=>kp c u (h.same c u e) λi=>by rw[(h.p2.c c i).2]at e;cases e),h.p1.keep (IsItem.keep k) (λc u e z=>a c u e (by lia)) λc=>bG,h.p2.new h.same h1 h2 b,h.p3.keep (IsLack.keep k) (λc u e z=>a c u e (by lia)) λc=>bG,h.p4.keep (IsNum.keep k) (λc u e z=>a c u e (by lia)) λc=>bG,h.po.keep k (λc u e z _=>a c u e (by lia)) λc=>bG⟩
def bE.pX(h:bE CP CQ B H A rs S xs xl xr xp kt col)(h1:DL .dT H' A.la xl')(h2:RepM k2 IsLack H' d' xl')(b:∀c,cX A.la xl' c->cX A.la xl c\/H c=none)
 (kp:∀c u,H c=some u->¬cX A.la xl c->H' c=some u):bE CP CQ B H' A rs {S with aL:=d'} xs xl' xr xp kt (p8 col 3 H):=by
 have k:KT H H':=h.p3.d.kt (λ_ _ z=>HO.noConfusion z) kp;have a:∀c u,H c=some u->col c≠3->H' c=some u:=λc u e n=>kp c u e λi=>n (h.p3.c c i).1;exact⟨(λc u e=>kp c u (h.same c u e) λi=>by rw[(h.p3.c c i).2]at e;cases e),h.p1.keep (IsItem.keep k) (λc u e z=>a c u e (by lia)) λc=>bG,h.p2.keep (IsSet.keep k) (λc u e z=>a c u e (by lia)) λc=>bG,h.p3.new h.same h1 h2 b,h.p4.keep (IsNum.keep k) (λc u e z=>a c u e (by lia)) λc=>bG,h.po.keep k (λc u e z _=>a c u e (by lia)) λc=>bG⟩
def bE.more(h:bE CP CQ B H A rs S xs xl xr xp kt col)(s:Same H H'):bE CP CQ B H' A rs S xs xl xr xp kt col:=by have k:KT H H':=λa ws e=>s a _ e;exact⟨h.same.trans s,h.p1.keep (IsItem.keep k) (λc u e _=>s c u e) λ_ _=>rfl,h.p2.keep (IsSet.keep k) (λc u e _=>s c u e) λ_ _=>rfl,h.p3.keep (IsLack.keep k) (λc u e _=>s c u e) λ_ _=>rfl,h.p4.keep (IsNum.keep k) (λc u e _=>s c u e) λ_ _=>rfl,h.po.keep k (λc u e _ _=>s c u e) λ_ _=>rfl⟩
theorem PAt.more(h:PAt CP CQ B H A rs S xs xl xr)(s:Same H H'):PAt CP CQ B H' A rs S xs xl xr:=let ⟨a,kt,col,h⟩:=h;⟨a,kt,col,h.more s⟩
def bE.tell(h:bE CP CQ B H A rs S xs xl xr xp kt col)(b:H p=some (.tup [.int x.1,vO x.2.1,vO x.2.2])) :
 bE CP CQ B (upd H A.ta (.dT (cg kt (ak a) (.ref p)))) A rs {S with told:=Pz.tput S.told a x} xs xl xr xp (cg kt (ak a) (.ref p)) col:=by
 have kp:∀c u,H c=some u->col c≠5->upd H A.ta (.dT (cg kt (ak a) (.ref p))) c=some u:=λc u e n=>by rw[ai (λz=>n (by rw[z];exact h.po.c5.1))];exact e
 have k:KT H (upd H A.ta (.dT (cg kt (ak a) (.ref p)))):=λc ws e=>by rw[ai (λz=>by rw[z,h.po.td]at e;cases e)];exact e
 obtain⟨⟨dx,h1⟩,⟨d,h2⟩,h3,f,c5,c6,c7⟩:=h.po;refine⟨λc u e=>?_,h.p1.keep (IsItem.keep k) (λc u e z=>kp c u e (by lia)) λ_ _=>rfl,h.p2.keep (IsSet.keep k) (λc u e z=>kp c u e (by lia)) λ_ _=>rfl,h.p3.keep (IsLack.keep k) (λc u e z=>kp c u e (by lia)) λ_ _=>rfl,h.p4.keep (IsNum.keep k) (λc u e z=>kp c u e (by lia)) λ_ _=>rfl,⟨dx,kp _ _ h1 (by lia)⟩,⟨d,kp _ _ h2 (by lia)⟩,ag,(f.keep k).put ⟨p,rfl,k _ _ b⟩,c5,c6,c7⟩;rw[ai (λz=>by grind)];exact h.same c u e
def bE.wide(h:bE CP CQ B H A rs S xs xl xr xp kt col)(Z:Addr->Prop)(hz:∀c,Z c->¬cX A.ap xp c/\¬cX A.sa xs c/\¬cX A.la xl c/\¬cX A.ar xr c/\c≠A.ta/\c≠A.o/\c≠A.aq) :
 ∃b,Same B b/\KT H b/\(∀c u,Z c->H c=some u->b c=some u)/\bE CP CQ b H A rs S xs xl xr xp kt col:=by
 classical
 refine⟨λc=>if B c≠none\/Z c\/∃ws,H c=some (.tup ws)then H c else none,λc u e=>?_,λc ws e=>?_,λc u z e=>?_,λc u e=>?_,h.p1.base λc i=>?_,h.p2.base λc i=>?_,h.p3.base λc i=>?_,h.p4.base λc i=>?_,h.po.ins,h.po.CM,h.po.td,h.po.tr,⟨h.po.c5.1,?_⟩,⟨h.po.c6.1,?_⟩,⟨h.po.c7.1,?_⟩⟩
 .dsimp only;rw[PN (.inl (by grind))];exact h.same c u e
 .dsimp only;rw[PN (.inr (.inr ⟨ws,e⟩))];exact e
 .dsimp only;rw[PN (.inr (.inl z))];exact e
 .split at e
  .exact e
  .cases e
 all_goals
  refine PK λq=>?_
 .rcases q with q|q|⟨ws,q⟩
  .exact q (h.p1.c c i).2
  .exact(hz c q).1 i
  .rcases i with rfl|⟨x,a,rfl⟩
   .rw[h.p1.d.root]at q;cases q
   .rw[h.p1.d.qG x a]at q;cases q
 .rcases q with q|q|⟨ws,q⟩
  .exact q (h.p2.c c i).2
  .exact(hz c q).2.1 i
  .rcases i with rfl|⟨x,a,rfl⟩
   .rw[h.p2.d.root]at q;cases q
   .rw[h.p2.d.qG x a]at q;cases q
 .rcases q with q|q|⟨ws,q⟩
  .exact q (h.p3.c c i).2
  .exact(hz c q).2.2.1 i
  .rcases i with rfl|⟨x,a,rfl⟩
   .rw[h.p3.d.root]at q;cases q
   .rw[h.p3.d.qG x a]at q;cases q
 .rcases q with q|q|⟨ws,q⟩
  .exact q (h.p4.c c i).2
  .exact(hz c q).2.2.2.1 i
  .rcases i with rfl|⟨x,a,rfl⟩
   .rw[h.p4.d.root]at q;cases q
   .rw[h.p4.d.qG x a]at q;cases q
 .rcases q with q|q|⟨ws,q⟩
  .exact q h.po.c5.2
  .exact(hz _ q).2.2.2.2.1 rfl
  .rw[h.po.td]at q;cases q
 .rcases q with q|q|⟨ws,q⟩
  .exact q h.po.c6.2
  .exact(hz _ q).2.2.2.2.2.1 rfl
  .obtain⟨dx,e⟩:=h.po.ins;rw[e]at q;cases q
 .rcases q with q|q|⟨ws,q⟩
  .exact q h.po.c7.2
  .exact(hz _ q).2.2.2.2.2.2 rfl
  .obtain⟨dx,e⟩:=h.po.CM;rw[e]at q;cases q
def PAt.less(h:PAt CP CQ B' H A rs S xs xl xr)(s:Same B B'):PAt CP CQ B H A rs S xs xl xr:=by obtain⟨a,kt,col,h⟩:=h;refine⟨a,kt,col,s.trans h.same,h.p1.base λc i=>s.free (h.p1.c c i).2,h.p2.base λc i=>s.free (h.p2.c c i).2,h.p3.base λc i=>s.free (h.p3.c c i).2,h.p4.base λc i=>s.free (h.p4.c c i).2,h.po.ins,h.po.CM,h.po.td,h.po.tr,⟨h.po.c5.1,s.free h.po.c5.2⟩,⟨h.po.c6.1,s.free h.po.c6.2⟩,⟨h.po.c7.1,s.free h.po.c7.2⟩⟩
theorem PAt.same(h:PAt CP CQ B H A rs S xs xl xr):Same B H:=let ⟨_,_,_,h⟩:=h;h.same
end
def DG(x y:Nat):Builtin.bitXor (x:Int) (y:Int)=(((x ||| y)-(x &&& y):Nat):Int):=by
 have n1:∀z:Nat,decide (0<=Builtin.bitNot (z:Int))=false:=λz=>QA (by unfold Builtin.bitNot;lia);have n2:∀z:Nat,(Builtin.bitNot (Builtin.bitNot (z:Int))).toNat=z:=λz=>by unfold Builtin.bitNot;lia
 have p1:∀z:Nat,decide (0<=(z:Int))=true:=λz=>P3 (by lia);have a:Builtin.bitAnd (x:Int) (y:Int)=((x &&& y:Nat):Int):=by unfold Builtin.bitAnd;rw[p1,p1];rfl
 have b:Builtin.bitOr (x:Int) (y:Int)=((x ||| y:Nat):Int):=by unfold Builtin.bitOr Builtin.bitAnd;rw[n1,n1];show Builtin.bitNot (Builtin.bitNot (((Builtin.bitNot (Builtin.bitNot (x:Int))).toNat |||(Builtin.bitNot (Builtin.bitNot (y:Int))).toNat:Nat):Int))=_;rw[n2,n2];unfold Builtin.bitNot;lia
 unfold Builtin.bitXor;rw[a,b];have:x &&& y<=x ||| y:=Qb Nat.and_le_left Nat.left_le_or;lia
def wb:Pz.qD aD:=by
 have a:∀{p l:Int},0<=p->0<=l->∃z:Nat,aD p l=(z:Int)/\∀k:Nat,z<=k↔p/2^k=l/2^k:=by
  intro p l b c;obtain⟨x,rfl⟩:=Q8 b;obtain⟨y,rfl⟩:=Q8 c;refine⟨_,rfl,λk=>?_⟩;rw[DG];unfold Builtin.Int.intBits;rw[Pz.DC,Pz.DB];have e:∀z:Nat,(z:Int)/2^k=((z/2^k:Nat):Int):=λz=>by rw[Int.natCast_ediv];norm_cast
  rw[e,e];lia
 constructor
 .intro p l b c;obtain⟨z,e,_⟩:=a b c;rw[e];lia
 .intro p l b c k;obtain⟨z,e,h⟩:=a b c;rw[e,<- h k];lia
section
variable{K:Uy}{C q ap:Addr}{H:Hp}{last:Int}
inductive kg(C:Addr):Sp
 |mk {q dx:Addr} {H:Hp} {Q:VK} {E:XK} (hq:H q=some (.ins C dx [])) (k:∀(d:Addr)(H':Hp),H d=none->H' q=some (.ins C dx [("last",.int 0),("piles",.ref d)])->H' d=some (.dK [])->(∀b o,H b=some o->b≠q->H' b=some o)->Q .bB H'):kg C [.ref q] H Q E
def GU(K:Uy):TS:=aJ (pq K (ao 0) (tC (.int 0)) "last") (pq K (ao 0) zt "piles")
def rY(h:kg C vs H Q E):vs.length=1:=by cases h;rfl
theorem uK(T:qI K C)(h:kg C vs H Q E):GU K {nx:=λ_ H'=>Q .bB H',rt:=Q} (br N vs) H:=by
 obtain @⟨q,dx,_,_,_,hq,k⟩:=h;refine⟨_,rfl,q,C,dx,[],rfl,hq,T.cl,T.nl,(by show 0<1000;decide),?_⟩;intro d hd;have a:d≠q:=λe=>by rw[e,ag]at hd;cases hd
 have c:H d=none:=by rw[ai a]at hd;exact hd
 refine⟨_,rfl,q,C,dx,_,rfl,(by rw[ai (QQ a),ag]),T.cl,T.np,(by show 1<1000;decide),?_⟩;refine k d _ c (by rw[ag];rfl) (by rw[ai a,ag]) λb o e hb=>?_;rw[ai hb,ai (ax e c),ai hb];exact e
inductive km(C:Addr):Sp
 |mk {q ap dx:Addr} {last:Int} {kvs:List (bI×V)} {H:Hp} {Q:VK} {E:XK} (hq:H q=some (.ins C dx [("last",.int last),("piles",.ref ap)])) (ha:H ap=some (.dK kvs)) (hl:kvs.length<=sizeLine) (k:Q (.bl (decide (kvs.length=0))) H):km C [.ref q] H Q E
def Fu:List V->Hp->VK->Prop:=λxs H Q=>∃(d:Addr)(kvs:List (bI×V))(u:HO),xs=[.ref d]/\(u=.dK kvs\/(u=.dT []/\kvs=[]))/\Rd H d u/\kvs.length<=sizeLine/\Q (.int kvs.length) H
def xR:bV X (.builtin "len") Fu:=xE
def GV(K:Uy):TS:=cO (bv tQ (fQ Fu (au (eG K (ao 0) "piles") aF)) (tC (.int 0)))
def rZ(h:km C vs H Q E):vs.length=1:=by cases h;rfl
theorem uL(T:qI K C)(h:km C vs H Q E):GV K {nx:=λ_ H'=>Q .bB H',rt:=Q} (br N vs) H:=by
 obtain @⟨q,ap,dx,last,kvs,_,_,_,hq,ha,hl,k⟩:=h;refine⟨_,rfl,q,C,dx,_,_,rfl,hq,T.cl,T.np,rfl,ap,kvs,_,rfl,.inl rfl,.inl ha,hl,rfl,?_⟩;have:decide (V.int (kvs.length:Int)=V.int 0)=decide (kvs.length=0):=by apply decide_eq_decide.mpr;exact⟨λe=>by injection e with e;lia,λe=>by rw[e];rfl⟩
 rw[this];exact k
def Mi(C q ap:Addr)(d:Pz.Q Pz.Arr)(e:DX bI)(H:Hp)(Q:VK):Prop:=∀(l:Addr)(b:List V)(a:DX bI)(H':Hp),IA C H' q ap (Pz.lowP d) a->RepM k1 IsItem H' (Pz.left aD d) a->H' l=some (.lst b)->aN (IsItem H') (Pz.dN aD d) b->¬cX ap a l->(cX ap e l\/H l=none)->(∀c,cX ap a c->cX ap e c\/H c=none)->
 (∀c u,H c=some u->¬cX ap e c->c≠q->H' c=some u)->Q (.ref l) H'
inductive nC(C:Addr):Sp
 |mk {q ap:Addr} {last:Int} {xp:DX bI} {d:Pz.Q Pz.Arr} {H:Hp} {Q:VK} {E:XK} (G:IA C H q ap last xp) (R:RepM k1 IsItem H d xp) (ok:Pz.tJ aD last d) (hne:d≠[]) (hfew:d.flat.length<16000000)
  (k:Mi C q ap d xp H Q):nC C [.ref q] H Q E
def uM(h:nC C vs H Q E):vs.length=1:=by cases h;rfl
def GW(K:Uy):TS:=cO (lX (eG K (ao 0) "piles") (tC (.int 0)))
def Jt(C:Addr):TS:=cj (eS C "add" (o8 C) [] E0 (ao 0) (au (ao 2) (au (ao 3) aF)))
def Mj(K:Uy)(C:Addr):TS:=aJ (d4 (ce K (ao 1)) (dZ K 2 (aW (aA 2) (aW (aA 3) dY))) (Jt C)) (GW K)
def Ju(K:Uy)(C:Addr)(a:TE):TS:=aJ (pq K (ao 0) a "last") (Mj K C)
def oG(K:Uy)(C:Addr)(a:TE):TS:=aJ (aZ (lX (eG K (ao 0) "piles") (fQ Ft (au (wY K "dict" Fs (eG K (ao 0) "piles")) aF))) (aA 1)) (Ju K C a)
def GX(b:TE):Prop:=∀(σ:L2.St)(H:Hp)(a:Addr)(vs:List V)(its:List (Int×Pz.Arr))(Q:VK),σ[1]?=some (some (.ref a))->H a=some (.lst vs)->aN (IsItem H) its vs->its≠[]->its.length<16000000->(∀H',Same H H'->Q (.int (Pz.lo (its.map (·.1)))) H')->b σ H Q
def wc(l:List Int):pO l=Pz.lo l:=by cases l<;>rfl
def DH{κ:Type}(xs:DX κ):xs.kv.map (·.1)=xs.map (·.1):=by unfold DX.kv;rw[QC];rfl
def IA.ne(G:IA C H q ap last xp)(i:cX ap xp c):c≠q:=λe=>by
 obtain⟨dx,a⟩:=G.ins;rcases i with z|⟨x,b,z⟩
 .have:=G.aH.root;rw[<- z,e,a]at this;cases this
 .have:=G.aH.qG x b;rw[<- z,e,a]at this;cases this
end
section
variable{K:Uy}{C q ap:Addr}{H:Hp}{last:Int}{xp:DX bI}
def k8(m:Int)(d:Pz.Q Pz.Arr)(l:List (Int×Pz.Arr))(x:Int×Pz.Arr):Pz.c9 aD m d (l++[x])=(Pz.c9 aD m d l).app (aD x.1 m) x:=by unfold Pz.c9;rw[RF];rfl
def p_(s:Same H H'):KT H H':=λa ws e=>s a _ e
variable{D:Ends}{σ:L2.St}{d:Pz.Q Pz.Arr}{H0:Hp}{p:Addr×List V}{i:Nat}{xi:DX bI}
structure LN(C q ap:Addr) (d:Pz.Q Pz.Arr) (H0:Hp) (xp:DX bI) (p:Addr×List V) (i:Nat) (H:Hp) (xi:DX bI):Prop where
 G:IA C H q ap (Pz.lowP d) xi
 R:RepM k1 IsItem H (Pz.c9 aD (Pz.lowP d) (d.drop (Pz.ck d)) ((d.get (Pz.ck d)).take i)) xi
 l:H p.1=some (.lst p.2)
 n:¬cX ap xi p.1
 a:aN (IsItem H) (d.get (Pz.ck d)) p.2
 sub:∀c,cX ap xi c->cX ap xp c\/H0 c=none
 kp:∀c u,H0 c=some u->¬cX ap xp c->c≠q->H c=some u
def LD(q:Addr)(l:Addr)(σ:L2.St):Prop:=∃u v,σ=[some (.ref q),some (.ref l),u,v]
def Ml(I:LN C q ap d H0 xp p i H xi)(F:(d.get (Pz.ck d))[i]?=some x)(h:IsItem H x v)(hs:LD q p.1 σ)(ok:(Pz.c9 aD (Pz.lowP d) (d.drop (Pz.ck d)) ((d.get (Pz.ck d)).take (i+1))).Ok)(dX:(Pz.c9 aD (Pz.lowP d) (d.drop (Pz.ck d)) ((d.get (Pz.ck d)).take (i+1))).flat.length<16000000)
 (k:∀o H' r,LD q p.1 o->LN C q ap d H0 xp p (i+1) H' r->D.nx o H'):dZ K 2 (aW (aA 2) (aW (aA 3) dY)) v σ H λs M=>Jt C D s M:=by
 obtain⟨t,_,rfl,N,b,rfl,hb⟩:=h;obtain⟨u,w,rfl⟩:=hs;refine yR N (rW (.va rfl) I.G.ins rfl (.c (.va rfl) (.c (.va rfl) .ni)) (.mk I.G λl J y j O hm A B f=>?_));have g:KT H y:=I.G.aH.kt (λ_ _ z=>HO.noConfusion z) f;rw[P0,F,show(some x).toList=[x]from rfl,k8]at ok dX;have E:RepM k1 IsItem y _ (kH xi (.inl (aD x.1 (Pz.lowP d))) l (.ref J)):=I.R.add (k:=aD x.1 (Pz.lowP d)) kI (IsItem.keep g) ⟨J,_,rfl,hm,b,rfl,g _ _ hb⟩;refine k _ y _ ⟨_,_,rfl⟩ ⟨⟨A,B,?_,E.low dX⟩,?_,f _ _ I.l I.n,λz=>?_,I.a.mono (IsItem.keep g),λc z=>?_,λc u e n m=>?_⟩
 .have:=E.len;have:=Pz.gG ok;exact QS (by lia) dX
 .rw[P0,F,show(some x).toList=[x]from rfl,k8];exact E
 .rcases i_ z with z|z
  .exact I.n z
  .rw[<- z,I.l]at j;cases j
 .rcases i_ z with z|rfl
  .exact I.sub c z
  .by_cases L:cX ap xp c
   .exact .inl L
   .refine .inr ?_;cases e:H0 c with
    |none=>rfl
    |some u=>
     by_cases z:c=q
     .obtain⟨_,P⟩:=I.G.ins;rw[z,P]at j;cases j
     .rw[I.kp c u e L z]at j;cases j
 .exact f _ _ (I.kp c u e n m) λz=>(I.sub c z).elim n λz=>by rw[z]at e;cases e
theorem we{κ:Type}[DecidableEq κ]{xs:DX κ}{k:κ}{a c:Addr}(i:cX a (jZ xs k) c):cX a xs c:=i.imp id λ⟨x,b,e⟩=>⟨x,(P_.mp b).1,e⟩
def Oc(T:qI K C)(l:Pz.IC aD last d)(v:d.flat.length<16000000)(I:LN C q ap d H0 xp p p.2.length H xi)(hs:LD q p.1 σ)
 (k:Mi C q ap d xp H0 D.rt):GW K D σ H:=by
 obtain⟨u,w,rfl⟩:=hs;have f:=I.R;rw[QW (by rw[I.a.len];exact Pq _)]at f;have f:RepM k1 IsItem H (Pz.mid aD d) xi:=f;have ha:=I.G.aH.root;obtain⟨x,o⟩:=I.G.ins;rcases f.find kI 0 with⟨_,y,_⟩|⟨p1,r,_,A⟩
 .have:=Pz.has_iff.mpr l.k3;rw[y]at this;cases this
 delta GW cO lX
 refine GS (.va rfl) I.G.ins T.cl T.np rfl ⟨ap,rfl,.inl ⟨_,.inl ha⟩,xi.kv,k1 0,.ref p1.1,ha,rfl,(by rw[jD,r];rfl),?_⟩;generalize g:upd H ap (.dK (jk xi.kv (k1 0)))=j;have b:∀c u,H c=some u->c≠ap->j c=some u:=λc u e n=>by rw[<- g,ai n];exact e
 obtain⟨B,E,F⟩:=I.G.aH.drop (λ_ _ z=>HO.noConfusion z) r (by rw[<- g,ag]) b;have h:KT H j:=λc ws e=>b c _ e λz=>by rw[z,ha]at e;cases e
 have s:RepM k1 IsItem j (Pz.left aD d) (jZ xi (k1 0)):=(f.drop kI 0).keep (IsItem.keep h);have t:(Pz.left aD d).flat.length<16000000:=by have:=l.pm.length_eq;rw[PJ]at this;lia
 have:=s.len;have:=Pz.gG l.ok.ok;exact k p1.1 p1.2 _ j ⟨⟨x,b _ _ o λe=>by rw[e,ha]at o;cases o⟩,B,by lia,s.low t⟩ s E (A.mono (IsItem.keep h)) F (I.sub _ (.inr ⟨_,dP r,rfl⟩)) (λc z=>I.sub c (we z)) λc u e n m=>b _ _ (I.kp c u e n m) λz=>n (.inl z)
theorem tk1(T:qI K C)(HM:GX tm)(o:Pz.IC aD last d)(ok:d.Ok)(f:d.flat.length<16000000)(r:∃dx,H q=some (.ins C dx [("last",.int last),("piles",.ref ap)])) (J:DL .dK H ap xi) (R2:RepM k1 IsItem H (d.drop (Pz.ck d)) xi) (L:∀c,cX ap xp c->c≠q) (t:H p.1=some (.lst p.2)) (E:p.1≠q) (n2:¬cX ap xi p.1) (F:aN (IsItem H) (d.get (Pz.ck d)) p.2) (sub:∀c,cX ap xi c->cX ap xp c) (kp:∀c u,H0 c=some u->¬cX ap xp c->H c=some u)
 (hs:σ=[some (.ref q),some (.ref p.1),none,none]) (k:Mi C q ap d xp H0 D.rt):Ju K C tm D σ H:=by
 subst hs;obtain⟨dx,r⟩:=r;refine HM _ H p.1 p.2 (d.get (Pz.ck d)) _ rfl t F o.k2 (QS (Pz.lH d _) f) λM G=>?_;refine⟨_,rfl,q,C,dx,_,rfl,G _ _ r,T.cl,T.nl,(by show 2<1000;decide),?_⟩;generalize g:upd M q (.ins C dx (gp "last" (.int (Pz.lo ((d.get (Pz.ck d)).map (·.1)))) [("last",.int last),("piles",.ref ap)]))=v;have b:∀c u,H c=some u->c≠q->v c=some u:=λc u e n=>by rw[<- g,ai n];exact G c u e
 have N:v q=some (.ins C dx [("last",.int (Pz.lowP d)),("piles",.ref ap)]):=by rw[<- g,ag];rfl
 have h:KT H v:=λc ws e=>b c _ e λz=>by rw[z,r]at e;cases e
 have ge:∀y∈d.get (Pz.ck d),Pz.lowP d<=y.1:=λy w=>Pz.Ag (Pt.mpr ⟨y,w,rfl⟩);have fl:∀i,((Pz.c9 aD (Pz.lowP d) (d.drop (Pz.ck d)) ((d.get (Pz.ck d)).take i))).flat.length<16000000:=λi=>by rw[(Pz.iI o.o1.ok).length_eq,PJ];have:=QG i (d.get (Pz.ck d));have:=(Pz.kF ok.nk (Pz.ck d)).length_eq;rw[PJ]at this;lia
 have j:∀i,(Pz.c9 aD (Pz.lowP d) (d.drop (Pz.ck d)) ((d.get (Pz.ck d)).take i)).Ok:=λi=>(o.o1.c9 λx A=>ge x (Rp A)).ok;have h3:=fl 0;have h2:=Pz.gG (j 0);have R:=R2.len;rw[List.take_zero]at h3 h2;have O:(Pz.c9 aD (Pz.lowP d) (d.drop (Pz.ck d)) [])=d.drop (Pz.ck d):=rfl;rw[O]at h3 h2;refine⟨_,rfl,p.1,rfl,⟨_,SqL.of (b _ _ t E)⟩,cf (K:=K) (a:=p.1) (xs:=p.2) (λi σ s=>LD q p.1 σ/\∃xi,LN C q ap d H0 xp p i s xi)
  ⟨⟨none,none,rfl⟩,xi,⟨⟨dx,N⟩,J.keep λc u e i=>b c u e (L c (sub c i)),by lia,R2.low h3⟩,?_,b _ _ t E,n2,F.mono (IsItem.keep h),λc i=>.inl (sub c i),λc u e n m=>b c u (kp c u e n) m⟩
  (λi σ s _ ⟨_,xi,I⟩=>SqL.of I.l) (λi y σ s P ⟨hs,xi,I⟩=>?_) λσ s ⟨hs,xi,I⟩=>Oc T o f I hs k⟩
 .rw[List.take_zero];exact R2.keep (IsItem.keep h)
 .obtain⟨x,A,w⟩:=I.a.get P;exact Ml I A w hs (j _) (fl _) λQ H' B h1 h2=>⟨h1,B,h2⟩
theorem xS(T:qI K C)(t:∀(last:Int)(ap:Addr),List.lookup ("add" : Str) ([("last",V.int last),("piles",V.ref ap)]:List (Str×V))=none) (HM:GX tm) (h:nC C vs H Q E) :
 oG K C tm {nx:=λ_ H'=>Q .bB H',rt:=Q} (br ["self","pile","price","thing"] vs) H:=by
 obtain @⟨q,ap,last,xp,d,H,Q,_,G,R,ok,hne,hfew,k⟩:=h;have o:=Pz.xH wb ok hne;have a:=G.aH.root
 delta oG aJ aZ lX
 refine GS (.va rfl) G.ins T.cl T.np rfl ⟨ap,rfl,.inl ⟨_,.inl a⟩,GS (.va rfl) G.ins T.cl T.np rfl ⟨.inr (.inr (.inl ⟨rfl,.inl ⟨_,a⟩⟩)),ap,_,rfl,rfl,a,λv r=>?_⟩⟩;have f:ap≠v:=ax a r;refine⟨v,ap,xp.kv,d.keys,rfl,ag,(by rw[ai f];exact a),(by rw[DH,R.keys];rfl),(by intro e;exact hne (T7.mp e)),?_⟩;rcases R.find kI (Pz.ck d)with⟨_,_,e⟩|⟨w,l,_,x⟩
 .exact(o.k2 e).elim
 refine⟨xp.kv,k1 (Pz.ck d),.ref w.1,(by rw[ai f];exact a),(by rw[wc];rfl),(by rw[jD,l];rfl),?_⟩;generalize g:upd (upd H v (rX v ap)) ap (.dK (jk xp.kv (k1 (Pz.ck d))))=s;have b:∀c u,H c=some u->c≠ap->s c=some u:=λc u e n=>by rw[<- g,ai n,ai (ax e r)];exact e
 obtain⟨y,A,n2⟩:=G.aH.drop (λ_ _ z=>HO.noConfusion z) l (by rw[<- g,ag]) b;have j:KT H s:=λc ws e=>b c _ e λz=>by rw[z,a]at e;cases e
 obtain⟨dx,m⟩:=G.ins;exact tk1 T HM o ok.ok hfew ⟨dx,b _ _ m λe=>by rw[e,a]at m;cases m⟩ y ((R.drop kI _).keep (IsItem.keep j)) (λc=>G.ne) A (G.ne (.inr ⟨_,dP l,rfl⟩)) n2 (x.mono (IsItem.keep j)) (λc=>we) (λc u e n=>b c u e λz=>n (.inl z)) rfl k
end
structure jf(K:Uy) (C:Addr):Prop where
 cl:qC K C
 nr:NoAttr K C "rules"
 nt:NoAttr K C "told"
 no:NoAttr K C "offers"
 ns:NoAttr K C "settled"
 nl:NoAttr K C "lacking"
def Mm(A:PA):(pf A).lookup ("rules" : Str)=some (V.ref A.ar):=rfl
def DI(A:PA):(pf A).lookup ("told" : Str)=some (V.ref A.ta):=rfl
def GY(A:PA):(pf A).lookup ("offers" : Str)=some (V.ref A.aq):=rfl
def Jv(A:PA):(pf A).lookup ("settled" : Str)=some (V.ref A.sa):=rfl
def Jw(A:PA):(pf A).lookup ("lacking" : Str)=some (V.ref A.la):=rfl
def GZ(A:PA)(last:Int):(qf A last).lookup ("add" : Str)=none:=rfl
section
variable{K:Uy}
inductive d_(CP CQ:Addr):Sp
 |mk {B H:Hp} {A:PA} {rs:Pz.RS} {S:Pz.PS} {xs xl xr:DX (List bI)} {b:Addr} {a:Pz.Arr} {p:Int} {n m:Option Int} {Q:VK} {E:XK} (P:PAt CP CQ B H A rs S xs xl xr) (hb:H b=some (.tup (mT a))) (f:Pz.js (Pz.bp aD S a p n m)) (k:∀H',PAt CP CQ B H' A rs (Pz.bp aD S a p n m) xs xl xr->Q .bB H'):d_ CP CQ [.ref A.o,.ref b,.int p,vO n,vO m] H Q E
def Jx:R2:=λx y H Q=>y=.bB/\Q (.bl (decide (x=.bB))) H
def G4:nJ X (compareOp .Is) Jx:=Gf
def Fv:R2:=yN λi j=>.bl (decide (i<j))
def G5(K:Uy)(CQ:Addr):TS:=aJ (lW (eG K (ao 0) "told") (ao 1) (dc (au (ao 2) (au (ao 3) (au (ao 4) aF)))))
 (cj (eS CQ "add" (o8 CQ) [] E0 (eG K (ao 0) "offers") (au (ao 2) (au (ao 1) aF))))
def Jy(K:Uy)(CQ:Addr):TS:=dD (IJ (bQ (bv Jx (ao 5) (tC .bB))) (bQ (bv Fv (ao 2) (bv (nK K) (ao 5) (tC (.int 0)))))) (G5 K CQ) cb
def An(K:Uy)(CQ:Addr):TS:=aJ (aZ (ua (eG K (ao 0) "told") (ao 1)) (aA 5)) (Jy K CQ)
def r_(h:d_ CP CQ vs H Q E):vs.length=5:=by cases h;rfl
variable{D:Ends}
theorem bE.fld(P:bE CP CQ B H A rs S xs xl xr xp kt col)(cl:qC K CP)(n:NoAttr K CP f)(a:(pf A).lookup f=some v)(h:σ[i]?=some (some (.ref A.o))):Reads (eG K (ao i) f) σ H v:=.fld (.va h) P.po.ins cl n a
def bE.rd(P:bE CP CQ B H A rs S xs xl xr xp kt col)(cl:qC K CP)(n:NoAttr K CP f)(a:(pf A).lookup f=some v)(h:σ[i]?=some (some (.ref A.o)))(q:Q v H):eG K (ao i) f σ H Q:=P.fld cl n a h _ q
def si(TP:jf K CP)(P:bE CP CQ B H A rs S xs xl xr xp kt col)(hb:H b=some (.tup (mT a)))(fit:Pz.js (Pz.iJ aD S a p n m))
 (k:∀σ H',PAt CP CQ B H' A rs (Pz.iJ aD S a p n m) xs xl xr->D.nx σ H'):G5 K CQ D [some (.ref A.o),some (.ref b),some (.int p),some (vO n),some (vO m),some w] H:=by
 delta G5 aJ lW
 refine nX (.c (.va rfl) (.c (.va rfl) (.c (.va rfl) .ni))) rfl λt i=>?_;have s1:Same H (upd H t (.tup [.int p,vO n,vO m])):=aw i;have s:=P.more s1;have u:=s.po.td;have e:=s1 _ _ hb;have E:kt.length<sizeLine:=by have e1:S.told.length=kt.length:=P.po.tr.len;have e2:=fit.t;have R:=(Pz.rS S.told a (p,n,m)).1;have G:(Pz.iJ aD S a p n m).told=Pz.tput S.told a (p,n,m):=rfl;rw[G]at e2;rw[Qf];unfold Pz.L at e2;lia
 refine s.rd TP.cl TP.nt (DI A) rfl ⟨_,rfl,A.ta,_,rfl,DPut.t (k:=ak a) u e E,?_⟩;have f:=s.tell (a:=a) (x:=(p,n,m)) (p:=t) ag;have j:upd (upd H t (.tup [.int p,vO n,vO m])) A.ta (.dT (cg kt (ak a) (.ref t))) b=some (.tup (mT a)):=by rw[ai (λz=>by rw[z,u]at e;cases e)];exact e
 generalize upd (upd H t (.tup [.int p,vO n,vO m])) A.ta (.dT (cg kt (ak a) (.ref t)))=I at f j;clear s u e s1 E i;have g:=fit.p;have h:=fit.pf;have al:=Pz.ff S.aH (aD p S.last) (p,a);have J:(Pz.iJ aD S a p n m).aH=S.aH.app (aD p S.last) (p,a):=rfl;rw[J]at g h;unfold Pz.L at g h;have pr2:RepM k1 IsItem I S.aH xp:=f.p1.r;refine rW (f.fld TP.cl TP.no (GY A) rfl) f.po.CM (GZ A _) (.c (.va rfl) (.c (.va rfl) .ni)) (.mk ⟨f.po.CM,f.p1.d,by rw[<- pr2.len];lia,pr2.low (by lia)⟩ ?_);intro l M N v O y Q C q;have F:=f.p1.d.kt (λ_ _ z=>HO.noConfusion z) q;exact k _ N ⟨_,_,_,f.pile C (pr2.add kI (IsItem.keep F) ⟨M,_,rfl,y,b,rfl,F _ _ j⟩) (λc z=>(i_ z).imp id λz=>by rw[z];exact v) q⟩
def Ao(TP:jf K CP)(P:bE CP CQ B H A rs S xs xl xr xp kt col)(hb:H b=some (.tup (mT a)))(fit:Pz.js (Pz.bp aD S a p n m))
 (k:∀σ H',PAt CP CQ B H' A rs (Pz.bp aD S a p n m) xs xl xr->D.nx σ H'):Jy K CQ D [some (.ref A.o),some (.ref b),some (.int p),some (vO n),some (vO m),some ((cZ kt (ak a)).getD .bB)] H:=by
 unfold Pz.bp at fit k;rcases P.po.tr.find a with⟨e1,e2⟩|⟨v,x,e1,e2,q,rfl,d⟩
 .rw[PN (show Pz.gu S a p=true by unfold Pz.gu;rw[e2])]at fit k;rw[e1];exact⟨_,rfl,rfl,_,rfl,si TP P hb fit k⟩
 .rw[e1];refine⟨_,rfl,rfl,_,rfl,?_⟩;refine gw (c:=decide (p<x.1)) (.op (.va rfl) (.ix (.va rfl) d rfl) (λ_ q=>⟨p,x.1,rfl,rfl,q⟩)) (λh=>?_) (λh=>?_)
  .rw[PN (show Pz.gu S a p=true by unfold Pz.gu;rw[e2];exact h)]at fit k;exact si TP P hb fit k
  .rw[PK λz=>by unfold Pz.gu at z;rw[e2]at z;exact h z]at k;exact k _ H ⟨xp,kt,col,P⟩
def uN(TP:jf K CP)(a:qI K CQ)(h:d_ CP CQ vs H Q E):An K CQ {nx:=λ_ H'=>Q .bB H',rt:=Q} (br ["self","arrow","price","number","mid","known"] vs) H:=by
 obtain⟨⟨b,kt,col,P⟩,hb,fit,k⟩:=h
 delta An aJ aZ ua
 exact P.rd TP.cl TP.nt (DI _) rfl ⟨_,rfl,.inr ⟨_,.inl P.po.td⟩,_,rfl,_,DGet.t (k:=ak _) P.po.td hb,Ao TP P hb fit λ_=>k⟩
def qa(P:PAt CP CQ B H A rs S xs xl xr)(f:Pz.js (Pz.bp aD S a p n m))(h:Reads ta σ H (.ref A.o))(c:Makes te σ H (mT a))(d:∀H',Same H H'->ReadsA tr σ H' [.int p,vO n,vO m])(k:∀H',PAt CP CQ B H' A rs (Pz.bp aD S a p n m) xs xl xr->D.nx σ H') :
 cj (eS CP "offer" (d_ CP CQ) [] E0 ta (au te tr)) D σ H:=by
 have e:=P;obtain⟨_,_,_,g⟩:=e;obtain⟨dx,i⟩:=g.po.ins;exact h _ ⟨A.o,dx,_,rfl,i,rfl,c _ λq b=>d _ (aw b) _ (.mk (P.more (aw b)) ag f k)⟩
end
section
variable{K:Uy}{CP CQ:Addr}{B H:Hp}{A:PA}{rs:Pz.RS}{S:Pz.PS}{xs xl xr:DX (List bI)}{xp:DX bI}{kt:List (List bI×V)}{col:Addr->Nat}
theorem bE.obj(P:bE CP CQ B H A rs S xs xl xr xp kt col)(hz:H z=none):¬cX A.ap xp z/\¬cX A.sa xs z/\¬cX A.la xl z/\¬cX A.ar xr z/\z≠A.ta/\z≠A.o/\z≠A.aq:=by
 refine⟨λi=>P.p1.d.obj i hz,λi=>P.p2.d.obj i hz,λi=>P.p3.d.obj i hz,λi=>P.p4.d.obj i hz,λe=>?_,λe=>?_,λe=>?_⟩
 .rw[e,P.po.td]at hz;cases hz
 .obtain⟨_,h⟩:=P.po.ins;rw[e,h]at hz;cases hz
 .obtain⟨_,h⟩:=P.po.CM;rw[e,h]at hz;cases hz
def DJ{α:Type}{it:Hp->α->V->Prop}(E:∀H H',KT H H'->∀x v,it H x v->it H' x v){a:Addr}{f:Str}{n:DX (List bI)}{d:Pz.MD (Int×Int) α}(P:bE CP CQ B H A rs S xs xl xr xp kt col)(q:DL .dT H a n)(F:RepM k2 it H d n)
 (cl:qC K CP) (G:NoAttr K CP f) (I:(pf A).lookup f=some (V.ref a)) {σ:L2.St} {j:Nat} {b:Addr} {k:Int×Int} (h0:σ[0]?=some (some (.ref A.o))) (J:σ[j]?=some (some (.ref b))) (hb:H b=some (.tup [.int k.1,.int k.2])) {Q:VK}
 (y:∀(l:Addr)(vs:List V)(g H1:Hp),Same H H1->Same B g->KT H1 g->bE CP CQ g H1 A rs S xs xl xr xp kt col->H1 l=some (.lst vs)->(∀h,Same g h->DL .dT h a n->h l=some (.lst vs)/\aN (it h) (d.get k) vs)->Q (.ref l) H1) :
 dI (eG K (ao 0) f) (ao j) (eJ aF) σ H Q:=by
 delta dI
 refine P.rd cl G I h0 ⟨a,rfl,.inr ⟨_,.inl q.root⟩,_,J,PQ _,λz hz=>?_⟩;have s1:Same H (upd H z (.lst [])):=aw hz;have r:upd H z (.lst []) b=some (.tup ((k2 k).map kV)):=s1 _ _ hb;refine⟨_,DGet.t (s1 _ _ q.root) r,?_⟩;have C:=P.more s1;rcases F.find iO k with⟨i,L,s⟩|⟨p,i,L,s⟩
 .rw[jD,i];obtain⟨g,u,m,D,w⟩:=C.wide (λc=>c=z) λc e=>by subst e;exact P.obj hz
  refine y z [] g _ s1 u m w ag λh s2 _=>⟨s2 _ _ (D z _ rfl ag),?_⟩;rw[s];exact .nil
 .rw[jD,i];obtain⟨g,u,m,D,w⟩:=C.wide (λ_=>False) λ_ e=>e.elim;refine y p.1 p.2 g _ s1 u m w (s1 _ _ (q.qG _ (dP i))) λh s2 M=>⟨M.qG _ (dP i),s.mono (E _ _ λc ws e=>s2 _ _ (m _ _ (s1 _ _ e)))⟩
def Wk(J:L2.It)(g:TG)(tb:TS)(D:Ends)(σ:L2.St)(H:Hp):Prop:=∃W:Nat->Nat->L2.St->Hp->Prop,(∃m,W 0 m σ H)/\∀i m σ H,W i m σ H->
 (J.stop i H/\D.nx σ H)\/(J.go i H/\∃N:L2.St->Hp->Prop,(∀a H',N a H'->∃c,c<m/\W (i+1) c a H')/\∀x H',J.BY i H x H'->g x σ H' λb d=>tb {D with nx:=N,ct:=N,bk:=D.nx} b d)
def dC{tb:TS}{D:Ends}{σ:L2.St}(h:tl σ H λx H1=>∃a,x=.ref a/\(∃xs,SqL K H1 a xs)/\Wk (y8 K a) g tb D σ H1):d4 (ce K tl) g tb D σ H:=h
theorem qb{α:Type}{it:Hp->α->V->Prop}{l:Addr}{vs:List V}{its:List α}{g:TG}{tb:TS}{D:Ends}{σ:L2.St}{H1:Hp}(b:L2.St->Prop)(step:Pz.PS->α->Pz.PS)(S0:Pz.PS)(W:Pz.PS->Hp->Prop)(h0:b σ)(h1:W S0 H1)
 (d:∀S H,W S H->Rd H l (.lst vs)/\aN (it H) its vs)
 (hb:∀(i:Nat)(x:α)(v:V)(σ:L2.St)(H:Hp)(D':Ends),its[i]?=some x->it H x v->b σ->W ((its.take i).foldl step S0) H->(∀c H',b c->W (step ((its.take i).foldl step S0) x) H'->D'.nx c H')->g v σ H λf j=>tb D' f j)
 (hd:∀σ H,b σ->W (its.foldl step S0) H->D.nx σ H):Wk (y8 K l) g tb D σ H1:=by
 have m:its.length=vs.length:=(d _ _ h1).2.len;refine cf (K:=K) (a:=l) (xs:=vs) (λi σ H=>b σ/\W ((its.take i).foldl step S0) H) ⟨h0,h1⟩ (λi σ H _ ⟨_,w⟩=>Or.inl (d _ _ w).1) (λi v σ H k ⟨s,w⟩=>?_) λσ H ⟨s,w⟩=>?_
 .obtain⟨x,h,ix⟩:=(d _ _ w).2.get k;have e:(its.take (i+1)).foldl step S0=step ((its.take i).foldl step S0) x:=by rw[P0,h,RF];rfl
  rw[e];exact hb i x v σ H _ h ix s w λ_ _=>And.intro
 .rw[QW (by lia)]at w;exact hd σ H s w
def qc{α:Type}{it:Hp->α->V->Prop}(C:∀H H',KT H H'->∀x v,it H x v->it H' x v){a:Addr}{f:Str}{t:DX (List bI)}{d:Pz.MD (Int×Int) α}(P:bE CP CQ B H A rs S xs xl xr xp kt col)(E:DL .dT H a t)(F:RepM k2 it H d t)
 (cl:qC K CP) (G:NoAttr K CP f) (I:(pf A).lookup f=some (V.ref a)) {σ:L2.St} {j:Nat} {b:Addr} {k:Int×Int} (h0:σ[0]?=some (some (.ref A.o))) (J:σ[j]?=some (some (.ref b))) (hb:H b=some (.tup [.int k.1,.int k.2])) {g:TG} {tb:TS} {D:Ends} (m:L2.St->Prop) (step:Pz.PS->α->Pz.PS) (W:Hp->Pz.PS->Hp->Prop) (hs:m σ)
 (L:∀h H1,bE CP CQ h H1 A rs S xs xl xr xp kt col->W h S H1) (n:∀h T H1,W h T H1->Same h H1/\DL .dT H1 a t)
 (M:∀h (i:Nat) x v σ c (D':Ends),KT H c->(d.get k)[i]?=some x->it c x v->m σ->W h (((d.get k).take i).foldl step S) c->(∀p H',m p->W h (step (((d.get k).take i).foldl step S) x) H'->D'.nx p H')->g v σ c λu N=>tb D' u N)
 (hd:∀h σ c,Same B h->KT H c->m σ->W h ((d.get k).foldl step S) c->D.nx σ c):d4 (ce K (dI (eG K (ao 0) f) (ao j) (eJ aF))) g tb D σ H:=by
 refine dC (DJ C P E F cl G I h0 J hb λl vs h H1 s1 O Q R y q=>?_);have r:∀T c,W h T c->KT H c:=λT c w a ws e=>(n h T c w).1 _ _ (Q _ _ (s1 _ _ e));exact⟨l,rfl,⟨_,SqL.of y⟩,qb (it:=it) m step S (W h) hs (L h H1 R) (λT c w=>⟨.inl (q c (n h T c w).1 (n h T c w).2).1,(q c (n h T c w).1 (n h T c w).2).2⟩)
  (λi x v σ c D' e1 e2 U z=>M h i x v σ c D' (r _ _ z) e1 e2 U z) λσ c s w=>hd h σ c O (r _ _ w) s w⟩
def NS(a:H b=some (.tup [x,y,z]))(k:Q (((σ.set i (some x)).set j (some y)).set l (some z)) H):dZ K 3 (aW (aA i) (aW (aA j) (aW (aA l) dY))) (.ref b) σ H Q:=⟨b,_,rfl,SqT.of a,rfl,_,_,rfl,_,_,rfl,_,_,rfl,rfl,k⟩
def gx{α:Type}{step:Pz.PS->α->Pz.PS}(a:∀S x,Pz.fx S (step S x)){its:List α}{S0:Pz.PS}(h:Pz.js (its.foldl step S0)){i:Nat}{x:α}(b:its[i]?=some x):Pz.js (step ((its.take i).foldl step S0) x):=by
 have e:(its.take (i+1)).foldl step S0=step ((its.take i).foldl step S0) x:=by rw[P0,b,RF];rfl
 rw[<- e];refine Pz.fx.fit (Pz.cE step a (its.drop (i+1)) _) ?_;rw[<- RF,Q2];exact h
def cY:R2:=yN λi j=>.int (i+j)
def Reads.add(h:Reads ta σ H (.int i))(h':Reads tb σ H (.int j)):Reads (bv cY ta tb) σ H (.int (i+j)):=h.op h' λ_ q=>⟨i,j,rfl,rfl,q⟩
inductive kf(CP CQ:Addr):Sp
 |mk {B H:Hp} {A:PA} {rs:Pz.RS} {S:Pz.PS} {xs xl xr:DX (List bI)} {c:Addr} {r:Pz.Rule} {num mid price:Int} {Q:VK} {E:XK} (P:PAt CP CQ B H A rs S xs xl xr) (hr:IsRule H r (.ref c)) (h2:2<=r.2.2.2.length) (f:Pz.js (Pz.first aD S num r mid price))
  (k:∀H' xl',PAt CP CQ B H' A rs (Pz.first aD S num r mid price) xs xl' xr->Q .bB H'):kf CP CQ [.ref A.o,.int num,.ref c,.int mid,.int price] H Q E
def Jz(K:Uy)(CP CQ:Addr):TS:=cj (eS CP "offer" (d_ CP CQ) [] E0 (ao 0) (au (dc (au (bv (nK K) (ao 2) (tC (.int 0))) (au (bv (nK K) (ao 2) (tC (.int 1))) (au (ao 6) aF))))
 (au (bv cY (bv cY (ao 4) (ao 7)) (tC (.int 1))) (au (ao 1) (au (ao 3) aF)))))
def Mn(K:Uy)(CP CQ:Addr):TS:=d4 (ce K (dI (eG K (ao 0) "settled") (ao 5) (eJ aF))) (dZ K 2 (aW (aA 6) (aW (aA 7) dY))) (Jz K CP CQ)
def JA(K:Uy)(CP CQ:Addr):TS:=aJ (cj (mS K (eG K (ao 0) "lacking") (ao 5) (dc (au (ao 1) (au (ao 2) (au (ao 4) aF)))))) (Mn K CP CQ)
def Ap(K:Uy)(CP CQ:Addr):TS:=aJ (aZ (dc (au (ao 3) (au (bv (nK K) (bv (nK K) (ao 2) (tC (.int 3))) (tC (.int 1))) aF))) (aA 5)) (JA K CP CQ)
def sj(h:kf CP CQ vs H Q E):vs.length=5:=by cases h;rfl
theorem Aq(A:PA):(pf A).lookup ("offer" : Str)=none:=rfl
def DM{l:List Int}(h:2<=l.length):(l.map V.int)[1]?=some (.int (Pz.nth1 l)):=by rcases l with _|⟨_,_|⟨_,_⟩⟩<;>first|rfl|(simp at h)
variable{D:Ends}{σ:L2.St}{b c q:Addr}{r:Pz.Rule}{num mid price:Int}
abbrev LF(r:Pz.Rule)(num mid price:Int)(S:Pz.PS)(x:Int×Int):Pz.PS:=Pz.bp aD S (r.1,r.2.1,x.1) (price+x.2+1) (some num) (some mid)
def Mo(A:PA)(num:Int)(c:Addr)(mid price:Int)(b:Addr)(σ:L2.St):Prop:=∃u v,σ=[some (.ref A.o),some (.int num),some (.ref c),some (.int mid),some (.int price),some (.ref b),u,v]
def G6(P:PAt CP CQ B H A rs S xs xl xr)(h:IsSet H x v)(hs:Mo A num c mid price b σ)(e:H c=some (.tup [.int r.1,.int r.2.1,.int r.2.2.1,.ref q]))(f:Pz.js (LF r num mid price S x))
 (k:∀a H',Mo A num c mid price b a->PAt CP CQ B H' A rs (LF r num mid price S x) xs xl xr->D.nx a H'):dZ K 2 (aW (aA 6) (aW (aA 7) dY)) v σ H λd g=>Jz K CP CQ D d g:=by
 obtain⟨t,rfl,i⟩:=h;obtain⟨u,w,rfl⟩:=hs;exact yR i (qa P f (.va rfl) (.t (.c (.ix (.va rfl) e rfl) (.c (.ix (.va rfl) e rfl) (.c (.va rfl) .ni))) rfl) (λ_ _=>.c (.add (.add (.va rfl) (.va rfl)) .k) (.c (.va rfl) (.c (.va rfl) .ni))) λH'=>k _ H' ⟨_,_,rfl⟩)
def G7(TP:jf K CP)(P:bE CP CQ B H A rs S xs xl xr xp kt col)(hb:H b=some (.tup [.int mid,.int (Pz.nth1 r.2.2.2)]))(C:H c=some (.tup [.int r.1,.int r.2.1,.int r.2.2.1,.ref q]))(I:H q=some (.tup (r.2.2.2.map .int)))(fit:Pz.js (Pz.first aD S num r mid price))(hs:σ=[some (.ref A.o),some (.int num),some (.ref c),some (.int mid),some (.int price),some (.ref b),none,none])
 (k:∀n H' u,PAt CP CQ B H' A rs (Pz.first aD S num r mid price) xs u xr->D.nx n H'):JA K CP CQ D σ H:=by
 subst hs;have f:Pz.js (Pz.pX S num r mid price):=Pz.fx.fit (Pz.cE _ (λS x=>Pz.ci S _ _ _ _) _ _) fit;have E:=f.l;have F:=f.lf;have al:=Pz.ff S.aL (mid,Pz.nth1 r.2.2.2) (num,r,price);have J:(Pz.pX S num r mid price).aL=S.aL.app (mid,Pz.nth1 r.2.2.2) (num,r,price):=rfl;rw[J]at E F;unfold Pz.L at E F;have g:RepM k2 IsLack H S.aL xl:=P.p3.r;refine pZ (a:=A.la) (b:=b) (xs:=xl) (k:=k2 (mid,Pz.nth1 r.2.2.2)) (ws:=[.int num,.ref c,.int price]) P.p3.d (P.fld TP.cl TP.nl (Jw A) rfl) (.va rfl) hb (λH' _=>.t (.c (.va rfl) (.c (.va rfl) (.c (.va rfl) .ni))) rfl) (by rw[<- g.len];lia) (g.low (by lia)) ?_;intro l p M N U hm hd kp;have e:=P.p3.d.kt (λ_ _ z=>HO.noConfusion z) kp;have y:bE CP CQ B M A rs (Pz.pX S num r mid price) xs _ xr _ _ _:=P.pX hd (g.add (k:=(mid,Pz.nth1 r.2.2.2)) (v:=(num,r,price)) iO (IsLack.keep e) ⟨p,_,rfl,hm,c,q,rfl,e _ _ C,e _ _ I⟩) (λc z=>(i_ z).imp id λz=>by rw[z];exact N) kp;exact qc (λH H' k=>IsSet.keep k) y y.p2.d y.p2.r TP.cl TP.ns (Jv A) (j:=5) (k:=(mid,Pz.nth1 r.2.2.2)) rfl rfl (e _ _ hb) (Mo A num c mid price b) (LF r num mid price) (λh T m=>PAt CP CQ h m A rs T xs _ xr) ⟨none,none,rfl⟩ (λh H1 P=>⟨_,_,_,P⟩)
  (λh T H1 ⟨_,_,_,P⟩=>⟨P.same,P.p2.d⟩) (λh i x v σ m D' G e1 e2 O Q k=>G6 Q e2 O (G _ _ (e _ _ C)) (gx (step:=LF r num mid price) (λS x=>Pz.ci S _ _ _ _) fit e1) k) λh σ m R G s w=>k σ m _ (w.less R)
theorem uO{vs:List V}(TP:jf K CP)(h:kf CP CQ vs H Q E):Ap K CP CQ {nx:=λ_ H'=>Q .bB H',rt:=Q} (br ["self","number","rule","mid","price","start","state","second"] vs) H:=by
 obtain⟨⟨xp,kt,col,P⟩,⟨_,q,e,a,d⟩,h2,fit,k⟩:=h;cases e
 delta Ap aJ aZ
 exact nX (.c (.va rfl) (.c (.ix (.ix (.va rfl) a rfl) d (cV (j:=1) (DM h2))) .ni)) rfl λb hb=>G7 TP (P.more (aw hb)) ag (aw hb _ _ a) (aw hb _ _ d) fit rfl λ_=>k
end
section
variable{K:Uy}{xp:DX bI}{kt:List (List bI×V)}{col:Addr->Nat}
def fX(K:Uy):List V->Hp->VK->Prop:=λxs H Q=>∃p a,xs=[.ref p]/\(SqL K H p a\/SqT K H p a)/\Q (.int a.length) H
def bX:bV X (.builtin "len") (fX X.K):=pB
abbrev tI(K:Uy)(i:Nat)(n:Int):TE:=bv (nK K) (ao i) (tC (.int n))
def qd(rs:Pz.RS):Prop:=∀k x,x∈rs.get k->1<=x.2.2.2.2.length
inductive iW(CP CQ:Addr):Sp
 |mk {B H:Hp} {A:PA} {rs:Pz.RS} {S:Pz.PS} {xs xl xr:DX (List bI)} {b:Addr} {a:Pz.Arr} {price:Int} {Q:VK} {E:XK} (P:PAt CP CQ B H A rs S xs xl xr) (ha:H b=some (.tup (mT a))) (rok:qd rs) (f:Pz.js (Pz.settle aD rs S a price))
  (k:∀H' xs' xl',PAt CP CQ B H' A rs (Pz.settle aD rs S a price) xs' xl' xr->Q .bB H'):iW CP CQ [.ref A.o,.ref b,.int price] H Q E
def JB(K:Uy)(CP CQ:Addr):TS:=dD (bQ (bv tQ (fQ (fX K) (au (tI K 5 3) aF)) (tC (.int 1))))
 (cj (eS CP "offer" (d_ CP CQ) [] E0 (ao 0) (au (dc (au (tI K 5 0) (au (tI K 5 1) (au (tI K 1 2) aF)))) (au (bv cY (ao 2) (tC (.int 1))) (au (ao 4) (au (tC .bB) aF))))))
 (cj (eS CP "settle_first" (kf CP CQ) [] E0 (ao 0) (au (ao 4) (au (ao 5) (au (tI K 1 2) (au (ao 2) aF))))))
def Mp(K:Uy)(CP CQ:Addr):TS:=d4 (ce K (dI (eG K (ao 0) "rules") (ao 3) (eJ aF))) (dZ K 2 (aW (aA 4) (aW (aA 5) dY))) (JB K CP CQ)
def JC(K:Uy)(CP CQ:Addr):TS:=cj (eS CP "offer" (d_ CP CQ) [] E0 (ao 0) (au (dc (au (tI K 5 0) (au (tI K 5 1) (au (tI K 1 2) aF)))) (au (bv cY (bv cY (ao 6) (ao 2)) (tC (.int 1))) (au (ao 4) (au (tI K 1 0) aF)))))
def Mq(K:Uy)(CP CQ:Addr):TS:=aJ (d4 (ce K (dI (eG K (ao 0) "lacking") (ao 3) (eJ aF))) (dZ K 3 (aW (aA 4) (aW (aA 5) (aW (aA 6) dY)))) (JC K CP CQ)) (Mp K CP CQ)
def JD(K:Uy)(CP CQ:Addr):TS:=aJ (cj (mS K (eG K (ao 0) "settled") (ao 3) (dc (au (tI K 1 2) (au (ao 2) aF))))) (Mq K CP CQ)
def wf(K:Uy)(CP CQ:Addr):TS:=aJ (aZ (dc (au (tI K 1 0) (au (tI K 1 1) aF))) (aA 3)) (JD K CP CQ)
def qe(h:iW CP CQ vs H Q E):vs.length=3:=by cases h;rfl
def Ar(A:PA):(pf A).lookup ("settle_first" : Str)=none:=rfl
def Reads.len(h:Reads ta σ H (.ref q))(a:H q=some (.tup ws)):Reads (fQ (fX K) (au ta aF)) σ H (.int ws.length):=λ_ k=>h _ ⟨q,ws,rfl,.inr (SqT.of a),k⟩
def Reads.Cb(h:Reads ta σ H (.int m))(h':Reads tb σ H (.int n)):Reads (bv tQ ta tb) σ H (.bl (decide (m=n))):=h.op h' λ_ q=>⟨rfl,by rw[show decide (V.int m=V.int n)=decide (m=n)from decide_eq_decide.mpr ⟨λe=>by injection e,λe=>by rw[e]⟩];exact q⟩
variable{D:Ends}{σ:L2.St}{b b0:Addr}{a:Pz.Arr}{price:Int}
def IK(A:PA)(b0:Addr)(price:Int)(b:Addr)(σ:L2.St):Prop:=∃u v w,σ=[some (.ref A.o),some (.ref b0),some (.int price),some (.ref b),u,v,w]
def Mr(P:PAt CP CQ B H A rs S xs xl xr)(h:IsLack H x v)(hs:IK A b0 price b σ)(ha:H b0=some (.tup (mT a)))(f:Pz.js (Pz.k7 aD a price S x))
 (k:∀d H',IK A b0 price b d->PAt CP CQ B H' A rs (Pz.k7 aD a price S x) xs xl xr->D.nx d H'):dZ K 3 (aW (aA 4) (aW (aA 5) (aW (aA 6) dY))) v σ H λe i=>JC K CP CQ D e i:=by
 obtain⟨t,_,rfl,j,c,q,rfl,g,l⟩:=h;obtain⟨u,w,z,rfl⟩:=hs;exact NS j (qa P f (.va rfl) (.t (.c (.ix (.va rfl) g rfl) (.c (.ix (.va rfl) g rfl) (.c (.ix (.va rfl) ha rfl) .ni))) rfl) (λ_ s=>.c (.add (.add (.va rfl) (.va rfl)) .k) (.c (.va rfl) (.c (.ix (.va rfl) (s _ _ ha) rfl) .ni))) λH'=>k _ H' ⟨_,_,_,rfl⟩)
def Ms(P:PAt CP CQ B H A rs S xs xl xr)(h:IsNum H x v)(hs:IK A b0 price b σ)(ha:H b0=some (.tup (mT a)))(o:1<=x.2.2.2.2.length)(f:Pz.js (Pz.cJ aD a price S x))
 (k:∀e H',IK A b0 price b e->(∃d,PAt CP CQ B H' A rs (Pz.cJ aD a price S x) xs d xr)->D.nx e H'):dZ K 2 (aW (aA 4) (aW (aA 5) dY)) v σ H λj m=>JB K CP CQ D j m:=by
 obtain⟨t,_,rfl,n,c,q,rfl,i,l⟩:=h;obtain⟨u,w,z,rfl⟩:=hs;unfold Pz.cJ at f k;have e1:(((x.2.2.2.2.map V.int).length:Nat):Int)=1↔x.2.2.2.2.length=1:=by rw[Ps];lia
 refine yR n (gw (.Cb (.len (.ix (.va rfl) i rfl) l) .k) (λh=>?_) λh=>?_)
 .rw[PN (e1.mp (Qa h))]at f k;exact qa P f (.va rfl) (.t (.c (.ix (.va rfl) i rfl) (.c (.ix (.va rfl) i rfl) (.c (.ix (.va rfl) ha rfl) .ni))) rfl) (λ_ s=>.c (.add (.va rfl) .k) (.c (.va rfl) (.c .k .ni))) λH' g=>k _ H' ⟨_,_,_,rfl⟩ ⟨_,g⟩
 .have h1:¬x.2.2.2.2.length=1:=λz=>h (P3 (e1.mpr z));have h2:2<=x.2.2.2.2.length:=by lia
  rw[PK h1]at f k;have g:=P;obtain⟨_,_,_,Q⟩:=g;exact rW (.va rfl) Q.po.ins (Ar A) (.c (.va rfl) (.c (.va rfl) (.c (.ix (.va rfl) ha rfl) (.c (.va rfl) .ni)))) (.mk P ⟨c,q,rfl,i,l⟩ h2 f λH' d g=>k _ H' ⟨_,_,_,rfl⟩ ⟨d,g⟩)
def Mv(TP:jf K CP)(P:bE CP CQ B H A rs S xs xl xr xp kt col)(ha:H b0=some (.tup (mT a)))(hb:H b=some (.tup [.int a.1,.int a.2.1]))(F:qd rs)(fit:Pz.js (Pz.settle aD rs S a price))(hs:σ=[some (.ref A.o),some (.ref b0),some (.int price),some (.ref b),none,none,none])
 (k:∀G H' I e,PAt CP CQ B H' A rs (Pz.settle aD rs S a price) I e xr->D.nx G H'):JD K CP CQ D σ H:=by
 subst hs;have g2:Pz.fx ((S.aL.get (a.1,a.2.1)).foldl (Pz.k7 aD a price) (Pz.note S a price)) (Pz.settle aD rs S a price):=Pz.cE _ (Pz.jB a price) _ _;have h:=g2.fit fit;have m:Pz.js (Pz.note S a price):=Pz.fx.fit (Pz.cE _ (λS x=>Pz.ci S _ _ _ _) _ _) h;have R:=m.s;have U:=m.sf;have al:=Pz.ff S.settled (a.1,a.2.1) (a.2.2,price);have W:(Pz.note S a price).settled=S.settled.app (a.1,a.2.1) (a.2.2,price):=rfl;rw[W]at R U;unfold Pz.L at R U;have n:RepM k2 IsSet H S.settled xs:=P.p2.r;refine pZ (a:=A.sa) (b:=b) (xs:=xs) (k:=k2 (a.1,a.2.1)) (ws:=[.int a.2.2,.int price]) P.p2.d (P.fld TP.cl TP.ns (Jv A) rfl) (.va rfl) hb (λH' kp=>.t (.c (.ix (.va rfl) (kp _ _ ha (λz=>by rw[z,P.p2.d.root]at ha;cases ha)) rfl) (.c (.va rfl) .ni)) rfl) (by rw[<- n.len];lia) (n.low (by lia)) ?_;intro l p X Y hp hm hd kp;have f:=P.p2.d.kt (λ_ _ z=>HO.noConfusion z) kp;have y:bE CP CQ B X A rs (Pz.note S a price) _ xl xr _ _ _:=P.NE hd (n.add (k:=(a.1,a.2.1)) (v:=(a.2.2,price)) iO (IsSet.keep f) ⟨p,rfl,hm⟩) (λc z=>(i_ z).imp id λz=>by rw[z];exact Y) kp;generalize kH xs (k2 (a.1,a.2.1)) l (.ref p)=q at y;refine qc (λH H' k=>IsLack.keep k) y y.p3.d y.p3.r TP.cl TP.nl (Jw A) (j:=3) (k:=(a.1,a.2.1)) rfl rfl (f _ _ hb) (IK A b0 price b) (Pz.k7 aD a price) (λg T J=>PAt CP CQ g J A rs T q xl xr) ⟨none,none,none,rfl⟩ (λg H1 P=>⟨_,_,_,P⟩)
  (λg T H1 ⟨_,_,_,P⟩=>⟨P.same,P.p3.d⟩) (λg i x v σ J D' C e1 e2 M N k=>Mr N e2 M (C _ _ (f _ _ ha)) (gx (step:=Pz.k7 aD a price) (λS x=>Pz.ci S _ _ _ _) h e1) k) λg σ J Z C s w=>?_
 obtain⟨u,v,z,rfl⟩:=s;obtain⟨_,_,_,O⟩:=w;have Q:=C _ _ (f _ _ ha);exact qc (λH H' k=>IsNum.keep k) O O.p4.d O.p4.r TP.cl TP.nr (Mm A) (j:=3) (k:=(a.1,a.2.1)) rfl rfl (C _ _ (f _ _ hb)) (IK A b0 price b) (Pz.cJ aD a price) (λg T E=>∃e,PAt CP CQ g E A rs T q e xr) ⟨_,_,_,rfl⟩ (λg H1 P=>⟨_,_,_,_,P⟩)
  (λg T H1 ⟨_,_,_,_,P⟩=>⟨P.same,P.p4.d⟩) (λg i x v σ E D' V e1 e2 M ⟨_,N⟩ k=>Ms N e2 M (V _ _ Q) (F _ _ (PY e1)) (gx (step:=Pz.cJ aD a price) (Pz.jB a price) fit e1) k) λB2 σ E b2 V s ⟨e,w⟩=>k σ E _ e (w.less (Z.trans b2))
theorem sk(TP:jf K CP)(h:iW CP CQ vs H Q E):wf K CP CQ {nx:=λ_ H'=>Q .bB H',rt:=Q} (br ["self","arrow","price","start","number","rule","first"] vs) H:=by
 obtain⟨⟨xp,kt,col,P⟩,ha,d,fit,k⟩:=h
 delta wf aJ aZ
 exact nX (.c (.ix (.va rfl) ha rfl) (.c (.ix (.va rfl) ha rfl) .ni)) rfl λb hb=>Mv TP (P.more (aw hb)) (aw hb _ _ ha) ag d fit rfl λ_=>k
end
section
variable{K:Uy}
def bE.xH(h:bE CP CQ B H A rs S xs xl xr xp kt col)(h0:∃dx,H' A.aq=some (.ins CQ dx (qf A m)))(h1:DL .dK H' A.ap xp')(h2:RepM k1 IsItem H' d' xp')(j:∀c,cX A.ap xp' c->cX A.ap xp c\/H c=none)
 (kp:∀c u,H c=some u->¬cX A.ap xp c->c≠A.aq->H' c=some u):bE CP CQ B H' A rs {S with last:=m,aH:=d'} xs xl xr xp' kt (p8 col 1 H):=by
 obtain⟨q,b⟩:=h.po.CM;have k:KT H H':=λc ws e=>kp c _ e (λi=>by
  rcases i with rfl|⟨x,l,rfl⟩
  .rw[h.p1.d.root]at e;cases e
  .rw[h.p1.d.qG x l]at e;cases e) λz=>by rw[z,b]at e;cases e
 have a:∀c u,H c=some u->col c≠1->col c≠7->H' c=some u:=λc u e n o=>kp c u e (λi=>n (h.p1.c c i).1) λz=>o (by rw[z];exact h.po.c7.1);obtain⟨⟨dx,f⟩,_,g,p,c5,c6,c7⟩:=h.po;refine⟨(λc u e=>kp c u (h.same c u e) (λi=>by rw[(h.p1.c c i).2]at e;cases e) λz=>by rw[z,c7.2]at e;cases e),h.p1.new h.same h1 h2 j,h.p2.keep (IsSet.keep k) (λc u e z=>a c u e (by lia) (by lia)) λc=>bG,h.p3.keep (IsLack.keep k) (λc u e z=>a c u e (by lia) (by lia)) λc=>bG,h.p4.keep (IsNum.keep k) (λc u e z=>a c u e (by lia) (by lia)) λc=>bG,⟨dx,a _ _ f (by lia) (by lia)⟩,h0,a _ _ g (by lia) (by lia),p.keep k,?_,?_,?_⟩
 .rw[bG (by rw[g];simp)];exact c5
 .rw[bG (by rw[f];simp)];exact c6
 .rw[bG (by rw[b];simp)];exact c7
inductive tE(CP CQ:Addr):Sp
 |mk {B H:Hp} {A:PA} {rs:Pz.RS} {S T:Pz.PS} {xs xl xr:DX (List bI)} {n:Nat} {Q:VK} {E:XK} (P:PAt CP CQ B H A rs S xs xl xr) (rok:qd rs) (fit:Pz.js S) (lp:Pz.Loop aD rs n S T) (k:∀H' xs' xl',PAt CP CQ B H' A rs T xs' xl' xr->Q .bB H'):tE CP CQ [.ref A.o] H Q E
def JE(K:Uy)(CP CQ:Addr):TS:=dD (bQ (bv tQ (bv (nK K) (eU (eG K (ao 0) "told") (ao 2)) (tC (.int 0))) (ao 1))) (cj (eS CP "settle" (iW CP CQ) [] E0 (ao 0) (au (ao 2) (au (ao 1) aF)))) cb
def JF(K:Uy)(CP CQ:Addr):TS:=d4 (ce K (eS CQ "take_lowest" (nC CQ) [] E0 (eG K (ao 0) "offers") aF)) (dZ K 2 (aW (aA 1) (aW (aA 2) dY))) (JE K CP CQ)
def Mw(K:Uy)(CP CQ:Addr):TS:=lP (pb (tB (eS CQ "is_empty" (km CQ) [] E0 (eG K (ao 0) "offers") aF))) (JF K CP CQ)
def xT(h:tE CP CQ vs H Q E):vs.length=1:=by cases h;rfl
def G8(A:PA)(last:Int):(qf A last).lookup ("is_empty" : Str)=none:=rfl
def DN(A:PA)(last:Int):(qf A last).lookup ("take_lowest" : Str)=none:=rfl
def xU(A:PA):(pf A).lookup ("settle" : Str)=none:=rfl
variable{D:Ends}{σ:L2.St}{T:Pz.PS}{m:Nat}
def JG(A:PA)(σ:L2.St):Prop:=∃u v,σ=[some (.ref A.o),u,v]
def wA(CP CQ:Addr)(B:Hp)(A:PA)(rs:Pz.RS)(a:DX (List bI))(T:Pz.PS)(m:Nat)(σ:L2.St)(H:Hp):Prop:=JG A σ/\∃S xs b,PAt CP CQ B H A rs S xs b a/\Pz.js S/\Pz.Loop aD rs m S T
def al3(TP:jf K CP)(g:qd rs)(P:PAt CP CQ B H A rs S xs xl xr)(h:IsItem H x v)(hs:JG A σ)(l:Pz.bL S.told x.2≠none)(f:Pz.js (Pz.turn aD rs S x))
 (k:∀e H',JG A e->(∃a d,PAt CP CQ B H' A rs (Pz.turn aD rs S x) a d xr)->D.nx e H'):dZ K 2 (aW (aA 1) (aW (aA 2) dY)) v σ H λi n=>JE K CP CQ D i n:=by
 obtain⟨t,_,rfl,o,b,rfl,hb⟩:=h;obtain⟨u,w,rfl⟩:=hs;have j:=P;obtain⟨_,_,_,Q⟩:=j;rcases Q.po.tr.find x.2 with⟨_,e2⟩|⟨_,y,e1,e2,q,rfl,p⟩
 .exact(l e2).elim
 unfold Pz.turn Pz.bR at f k;rw[e2]at f k;refine yR o (gw (.Cb (.ix (λ_ z=>Q.fld TP.cl TP.nt (DI A) rfl _ ⟨_,rfl,A.ta,.ref q,rfl,by rw[<- e1];exact DGet.t Q.po.td hb,z⟩) p rfl) (.va rfl)) (λh=>?_) λh=>?_)
 .rw[PN h]at f k;exact rW (.va rfl) Q.po.ins (xU A) (.c (.va rfl) (.c (.va rfl) .ni)) (.mk P hb g f λH' a d j=>k _ H' ⟨_,_,rfl⟩ ⟨a,d,j⟩)
 .rw[PK h]at k;exact k _ H ⟨_,_,rfl⟩ ⟨xs,xl,P⟩
def al2(TP:jf K CP)(q:qd rs)(P:bE CP CQ B H A rs S xs xl xr xp kt col)(fit:Pz.js S)(hs:JG A σ)(t:S.aH≠[])(aT:Pz.tJ aD S.last S.aH)(y:∀x∈Pz.dN aD S.aH,Pz.bL S.told x.2≠none)(g:Pz.js (Pz.batch aD rs (Pz.take aD S) (Pz.dN aD S.aH)))
 (lp:Pz.Loop aD rs m (Pz.batch aD rs (Pz.take aD S) (Pz.dN aD S.aH)) T) (k:∀j H',wA CP CQ B A rs xr T m j H'->D.nx j H'):JF K CP CQ D σ H:=by
 obtain⟨u,v,rfl⟩:=hs;have pr:RepM k1 IsItem H S.aH xp:=P.p1.r;have N:=fit.p;have O:=fit.pf;unfold Pz.L at N O;refine dC (rW (P.fld TP.cl TP.no (GY A) rfl) P.po.CM (DN A _) .ni (.mk ⟨P.po.CM,P.p1.d,by rw[<- pr.len];lia,pr.low (by lia)⟩ pr aT t (by lia) ?_));intro l Q C H1 I R n U nl il o E;have V:bE CP CQ B H1 A rs (Pz.take aD S) xs xl xr C kt _:=P.xH (m:=Pz.lowP S.aH) (d':=Pz.left aD S.aH) I.ins I.aH R o E;obtain⟨F,W,X,Y,Z⟩:=V.wide (λc=>c=l) λc e=>by
  subst e;rcases il with il|il
  .have G:=(P.p1.c c il).1;refine⟨nl,λi=>?_,λi=>?_,λi=>?_,λz=>?_,λz=>?_,λz=>?_⟩
   .have:=(P.p2.c c i).1;lia
   .have:=(P.p3.c c i).1;lia
   .have:=(P.p4.c c i).1;lia
   .have:=P.po.c5.1;rw[z]at G;lia
   .have:=P.po.c6.1;rw[z]at G;lia
   .have:=P.po.c7.1;rw[z]at G;lia
  .exact⟨nl,(P.obj il).2⟩
 have J:∀h a,(∃b f,PAt CP CQ F a A rs h b f xr)->Same F a:=λh a ⟨_,_,_,_,_,P⟩=>P.same;exact⟨l,rfl,⟨_,SqL.of n⟩,qb (it:=IsItem) (JG A) (Pz.turn aD rs) (Pz.take aD S) (λh a=>∃b f,PAt CP CQ F a A rs h b f xr) ⟨_,_,rfl⟩ ⟨xs,xl,_,_,_,Z⟩ (λh a w=>⟨.inl (J h a w _ _ (Y l _ rfl n)),U.mono (IsItem.keep λc ws e=>J h a w _ _ (X _ _ e))⟩)
  (λi x v σ a D' M ix s ⟨_,_,w⟩ k=>al3 TP q w ix s (Pz.iL _ (λS x k=>Pz.DA k) _ _ (y x (PY M))) (gx (step:=Pz.turn aD rs) Pz.xK g M) k) λσ a s ⟨b,f,w⟩=>k σ a ⟨s,_,b,f,w.less W,g,lp⟩⟩
theorem Au(TP:jf K CP)(h:tE CP CQ vs H Q E):Mw K CP CQ {nx:=λ_ H'=>Q .bB H',rt:=Q} (br ["self","price","arrow"] vs) H:=by
 obtain @⟨B,H,A,rs,S,T,xs,c,xr,n,Q,E,P,rok,fit,lp,k⟩:=h;refine⟨wA CP CQ B A rs xr T,⟨n,⟨none,none,rfl⟩,S,xs,c,P,fit,lp⟩,?_⟩;clear P lp fit;rintro m σ H ⟨hs,S,xs,c,⟨g,kt,col,P⟩,fit,lp⟩;have h0:σ[0]?=some (some (.ref A.o)):=by obtain⟨_,_,rfl⟩:=hs;rfl
 have el:g.kv.length=S.aH.length:=by unfold DX.kv;rw[Ps,<- P.p1.r.len]
 obtain⟨j,i⟩:=P.po.CM;have l:=fit.p;unfold Pz.L at l;refine rW (P.fld TP.cl TP.no (GY A) h0) ⟨j,i⟩ (G8 A _) .ni (.mk i P.p1.d.root (by rw[el,Qf];lia) ⟨_,rfl,?_⟩);rw[el];cases lp with
 |done e=>rw[e];exact d6 (k H xs c ⟨g,kt,col,P⟩)
 |@step m _ _ a aT f _ b lp=>rw[QA λz=>a (Qw.mp z)];exact hI ⟨wA CP CQ B A rs xr T m,λq H' h'=>⟨m,Rt _,h'⟩,al2 TP rok P fit hs a aT f b lp λ_ _=>id⟩
end
section
variable{K:Uy}{H:Hp}
theorem wg{tb:TS}{D:Ends}{σ:L2.St}{H1:Hp}(b:L2.St->Prop)(W:Nat->Hp->Prop)(h0:b σ)(h1:W 0 H1)(f:∀i H,W i H->SqL K H l vs)
 (hb:∀(i:Nat)(v:V)(p:Addr)(σ:L2.St)(H:Hp)(D':Ends),vs[i]?=some v->H p=none->b σ->W i H->(∀a H',b a->W (i+1) H'->D'.nx a H')->g (.ref p) σ (upd H p (.tup [.int (i:Nat),v])) λd h=>tb D' d h)
 (hd:∀σ H,b σ->W vs.length H->D.nx σ H):Wk (LB K l) g tb D σ H1:=by
 refine⟨λi m σ H=>m=vs.length-i/\i<=vs.length/\b σ/\W i H,⟨vs.length,by simp,PQ _,h0,h1⟩,?_⟩;rintro i m σ H ⟨rfl,n,s,w⟩;have q:=f i H w;by_cases c:i<vs.length
 .refine .inr ⟨⟨vs,vs[i],q,by simp[c]⟩,λa H'=>b a/\W (i+1) H',λa H' j=>⟨vs.length-(i+1),by lia,rfl,c,j⟩,λx H' y=>?_⟩;obtain⟨p,v,k,rfl,rfl,y⟩:=y;exact hb i v p σ H _ (y vs q) k s w λ_ _=>And.intro
 .have e:i=vs.length:=by lia
  subst e;exact .inl ⟨⟨vs,q,Pq _⟩,hd σ H s w⟩
def o5{tb:TS}{D:Ends}{σ:L2.St}(h:ta σ H λvs H1=>∃a xs,vs=[.ref a]/\SqL K H1 a xs/\Wk (LB K a) g tb D σ H1):d4 (v6 K ta) g tb D σ H:=h
theorem uP:∀(l:List Pz.Rule)(k i:Nat),(Pz.en l k)[i]?=(l[i]?).map λr=>(((k+i:Nat):Int),r)
 |[],k,i=>by simp[Pz.en]
 |r::l,k,0=>by simp[Pz.en]
 |r::l,k,i+1=>by show(Pz.en l (k+1))[i]?=(l[i]?).map _;rw[uP l];congr 1;funext r;congr 2;lia
def wj{a:Type}(f:a->Int×Pz.Rule->a)(b:a){l:List Pz.Rule}{i:Nat}{r:Pz.Rule}(h:l[i]?=some r):((Pz.en l 0).take (i+1)).foldl f b=f (((Pz.en l 0).take i).foldl f b) ((i:Int),r):=by
 have e:(Pz.en l 0)[i]?=some ((i:Int),r):=by rw[uP,h];simp
 rw[P0,e,RF];rfl
structure dk(H:Hp) (RL:List Pz.Rule) (p l:Addr) (vs:List V):Prop where
 tup:∃w0 w1,H p=some (.tup [w0,w1,.ref l])
 lst:Rd H l (.lst vs)
 its:aN (IsRule H) RL vs
def ba(s:Same H H')(h:Rd H a u):Rd H' a u:=h.imp (s a _) λ⟨o,e⟩=>⟨o,s a _ e⟩
def dk.same(h:dk H RL p l vs)(s:Same H H'):dk H' RL p l vs:=⟨let ⟨a,b,e⟩:=h.tup;⟨a,b,s _ _ e⟩,ba s h.lst,h.its.mono (IsRule.keep (p_ s))⟩
inductive B8:Sp
 |mk {RL:List Pz.Rule} {p l:Addr} {ws:List V} {H:Hp} {Q:VK} {E:XK} (G:dk H RL p l ws) (bH:RL.length<16000000) (k:∀(ar:Addr)(xr:DX (List bI))(H':Hp),Same H H'->DL .dT H' ar xr->RepM k2 IsNum H' (Pz.bU RL) xr->(∀c,cX ar xr c->H c=none)->Q (.ref ar) H'):B8 [.ref p] H Q E
def G9:R2:=yN λi j=>.bl (decide (j<i))
def JH(K:Uy):TS:=dD (bQ (bv G9 (fQ (fX K) (au (tI K 3 3) aF)) (tC (.int 0)))) (cj (mS K (ao 1) (dc (au (tI K 3 2) (au (bv (nK K) (tI K 3 3) (tC (.int 0))) aF))) (dc (au (ao 2) (au (ao 3) aF))))) cb
def Mx(K:Uy):TS:=aJ (d4 (v6 K (au (tI K 0 2) aF)) (dZ K 2 (aW (aA 2) (aW (aA 3) dY))) (JH K)) (cO (ao 1))
def Od(K:Uy):TS:=aJ (aZ eL (aA 1)) (Mx K)
def Av(h:B8 vs H Q E):vs.length=1:=by cases h;rfl
def xV(c:Reads to σ H (.ref a))(d:H a=some (.dT kvs))(e:Makes tk σ H ks)(h:∀b,H b=none->mS K (tC (.ref a)) (tC (.ref b)) te σ (upd H b (.tup ks)) Q):mS K to tk te σ H Q:=c _ ⟨.inr (.inr (.inl ⟨rfl,.inr ⟨_,d⟩⟩)),e _ λb hb=>(h b hb).2⟩
theorem G_{m:Type}{it:Hp->m->V->Prop}(kp:∀{H H':Hp},KT H H'->∀a v,it H a v->it H' a v){to tk te:TE}{σ:L2.St}{ar:Addr}{g:DX (List bI)}{d:Pz.MD (Int×Int) m}{k:Int×Int}{v:m}{ws:List V}{C:Hp->Prop}(j:DL .dT H ar g)(R2:RepM k2 it H d g)(ok:d.Ok)(dX:d.flat.length<16000000)(w:Reads to σ H (.ref ar))(x:Makes tk σ H [.int k.1,.int k.2])(hm:∀H',KT H H'->Makes te σ H' ws)(y:∀p H',KT H H'->H' p=some (.tup ws)->it H' v (.ref p))
 (A:∀H' f,DL .dT H' ar f->RepM k2 it H' (d.app k v) f->(∀c,cX ar f c->cX ar g c\/H c=none)->(∀c u,H c=some u->¬cX ar g c->H' c=some u)->C H'):mS K to tk te σ H λ_ H'=>C H':=by
 refine xV w j.root x λb hb=>?_;have l:=aw (o:=HO.tup [.int k.1,.int k.2]) hb;refine pZ (a:=ar) (b:=b) (xs:=g) (k:=k2 k) (ws:=ws) (j.keep λc u e _=>l c u e) .k .k ag (λH' kp=>hm H' λc vs e=>kp c _ (l _ _ e) λz=>by rw[z,j.root]at e;cases e) (by rw[<- R2.len];have:=Pz.gG ok;lia) (R2.low dX) ?_;intro E B n q D r s t;have h:∀c u,H c=some u->¬cX ar g c->n c=some u:=λc u e=>t c u (l _ _ e);have i:=j.kt (λ_ _ z=>HO.noConfusion z) h;exact A n _ s (R2.add (k:=k) (v:=v) iO (kp i) (y B n i r)) (λc z=>(i_ z).imp id λz=>by rw[z];exact l.free q) h
variable{D:Ends}{σ:L2.St}{p ar pp c q:Addr}{r:Pz.Rule}{n:Int}{xr:DX (List bI)}{d:Pz.RS}
def My(p ar:Addr)(σ:L2.St):Prop:=∃u v,σ=[some (.ref p),some (.ref ar),u,v]
def Oe(o:DL .dT H ar xr)(R2:RepM k2 IsNum H d xr)(ok:d.Ok)(dX:d.flat.length<16000000)(hs:My p ar σ)(g:H pp=some (.tup [.int n,.ref c]))(f:H c=some (.tup [.int r.1,.int r.2.1,.int r.2.2.1,.ref q]))(i:H q=some (.tup (r.2.2.2.map .int)))
 (k:∀b H' a,My p ar b->DL .dT H' ar a->RepM k2 IsNum H' (Pz.fV d (n,r)) a->(∀c,cX ar a c->cX ar xr c\/H c=none)->(∀c u,H c=some u->¬cX ar xr c->H' c=some u)->D.nx b H'):dZ K 2 (aW (aA 2) (aW (aA 3) dY)) (.ref pp) σ H λl s=>JH K D l s:=by
 obtain⟨u,w,rfl⟩:=hs;have e2:(0:Int)<(((r.2.2.2.map V.int).length:Nat):Int)↔r.2.2.2.length>0:=by rw[Ps];lia
 unfold Pz.fV at k;refine yR g (gw (.op (.len (.ix (.va rfl) f rfl) i) .k λ_ q=>⟨_,_,rfl,rfl,q⟩) (λh=>?_) λh=>?_)
 .have h1:=e2.mp (Qa h);rw[PN h1]at k;have m:(r.2.2.2.map V.int)[0]?=some (.int (r.2.2.2[0]?.getD 0)):=by
   cases A:r.2.2.2 with
   |nil=>rw[A]at h1;simp at h1
   |cons x y=>rfl
  exact G_ (k:=(r.2.2.1,r.2.2.2[0]?.getD 0)) (v:=(n,r)) (λk=>IsNum.keep k) o R2 ok dX (.va rfl) (.t (.c (.ix (.va rfl) f rfl) (.c (.ix (.ix (.va rfl) f rfl) i (cV (j:=0) m)) .ni)) rfl) (λH' _=>.t (.c (.va rfl) (.c (.va rfl) .ni)) rfl) (λp H' kt hm=>⟨p,_,rfl,hm,c,q,rfl,kt _ _ f,kt _ _ i⟩) λH' a=>k _ H' a ⟨_,_,rfl⟩
 .rw[PK λz=>h (P3 (e2.mpr z))]at k;exact k _ H _ ⟨_,_,rfl⟩ o R2 (λc=>.inl) λc u e _=>e
theorem DO{Q:VK}{E:XK}(h:B8 vs H Q E):Od K {nx:=λ_ H'=>Q .bB H',rt:=Q} (br ["house","rules","number","rule"] vs) H:=by
 obtain @⟨RL,p,l,ws,H,Q,E,G,bH,k⟩:=h;intro ar j;have s1:Same H (upd H ar (.dT [])):=aw j;obtain⟨O,P,B⟩:=(G.same s1).tup;have bl:∀i,(((Pz.en RL 0).take i).foldl Pz.fV []).Ok/\(((Pz.en RL 0).take i).foldl Pz.fV []).flat.length<16000000:=λi=>by obtain⟨a,b⟩:=Pz.uI ((Pz.en RL 0).take i) [] Pz.rV;have h1:=QG i (Pz.en RL 0);rw[Pz.mQ]at h1;have h2:(Pz.MD.flat ([]:Pz.RS)).length=0:=rfl;exact⟨a,by lia⟩
 refine o5 (ReadsA.c (.ix (.va (i:=0) rfl) B (v:=.ref l) rfl) .ni _ ⟨l,ws,rfl,.inl (ba s1 G.lst),?_⟩);refine wg (My p ar) (λi g=>∃xr,Same H g/\DL .dT g ar xr/\RepM k2 IsNum g (((Pz.en RL 0).take i).foldl Pz.fV []) xr/\∀c,cX ar xr c->H c=none) ⟨none,none,rfl⟩ ⟨[],s1,⟨ag,λ_ h=>(PV h).elim,Qn,Qn⟩,.nil,λc i=>?_⟩ (λi g ⟨xr,s2,_⟩=>.inl (ba s2 G.lst)) (λi v pp σ g D' C m hs ⟨xr,s2,s,R2,n2⟩ k=>?_) λσ g ⟨u,w,e⟩ ⟨xr,s2,s,R2,n2⟩=>?_
 .rcases i with rfl|⟨x,F,_⟩
  .exact j
  .exact(PV F).elim
 .obtain⟨r,I,c,q,rfl,J,L⟩:=G.its.get C;have t:=aw (o:=HO.tup [.int (i:Nat),.ref c]) m;have f:=s2.trans t;rw[wj _ _ I]at k;exact Oe (s.keep λc u e _=>t c u e) (R2.keep (IsNum.keep (p_ t))) (bl i).1 (bl i).2 hs ag (f _ _ J) (f _ _ L) λy H' A h1 h2 h3 M N=>k y H' h1 ⟨A,(λc u e=>N c u (f _ _ e) λz=>by rw[n2 c z]at e;cases e),h2,h3,λc z=>(M c z).elim (n2 c) f.free⟩
 .subst e;rw[QW (by rw[Pz.mQ,G.its.len];exact Pq _)]at R2;exact⟨_,rfl,k ar xr g s2 s R2 n2⟩
end
section
variable{K:Uy}{CP CQ:Addr}{H:Hp}
inductive kq(CP CQ:Addr):Sp
 |mk {B H:Hp} {RL:List Pz.Rule} {o dx p l:Addr} {ws:List V} {Q:VK} {E:XK} (ho:H o=some (.ins CP dx [])) (sb:Same B H) (nb:B o=none) (G:dk H RL p l ws) (bH:RL.length<16000000) (k:∀(A:PA)(xr:DX (List bI))(H':Hp),A.o=o->PAt CP CQ B H' A (Pz.bU RL) Pz.S0 [] [] xr->Q .bB H'):kq CP CQ [.ref o,.ref p] H Q E
def Hb(K:Uy)(CQ:Addr):TS:=
 aJ (pq K (ao 0) (bO B8 [] E0 (au (ao 1) aF)) "rules")
 (aJ (pq K (ao 0) eL "told")
 (aJ (pq K (ao 0) (vD CQ (kg CQ) [] E0 aF) "offers")
 (aJ (pq K (ao 0) eL "settled")
 (pq K (ao 0) eL "lacking"))))
def sq(h:kq CP CQ vs H Q E):vs.length=2:=by cases h;rfl
def uQ(TP:jf K CP)(h:kq CP CQ vs H Q E):Hb K CQ {nx:=λ_ H'=>Q .bB H',rt:=Q} (br N vs) H:=by
 obtain @⟨B,H,RL,o,dx,p,l,ws,Q,E,ho,sb,nb,G,bH,k⟩:=h;refine⟨_,rfl,.mk G bH λar xr H1 s1 D1 R1 n1=>?_⟩;have ho1:=s1 _ _ ho;have Z:∀c,cX ar xr c->c≠o:=λc i z=>by grind
 refine⟨_,rfl,o,CP,dx,_,rfl,ho1,TP.cl,TP.nr,(by grind),?_⟩;generalize hH2:upd H1 o (.ins CP dx (gp "rules" (.ref ar) []))=H2;have I:H2 o=some (.ins CP dx [("rules",.ref ar)]):=by rw[<- hH2,ag];rfl
 have J:∀c u,H1 c=some u->c≠o->H2 c=some u:=λc u e n=>by rw[<- hH2,ai n];exact e
 intro ta g;have e3:upd H2 ta (.dT []) o=some (.ins CP dx [("rules",.ref ar)]):=by rw[ai (ax I g)];exact I
 refine⟨_,rfl,o,CP,dx,_,rfl,e3,TP.cl,TP.nt,(by grind),?_⟩;generalize L:upd (upd H2 ta (.dT [])) o (.ins CP dx (gp "told" (.ref ta) [("rules",.ref ar)]))=t;have f:ta≠o:=(ax I g).symm;have ho4:t o=some (.ins CP dx [("rules",.ref ar),("told",.ref ta)]):=by rw[<- L,ag];rfl
 have ta4:t ta=some (.dT []):=by rw[<- L,ai f,ag]
 have kp4:∀c u,H2 c=some u->c≠o->t c=some u:=λc u e n=>by rw[<- L,ai n,ai (ax e g)];exact e
 intro aq dq M hdq ndq;refine .mk ag λap O v hq5 hp5 kp5=>⟨rfl,?_⟩;have j:∀c u,t c=some u->O c=some u:=λc u e=>kp5 c u (by rw[ai (ax e M),ai (ax e hdq)];exact e) (ax e M);have ap4:t ap=none:=by
  have h1:ap≠aq:=λz=>by grind
  have h2:ap≠dq:=λz=>by rw[z,ai ndq,ag]at v;cases v
  rw[ai h1,ai h2]at v;exact v
 have apq:ap≠aq:=λz=>by grind
 refine⟨_,rfl,o,CP,dx,_,rfl,j _ _ ho4,TP.cl,TP.no,(by grind),?_⟩;generalize hH6:upd O o (.ins CP dx (gp "offers" (.ref aq) [("rules",.ref ar),("told",.ref ta)]))=F;have noq:aq≠o:=λz=>by grind
 have nop:ap≠o:=λz=>by grind
 have w:F o=some (.ins CP dx [("rules",.ref ar),("told",.ref ta),("offers",.ref aq)]):=by rw[<- hH6,ag];rfl
 have kp6:∀c u,O c=some u->c≠o->F c=some u:=λc u e n=>by rw[<- hH6,ai n];exact e
 intro sa y;have A:sa≠o:=(ax w y).symm;refine⟨_,rfl,o,CP,dx,_,rfl,(by rw[ai (ax w y)];exact w),TP.cl,TP.ns,(by grind),?_⟩;generalize P:upd (upd F sa (.dT [])) o (.ins CP dx (gp "settled" (.ref sa) [("rules",.ref ar),("told",.ref ta),("offers",.ref aq)]))=Y;have C:Y o=some (.ins CP dx [("rules",.ref ar),("told",.ref ta),("offers",.ref aq),("settled",.ref sa)]):=by rw[<- P,ag];rfl
 have sa8:Y sa=some (.dT []):=by rw[<- P,ai A,ag]
 have kp8:∀c u,F c=some u->c≠o->Y c=some u:=λc u e n=>by rw[<- P,ai n,ai (ax e y)];exact e
 intro la D;have R:la≠o:=(ax C D).symm;refine⟨_,rfl,o,CP,dx,_,rfl,(by rw[ai (ax C D)];exact C),TP.cl,TP.nl,(by grind),?_⟩;generalize S:upd (upd Y la (.dT [])) o (.ins CP dx (gp "lacking" (.ref la) [("rules",.ref ar),("told",.ref ta),("offers",.ref aq),("settled",.ref sa)]))=s;have ho9:s o=some (.ins CP dx (pf ⟨o,ta,aq,ap,sa,la,ar⟩)):=by rw[<- S,ag];rfl
 have la9:s la=some (.dT []):=by rw[<- S,ai R,ag]
 have kp9:∀c u,Y c=some u->c≠o->s c=some u:=λc u e n=>by rw[<- S,ai n,ai (ax e D)];exact e
 have sa9:=kp9 _ _ sa8 A;have k69:∀c u,F c=some u->c≠o->s c=some u:=λc u e n=>kp9 c u (kp8 c u e n) n;have T:∀c u,O c=some u->c≠o->s c=some u:=λc u e n=>k69 c u (kp6 c u e n) n;have k49:∀c u,t c=some u->c≠o->s c=some u:=λc u e n=>T c u (j c u e) n;have U:∀c u,H1 c=some u->c≠o->s c=some u:=λc u e n=>k49 c u (kp4 c u (J c u e n) n) n;have fr:∀c,s c≠none->H c=none->B c=none:=λc _ e=>sb.free e;have oldR:∀c,cX ar xr c->H1 c≠none:=λc i=>D1.obj i;have V:H1 ta=none:=by
  cases e:H1 ta with
  |none=>rfl
  |some u=>rw[J _ _ e f]at g;cases g
 have b:∀c,t c=none->c≠o->H1 c=none/\c≠ta:=λc e n=>by
  refine⟨?_,λz=>by grind⟩;cases W:H1 c with
  |none=>rfl
  |some u=>rw[kp4 _ _ (J _ _ W n) n]at e;cases e
 have m:∀c,O c=none->c≠o->t c=none/\c≠aq/\c≠ap:=λc e n=>by
  refine⟨?_,(λz=>by grind),λz=>by grind⟩;cases W:t c with
  |none=>rfl
  |some u=>rw[j _ _ W]at e;cases e
 have q:∀c,F c=none->O c=none:=λc e=>by
  cases W:O c with
  |none=>rfl
  |some u=>
   by_cases n:c=o
   .rw[n,w]at e;cases e
   .rw[kp6 _ _ W n]at e;cases e
 have X:∀c,Y c=none->F c=none/\c≠sa:=λc e=>by
  refine⟨?_,λz=>by grind⟩;cases W:F c with
  |none=>rfl
  |some u=>
   by_cases n:c=o
   .rw[n,C]at e;cases e
   .rw[kp8 _ _ W n]at e;cases e
 obtain⟨la6,la_sa⟩:=X la D;obtain⟨la4,la_aq,la_ap⟩:=m la (q la la6) R;obtain⟨la1,la_ta⟩:=b la la4 R;obtain⟨sa4,sa_aq,sa_ap⟩:=m sa (q sa y) A;obtain⟨sa1,sa_ta⟩:=b sa sa4 A;obtain⟨aq1,aq_ta⟩:=b aq M noq;obtain⟨ap1,ap_ta⟩:=b ap ap4 nop;have d:∀c,H1 c=none->H c=none:=λc e=>s1.free e;have same:Same B s:=λc u e=>U c u (s1 c u (sb c u e)) λz=>by grind
 have r:∀{a c:Addr},cX a ([]:DX (List bI)) c->c=a:=λi=>i.elim id λ⟨x,hx,_⟩=>(PV hx).elim
 classical
 refine k ⟨o,ta,aq,ap,sa,la,ar⟩ xr s rfl ⟨[],[],λc=>if c=o then 6 else if c=ta then 5 else if c=aq then 7 else if c=ap then 1 else if c=sa then 2 else if c=la then 3 else 4,same,⟨⟨?_,λ_ h=>(PV h).elim,Qn,Qn⟩,.nil,λc i=>?_⟩,⟨⟨sa9,λ_ h=>(PV h).elim,Qn,Qn⟩,.nil,λc i=>?_⟩,⟨⟨la9,λ_ h=>(PV h).elim,Qn,Qn⟩,.nil,λc i=>?_⟩,⟨D1.keep λc u e i=>U c u e (Z c i),R1.keep (IsNum.keep λc ws e=>U c _ e λz=>by grind),λc i=>?_⟩,⟨dx,ho9⟩,⟨dq,T _ _ hq5 noq⟩,k49 _ _ ta4 f,.nil,?_,?_,?_⟩
 .exact T _ _ hp5 nop
 .have:c=ap:=i.elim id λ⟨x,hx,_⟩=>(PV hx).elim;subst this;exact⟨by grind,sb.free (d _ ap1)⟩
 .have:=r i;dsimp only at this;subst this;exact⟨by grind,sb.free (d _ sa1)⟩
 .have:=r i;dsimp only at this;subst this;exact⟨by grind,sb.free (d _ la1)⟩
 .have hc:=oldR c i;refine⟨?_,sb.free (n1 c i)⟩;rw[PK (Z c i),PK (λz=>hc (by grind)),PK (λz=>hc (by grind)),PK (λz=>hc (by grind)),PK (λz=>hc (by grind)),PK (λz=>hc (by grind))]
 .exact⟨by grind,sb.free (d _ V)⟩
 .exact⟨PN rfl,nb⟩
 .exact⟨by grind,sb.free (d _ aq1)⟩
end
def sr(a:Pz.Arr):D:=.tup [.int a.1,.int a.2.1,.int a.2.2]
def eF(r:Pz.Rule):D:=.tup [.int r.1,.int r.2.1,.int r.2.2.1,.tup (r.2.2.2.map .int)]
def oD:Option Int->D
 |none=>.bB
 |some i=>.int i
def Hc(x:Pz.xI):D:=.tup [.int x.1,oD x.2.1,oD x.2.2]
def k9(t:Pz.TD):D:=.qM (t.map λx=>.inr (ak x.1)) (t.map λx=>Hc x.2)
def mU(ds:List D)(t:Pz.TD):Prop:=∃(RL:List Pz.Rule)(M:List Pz.Arr)(h0 h1 m0 m2:D)(n:Nat)(T:Pz.PS),ds=[.tup [h0,h1,.lst (RL.map eF)],.tup [m0,.lst (M.map sr),m2]]/\RL.length<16000000/\Pz.js (Pz.iN aD RL M)/\Pz.Loop aD (Pz.bU RL) n (Pz.iN aD RL M) T/\t=T.told
open Classical in
def JI(Fr:List D->Res R)(ds:List D):Res R:=match Fr ds with
 |.ok _=>if h:∃t,mU ds t then .ok (.BQ (k9 (Classical.choose h)))else .stuck
 |.exc c=>.exc c
 |.stuck=>.stuck
theorem mV:∀{ns:List Int}{vs:List V},IsAll H m (ns.map .int) vs->vs=ns.map .int
 |[],vs,h=>h
 |n::ns,vs,h=>by obtain⟨v,r,rfl,h1,h2⟩:=h;rw[mV h2,show v=.int n from h1];rfl
def Aw(h:Is H m (eF r) v):IsRule H r v:=by obtain⟨a,vs,rfl,ha,v0,g,rfl,b,c,i,rfl,e1,d,j,rfl,e2,k,l,rfl,⟨q,ws,rfl,e,f⟩,rfl⟩:=h;obtain rfl:v0=.int r.1:=b;obtain rfl:c=.int r.2.1:=e1;obtain rfl:d=.int r.2.2.1:=e2;exact⟨a,q,rfl,ha,by rw[e,mV f]⟩
def JJ(h:Is H m (sr r) v):IsArr H r v:=by obtain⟨a,vs,rfl,ha,v0,e,rfl,b,c,f,rfl,e1,d,g,rfl,e2,rfl⟩:=h;obtain rfl:v0=.int r.1:=b;obtain rfl:c=.int r.2.1:=e1;obtain rfl:d=.int r.2.2:=e2;exact⟨a,rfl,ha⟩
theorem wn{α:Type}{H:Hp}{m:Addr->Prop}{f:α->D}{it:α->V->Prop}(a:∀x v,Is H m (f x) v->it x v):∀{xs:List α}{vs:List V},IsAll H m (xs.map f) vs->aN it xs vs
 |[],vs,h=>by cases(show vs=[]from h);exact .nil
 |x::xs,vs,h=>by obtain⟨v,r,rfl,h1,h2⟩:=h;exact .cons (a x v h1) (wn a h2)
def wo(h:Is H m (.lst ds) v):∃a vs,v=.ref a/\Rd H a (.lst vs)/\IsAll H m ds vs:=by obtain⟨a,vs,rfl,h1,h2⟩:=h;exact⟨a,vs,rfl,h1.imp And.left λ⟨o,e,_⟩=>⟨o,e⟩,h2⟩
def Mz(RL:List Pz.Rule):qd (Pz.bU RL):=λk x a=>by
 rcases(Pz.pY _ _ _ _).mp a with h|⟨_,y,l,e,_⟩
 .exact(PV h).elim
 .rw[e];simp
section
variable{K:Uy}{CP CQ:Addr}{H:Hp}
def JK(K:Uy)(CP CQ:Addr):TS:=aJ (cj (eS CP "settle_all" (tE CP CQ) [] E0 (ao 2) aF)) (cO (eG K (ao 2) "told"))
def JL(K:Uy)(CP CQ:Addr):TS:=dD (bQ (bv tQ (fQ (fX K) (au (tI K 5 3) aF)) (tC (.int 0))))
 (cj (eS CP "offer" (d_ CP CQ) [] E0 (ao 2) (au (dc (au (tI K 5 0) (au (tI K 5 1) (au (tI K 5 2) aF)))) (au (tC (.int 1)) (au (ao 4) (au (tC .bB) aF)))))) cb
def JM(K:Uy)(CP CQ:Addr):TS:=aJ (d4 (v6 K (au (tI K 0 2) aF)) (dZ K 2 (aW (aA 4) (aW (aA 5) dY))) (JL K CP CQ)) (JK K CP CQ)
def JN(CP CQ:Addr):TS:=cj (eS CP "offer" (d_ CP CQ) [] E0 (ao 2) (au (ao 3) (au (tC (.int 0)) (au (tC .bB) (au (tC .bB) aF)))))
def JO(K:Uy)(CP CQ:Addr):TS:=aJ (d4 (ce K (tI K 1 1)) (aA 3) (JN CP CQ)) (JM K CP CQ)
def DP(K:Uy)(mg:Str->Option UA)(Fr:List D->Res R)(CP CQ:Addr)(E:XK):TS:=aJ (cj (bO (nU mg 2 Fr) [] E (au (ao 0) (au (ao 1) aF)))) (aJ (aZ (vD CP (kq CP CQ) [] E0 (au (ao 0) aF)) (aA 2)) (JO K CP CQ))
def Hd(A:PA):(pf A).lookup ("settle_all" : Str)=none:=rfl
def He(h:RepT H t kt):(t.map λx=>(Sum.inr (ak x.1):DK))=kt.map (λp=>.inr p.1)/\IsAll H m (t.map λx=>Hc x.2) (kt.map Prod.snd):=by
 have a:∀o:Option Int,Is H m (oD o) (vO o):=λo=>by cases o<;>rfl
 induction h with
 |nil=>exact⟨rfl,rfl⟩
 |@cons x y _ _ q _ b=>obtain⟨e,p,c,d⟩:=q;exact⟨by rw[PU,PU,e,b.1],y.2,_,rfl,⟨p,_,c,d,_,_,rfl,rfl,_,_,rfl,a _,_,_,rfl,a _,rfl⟩,b.2⟩
section
variable{D:Ends}{σ:L2.St}{B:Hp}{A:PA}{rs:Pz.RS}{S T:Pz.PS}{xs xl xr:DX (List bI)}{p0 p1 l lm:Addr}{RL:List Pz.Rule}{M:List Pz.Arr}{ws wm:List V}{n:Nat}
def DQ(p0 p1:Addr)(A:PA)(σ:L2.St):Prop:=∃u v w,σ=[some (.ref p0),some (.ref p1),some (.ref A.o),u,v,w]
theorem pr2(P:PAt CP CQ B H A rs S xs xl xr)(h:IsArr H a v)(hs:DQ p0 p1 A σ)(f:Pz.js (Pz.g9 aD S a))(k:∀d H',DQ p0 p1 A d->PAt CP CQ B H' A rs (Pz.g9 aD S a) xs xl xr->D.nx d H'):aA 3 v σ H λe g=>JN CP CQ D e g:=by obtain⟨b,rfl,hb⟩:=h;obtain⟨u,w,z,rfl⟩:=hs;have i:=P;obtain⟨_,_,_,Q⟩:=i;exact rW (.va rfl) Q.po.ins (Aq A) (.c (.va rfl) (.c .k (.c .k (.c .k .ni)))) (.mk (n:=none) (m:=none) P hb f λH'=>k _ H' ⟨_,_,_,rfl⟩)
def Of(P:PAt CP CQ B H A rs S xs xl xr)(e:H pp=some (.tup [.int i,.ref c]))(b:H c=some (.tup [.int r.1,.int r.2.1,.int r.2.2.1,.ref q]))(g:H q=some (.tup (r.2.2.2.map .int)))(hs:DQ p0 p1 A σ)(f:Pz.js (Pz.eV aD S (i,r)))
 (k:∀a H',DQ p0 p1 A a->PAt CP CQ B H' A rs (Pz.eV aD S (i,r)) xs xl xr->D.nx a H'):dZ K 2 (aW (aA 4) (aW (aA 5) dY)) (.ref pp) σ H λd j=>JL K CP CQ D d j:=by
 obtain⟨u,w,z,rfl⟩:=hs;have e2:(((r.2.2.2.map V.int).length:Nat):Int)=0↔r.2.2.2.length=0:=by rw[Ps];lia
 unfold Pz.eV at f k;refine yR e (gw (.Cb (.len (.ix (.va rfl) b rfl) g) .k) (λh=>?_) λh=>?_)
 .rw[PN (e2.mp (Qa h))]at f k;exact qa P f (.va rfl) (.t (.c (.ix (.va rfl) b rfl) (.c (.ix (.va rfl) b rfl) (.c (.ix (.va rfl) b rfl) .ni))) rfl) (λ_ _=>.c .k (.c (.va rfl) (.c .k .ni))) λH'=>k _ H' ⟨_,_,_,rfl⟩
 .rw[PK λz=>h (P3 (e2.mpr z))]at k;exact k _ H ⟨_,_,_,rfl⟩ P
def Og(TP:jf K CP)(P:PAt CP CQ B H A rs S xs xl xr)(d:qd rs)(fit:Pz.js S)(lp:Pz.Loop aD rs n S T)(hs:DQ p0 p1 A σ)(k:∀H' a b,PAt CP CQ B H' A rs T a b xr->D.rt (.ref A.ta) H'):JK K CP CQ D σ H:=by obtain⟨u,w,z,rfl⟩:=hs;have c:=P;obtain⟨_,_,_,Q⟩:=c;exact rW (.va rfl) Q.po.ins (Hd A) .ni (.mk P d fit lp λH' a b c=>by have e:=c;obtain⟨_,_,_,Q⟩:=e;exact Q.fld TP.cl TP.nt (DI A) rfl _ (k H' a b c))
def Oh(TP:jf K CP)(G:dk B RL p0 l ws)(P:PAt CP CQ B H A (Pz.bU RL) (M.foldl (Pz.g9 aD) Pz.S0) xs xl xr)(fit:Pz.js (Pz.iN aD RL M))(d:qd (Pz.bU RL))(lp:Pz.Loop aD (Pz.bU RL) n (Pz.iN aD RL M) T)(hs:DQ p0 p1 A σ)
 (k:∀H' e f,PAt CP CQ B H' A (Pz.bU RL) T e f xr->D.rt (.ref A.ta) H'):JM K CP CQ D σ H:=by
 obtain⟨u,w,g⟩:=(G.same P.same).tup;have h0:σ[0]?=some (some (.ref p0)):=by obtain⟨_,_,_,rfl⟩:=hs;rfl
 refine o5 (ReadsA.c (.ix (.va h0) g (v:=.ref l) rfl) .ni _ ⟨l,ws,rfl,.inl (ba P.same G.lst),?_⟩);refine wg (DQ p0 p1 A) (λi b=>PAt CP CQ B b A (Pz.bU RL) (((Pz.en RL 0).take i).foldl (Pz.eV aD) (M.foldl (Pz.g9 aD) Pz.S0)) xs xl xr) hs P (λi b a=>.inl (ba a.same G.lst)) (λi v pp σ b D' p h hs a k=>?_) λσ b hs a=>?_
 .obtain⟨r,m,c,q,rfl,s,t⟩:=G.its.get p;have j:=a.more (aw (o:=.tup [.int (i:Nat),.ref c]) h);rw[wj (Pz.eV aD) (M.foldl (Pz.g9 aD) Pz.S0) m]at k;exact Of j ag (j.same _ _ s) (j.same _ _ t) hs (gx (step:=Pz.eV aD) (λS x=>by unfold Pz.eV;split;exact Pz.ci _ _ _ _ _;exact .refl _) (its:=Pz.en RL 0) fit (by rw[uP,m];simp)) k
 .rw[QW (by rw[Pz.mQ,G.its.len];exact Pq _)]at a;exact Og TP a d fit lp hs k
theorem Oi(TP:jf K CP)(G:dk B RL p0 l ws)(e:B p1=some (.tup [y0,.ref lm,y2]))(c:Rd B lm (.lst wm))(j:aN (IsArr B) M wm)(P:PAt CP CQ B H A (Pz.bU RL) Pz.S0 xs xl xr)(fit:Pz.js (Pz.iN aD RL M))(f:qd (Pz.bU RL))(lp:Pz.Loop aD (Pz.bU RL) n (Pz.iN aD RL M) T)(hs:DQ p0 p1 A σ)
 (k:∀H' g h,PAt CP CQ B H' A (Pz.bU RL) T g h xr->D.rt (.ref A.ta) H'):JO K CP CQ D σ H:=by
 have g2:Pz.fx (M.foldl (Pz.g9 aD) Pz.S0) (Pz.iN aD RL M):=Pz.cE _ (λS x=>by unfold Pz.eV;split;exact Pz.ci _ _ _ _ _;exact .refl _) _ _;have h1:σ[1]?=some (some (.ref p1)):=by obtain⟨_,_,_,rfl⟩:=hs;rfl
 exact dC (Reads.ix (.va h1) (P.same _ _ e) (v:=.ref lm) rfl _ ⟨lm,rfl,⟨wm,.inl (ba P.same c)⟩,qb (it:=IsArr) (DQ p0 p1 A) (Pz.g9 aD) Pz.S0 (λT d=>PAt CP CQ B d A (Pz.bU RL) T xs xl xr) hs P (λp d b=>⟨ba b.same c,j.mono (IsArr.keep (p_ b.same))⟩)
  (λi a v σ d D' m o hs b k=>pr2 b o hs (gx (step:=Pz.g9 aD) (λS x=>Pz.ci S _ _ _ _) (g2.fit fit) m) k) λσ d hs b=>Oh TP G b fit f lp hs k⟩)
end
def ss{mg:Str->Option UA}{Fr:List D->Res R}(TP:jf K CP)(h:nU mg 2 (JI Fr) vs H Q E):DP K mg Fr CP CQ E {nx:=λ_ H'=>Q .bB H',rt:=Q} (br ["house","machine","pricing","arrow","number","rule"] vs) H:=by
 obtain⟨i,ds,Ma,is,a⟩:=h;obtain⟨v0,j,rfl⟩ : ∃v0 j,vs=[v0,j]:=by rcases vs with _|⟨v0,_|⟨j,_|⟨_,_⟩⟩⟩<;>first|(cases i;done)|exact⟨_,_,rfl⟩
 refine⟨_,rfl,_,rfl,rfl,ds,Ma,is,?_⟩;unfold JI at a;cases k:Fr ds with
 |stuck=>rw[k]at a;exact a
 |exc c=>rw[k]at a;exact a
 |ok r=>
  rw[k]at a;dsimp only at a;by_cases hex:∃t,mU ds t
  case neg=>rw[dif_neg hex]at a;exact a.elim
  case pos=>
  rw[dif_pos hex]at a;have d:=Classical.choose_spec hex;generalize Classical.choose hex=t at a d;obtain⟨RL,M,Y,Z,m0,m2,n,T,rfl,I,fit,lp,rfl⟩:=d;intro v H1 s1 _;obtain⟨_,_,J,⟨L,_,rfl,p,w0,_,rfl,_,w1,_,rfl,_,w2,_,rfl,q,rfl⟩,_,_,s,⟨p1,_,rfl,w,y0,_,rfl,_,y1,_,rfl,y,y2,_,rfl,_,rfl⟩,rfl⟩:=is;cases J;cases s;obtain⟨l,ws,rfl,i,N⟩:=wo q;obtain⟨lm,wm,rfl,z,O⟩:=wo y;have G:dk H RL L l ws:=⟨⟨_,_,p⟩,i,wn (λx v=>Aw) N⟩;refine⟨_,rfl,λo dx C B S=>?_⟩;have s2:Same H (upd (upd H1 dx (.own o)) o (.ins CP dx [])):=s1.trans λb u e=>by rw[ai (ax e C),ai (ax e B)];exact e
  refine .mk ag s2 (s1.free C) (G.same s2) I λA xr H3 U P=>⟨rfl,?_⟩;subst U;refine Oi TP G w z (wn (λx v=>JJ) O) P fit (Mz RL) lp ⟨none,none,none,rfl⟩ λF V W ⟨_,f,_,g⟩=>?_;obtain⟨X,t2⟩:=He (m:=nl H F) g.po.tr;exact a _ F g.same ⟨A.ta,f.map Prod.snd,rfl,⟨.inr ⟨f,.inl g.po.td,X,rfl⟩,g.po.c5.2,⟨_,g.po.td,True.intro⟩⟩,t2⟩
end
def Ax:∀{n:Nat}{S T:Pz.PS},Pz.Loop pile rs n S T->∀{m:Nat}{b:Pz.PS},Pz.Loop pile rs m S b->T=b:=by
 intro n S T h;induction h with
 |done e=>
  intro m b h';cases h' with
  |done _=>rfl
  |step a=>exact(a e).elim
 |step a _ _ _ _ _ c=>
  intro m b h';cases h' with
  |done e=>exact(a e).elim
  |step _ _ _ _ _ h'=>exact c h'
def xW(h:eF r=eF s):r=s:=by
 have a:∀{l m:List Int},l.map D.int=m.map D.int->l=m:=λ{l m} e=>by
  induction l generalizing m with
  |nil=>cases m with
   |nil=>rfl
   |cons _ _=>cases e
  |cons x l b=>cases m with
   |nil=>cases e
   |cons y m=>rw[PU,PU]at e;injection e with e1 e2;injection e1 with e1;rw[e1,b e2]
 unfold eF at h;injection h with h;injection h with h0 h;injection h with h1 h;injection h with h2 h;injection h with h3 h;injection h0 with h0;injection h1 with h1;injection h2 with h2;injection h3 with h3;exact TY h0 (TY h1 (TY h2 (a h3)))
def Ay(h:sr r=sr s):r=s:=by unfold sr at h;injection h with h;injection h with h0 h;injection h with h1 h;injection h with h2 h;injection h0 with h0;injection h1 with h1;injection h2 with h2;exact TY h0 (TY h1 h2)
theorem qg{α:Type}{f:α->D}(a:∀{x y},f x=f y->x=y):∀{l m:List α},l.map f=m.map f->l=m
 |[],[],_=>rfl
 |[],_::_,e=>nomatch e
 |_::_,[],e=>nomatch e
 |x::l,y::m,e=>by rw[PU,PU]at e;injection e with e1 e2;rw[a e1,qg a e2]
structure Mt(K:Uy) (C:Addr) (x q:Str) (st:Stmt) (ps:List Str) (f:Addr) (fd:FuncData):Prop where
 fu:CI K x q st f fd
 bi:Binds K fd ps []
 me:Meth K C x f
def JP{K:Uy}{C:Addr}{x q:Str}{st:Stmt}{ps:List Str}{f:Addr}{oc:UA}{od an:Option Addr}{osl:Array (Option UA)}{kV doc pm cdv ct:UA}
 (l:K.lookup f=some ⟨oc,od,.func (fnOf x q (dL st) (cW st) (aC st) .none kV doc pm an cdv ct),osl⟩) (c:codeIn K cdv q=true) (k:keepIn K (.ref f)=true) (a:findIn K (.ref C) x=some (some (.ref f))) (i:isFn K (.ref f)=true)
 (h:∀(kV doc pm:UA)(an:Option Addr)(cdv ct:UA)(us:List UA),us.length=ps.length->bindArgs (fnOf x q (dL st) (cW st) (aC st) .none kV doc pm an cdv ct) ⟨us,[]⟩=pure (ps.zip us)) :
 Mt K C x q st ps f (fnOf x q (dL st) (cW st) (aC st) .none kV doc pm an cdv ct):=
 have F:CI K x q st f _:=zx l c k
 ⟨F,F.binds h,a,i,k⟩
section
variable{P:Uz}{w:World}{K:Uy}{mg:Str->Option UA}{base:Heap}
def Az{x qual:Str}{st:Stmt}{f:Addr}(F:CI K x qual st f fd)(S:aP N ps (aC st))(len:∀vs H Q E,sp vs H Q E->vs.length=ps.length)
 (a:∀(cdv:UA)(A:UB)(outer:List Env)(s:Ux)(H:Hp)(vs:List V)(Q:VK)(E:XK),dE k (A.deeper (envOfC qual (aC st) s.heap.objs.size f cdv))->sp vs H Q E->
   ∃t,PSs (pF P w K mg base N qual (aC st) f cdv A outer s H E) (cW st) t/\t {nx:=λ_ H'=>Q .bB H',rt:=Q} (br N vs) H):bJ P w K mg base (yP P w) (k+1) f fd ps sp:=by
 obtain⟨oc,od,kV,doc,pm,an,cdv,ct,osl,rfl,lk,b⟩:=F.ex;exact E_ lk b S len λA outer s H vs Q E d c=>a cdv A outer s H vs Q E d c
end
def Oj{α:Type}{l:List α}(h:l.length=2):∃a b,l=[a,b]:=by rcases l with _|⟨a,_|⟨b,_|_⟩⟩<;>first|(cases h;done)|exact⟨_,_,rfl⟩
def dQ(a:X.calm=true)(S:cB X scope tN capN caps)(b:PI X tg iter wi)(hs:autoParam (∀x,foldedSetIterable iter X.env x=pure x) af) :
 PE X (.ListComp elt [⟨tg,iter,ifs,0⟩] scope pos) (iH X scope tg tN capN caps elt ifs wi):=λac s σ H Q I h=>z9 a S I b h hs
def Fy(K:Uy):List V->Hp->VK->Prop:=λxs H Q=>∃p ns,xs=[.ref p]/\SqL K H p (ns.map V.int)/\ns≠[]/\Q (.int (pO ns)) H
def xX(a:X.calm=true):bV X (.builtin "min") (Fy X.K):=xo a
def xY(h2:tN.length=2)(D:∀cl C g h fp,PG (aV X scope (tN++[]) cl C g h fp) tg (dZ X.K 2 (aW (aA 0) (aW (aA 1) dY))))(E:∀cl C g h fp,PE (aV X scope (tN++[]) cl C g h fp) elt (ao 0)) :
 GX (fQ (Fy X.K) (au (iH X scope tg tN [] [] elt [] (ce X.K (ao 1))) aF)):=by
 intro σ H a vs its Q h1 l z n N k;refine⟨_,h1,a,rfl,⟨_,SqL.of l⟩,?_⟩;intro q r cl C g fp;have F:a≠q:=ax l r;have G:=z.len;refine⟨_,_,_,λi m d H'=>m=its.length-i/\i<=its.length/\d=((its.take i).map λx=>V.int x.1)/\Same H H'/\H' q=some (.lst d),D cl C g _ fp,fU,E cl C g _ fp,⟨its.length,by simp,PQ _,by simp,aw r,ag⟩,?_⟩;rintro i m d H' ⟨rfl,O,rfl,s,b⟩;have f:=s _ _ l;refine⟨b,?_⟩;by_cases t:i<its.length
 .right;have v:i<vs.length:=by lia
  refine⟨⟨vs,vs[i],SqL.of f,by simp[v]⟩,λP I o y A=>?_⟩;obtain⟨rfl,y⟩:=y;have J:=y vs (SqL.of f);obtain⟨x,ex,p,w,rfl,L,_⟩:=z.get J;rw[h2]at A;obtain⟨R,u1,rfl⟩:=Oj A;refine yR (s _ _ L) ⟨λj B=>?_,?_⟩
  .rw[h2]at B;obtain⟨j,rfl⟩:=QJ B;rfl
  .refine hI ?_;refine⟨_,rfl,b,?_,its.length-(i+1),by lia,rfl,t,?_,λc u e=>?_,ag⟩
   .rw[Ps,Qf];have:=QG i its;lia
   .rw[P0,ex,Qo];rfl
   .rw[ai (ax e r)];exact s _ _ e
 .left;have M:i=its.length:=by lia
  subst M;refine⟨⟨vs,SqL.of f,by lia⟩,q,its.map (·.1),rfl,?_,by simpa using n,?_⟩
  .rw[Qk]at b;rw[QC];exact SqL.of b
  .rw[wc];exact k H' s
def bM{N P:List Str}{h:Scope}(a:autoParam (h.kind=.function) az)(b:autoParam (h.isCoroutine=false) az)(c:autoParam (h.isGenerator=false) az)(d:N.Nodup:=by decide +kernel)(e:autoParam (N.take P.length=P) az)
 (f:∀x∈P,h.names.lookup x=some .local\/h.names.lookup x=some .cell:=by decide +kernel) (g:∀y∈h.names,y.2≠.free:=by decide +kernel):aP N P h:=⟨a,b,c,d,e,f,g⟩
abbrev IL(x q:Str)(st:Stmt)(kV doc pm:UA)(an:Option Addr)(cdv ct:UA):FuncData:=fnOf x q (dL st) (cW st) (aC st) .none kV doc pm an cdv ct
structure Df(K:Uy) (mg:Str->Option UA) (x:Str) (st:Stmt) (ps:List Str) where
 f:Addr
 fd:FuncData
 h:Fn K mg x st ps f fd
structure Mf(K:Uy) (C:Addr) (x q:Str) (st:Stmt) (ps:List Str) where
 f:Addr
 fd:FuncData
 h:Mt K C x q st ps f fd
section
variable{K KK:Uy}{x q:Str}{st:Stmt}{f C:Addr}{oc:UA}{od an:Option Addr}{osl:Array (Option UA)}{kV doc pm cdv ct:UA}
def Lk(K:Uy)(x q:Str)(st:Stmt)(f:Addr):Prop:=∃oc od an osl kV doc pm cdv ct,K.lookup f=some ⟨oc,od,.func (IL x q st kV doc pm an cdv ct),osl⟩/\codeIn K cdv q=true
def lk(l:K.lookup f=some ⟨oc,od,.func (IL x q st kV doc pm an cdv ct),osl⟩)(c:codeIn K cdv q=true):Lk K x q st f:=⟨_,_,_,_,_,_,_,_,_,l,c⟩
def FK(K:Uy)(x:Str)(st:Stmt):Prop:=∃f,nsIn K mainGlobals x=some (some (.ref f))/\Lk K x x st f
def fk(a:nsIn K mainGlobals x=some (some (.ref f)))(l:K.lookup f=some ⟨oc,od,.func (IL x x st kV doc pm an cdv ct),osl⟩)(c:codeIn K cdv x=true):FK K x st:=⟨_,a,lk l c⟩
structure MK(K:Uy) (C:Addr) (x q:Str) (st:Stmt) (f:Addr):Prop where
 a:findIn K (.ref C) x=some (some (.ref f))
 i:isFn K (.ref f)=true
 l:Lk K x q st f
 k:keepIn K (.ref f)=true
def mk(a:findIn K (.ref C) x=some (some (.ref f)))(i:isFn K (.ref f)=true)(l:K.lookup f=some ⟨oc,od,.func (IL x q st kV doc pm an cdv ct),osl⟩)(c:codeIn K cdv q=true)(k:keepIn K (.ref f)=true):MK K C x q st f:=⟨a,i,lk l c,k⟩
structure CK(K KK:Uy) (x:Str) (C:Addr):Prop where
 b:nsIn K mainGlobals x=some (some (.ref C))
 pg:plainGet KK C Str.empty=true
 hd:hasDictIn KK C=true
 po:PySem.W.plainOver KK C=true
 sa:findIn KK (.ref C) "__setattr__"=some (some (.builtin "object.__setattr__"))
 m:PySem.W.makesIn KK C=true
 k:keepIn KK (.ref C)=true
def CK.cl(c:CK K KK x C):qC KK C:=⟨c.pg,c.hd,c.po,c.sa⟩
variable{mg:Str->Option UA}{ps:List Str}{h:Heap}
theorem df(X:K.In h)(G:h.Ns mainGlobals mg)(U:jg K KK)(k:FK K x st)
 (hb:∀(kV doc pm:UA)(an:Option Addr)(cdv ct:UA)(us:List UA),us.length=ps.length->bindArgs (IL x x st kV doc pm an cdv ct) ⟨us,[]⟩=pure (ps.zip us):=by intro _ _ _ _ _ _ us b;rcases us with _|⟨_,_|⟨_,_|⟨_,_|⟨_,_|⟨_,_|⟨_,us⟩⟩⟩⟩⟩⟩<;>first|(cases b;done)|rfl):Nonempty (Df KK mg x st ps):=by
 obtain⟨f,a,oc,od,an,osl,kV,doc,pm,cdv,ct,l,c⟩:=k;exact⟨f,_,GP U l c (Uq X G a) hb⟩
theorem mf(k:MK K C x q st f)
 (hb:∀(kV doc pm:UA)(an:Option Addr)(cdv ct:UA)(us:List UA),us.length=ps.length->bindArgs (IL x q st kV doc pm an cdv ct) ⟨us,[]⟩=pure (ps.zip us):=by intro _ _ _ _ _ _ us b;rcases us with _|⟨_,_|⟨_,_|⟨_,_|⟨_,_|⟨_,_|⟨_,us⟩⟩⟩⟩⟩⟩<;>first|(cases b;done)|rfl):∃m:Mf K C x q st ps,m.f=f:=by
 obtain⟨a,i,⟨oc,od,an,osl,kV,doc,pm,cdv,ct,l,c⟩,kp⟩:=k;exact⟨⟨f,_,JP l c kp a i hb⟩,rfl⟩
def JQ(c:CK K KK x C)(k:MK KK C "__init__" q st f):Mk KK C f:=⟨c.m,k.a,k.i,c.k⟩
end
end L4
namespace L2
open PySem PySem.Spec PySem.Calls PyProof.Rows
abbrev Fz:=List (List bI×Addr×UA)
def AB:UA->Int
 |.int n _=>n
 |_=>0
def su(a:Fz)(x:List bI×Addr×UA):Bool:=match a.find? λy=>decide (y.1=x.1)with
 |some y=>AB x.2.2==AB y.2.2
 |none=>false
def JR(a b:Fz):Bool:=a.length==b.length&&a.all (su b)
section
variable{prog:Uz}{w:World}{A:UB}{E:UA->Ux->Prop}{s:Ux}{a b:Addr}{xa xb:Fz}
theorem mW:∀{xb:Fz}{j:Nat}{k:List bI}{p:Addr×UA},(xb.map (·.1)).Nodup->xb[j]?=some (k,p)->xb.find? (λy=>decide (y.1=k))=some (k,p)
 |[],_,_,_,_,e=>by simp at e
 |y::r,0,k,p,nd,e=>by simp at e;subst e;rw[Q9];simp
 |y::r,j+1,k,p,nd,e=>by
  have c:=Qu.mp nd;have d:r[j]?=some (k,p):=by simpa using e
  have hm:k∈r.map (·.1):=Pt.mpr ⟨_,PY d,rfl⟩;rw[Q9,QA (λz=>c.1 (by show y.1∈_;rw[z];exact hm))];exact mW c.2 d
def sv{nm:String}{Q:Bool->Ux->Prop}(Z:(tupleKind (aK prog w)).room A)(ha:(a==sysModules)=false)(hb:(b==sysModules)=false)(da:s.heap.DictOfH (tupleKind (aK prog w)) a xa)(db:s.heap.DictOfH (tupleKind (aK prog w)) b xb)
 (na:∀x∈xa,∃n t,x.2.2=.int n t) (nb:∀x∈xb,∃n t,x.2.2=.int n t) (h:Q (JR xa xb) s):wpAny (model prog w) A (Builtin.Dict.samePairs nm a b) Q E s:=by
 obtain⟨oa,es,ep,o,_,r,I,M,hna⟩:=da;obtain⟨ob,J,ep',B,_,C,D,N,K⟩:=db;have O:es.size=xa.length:=RQ I;have hlb:J.size=xb.length:=RQ D;unfold Builtin.Dict.samePairs Builtin.Dict.showsAll;rw[PK (by grind),PK (by grind)];refine KE (Po (KE (Po (KE (QE o r ?_)))));dsimp only;refine KE (QE B C ?_);unfold JR at h;by_cases hsz:es.size=J.size
 case neg=>
  have:(xa.length==xb.length)=false:=by grind
  rw[this,RY]at h;rw[PN (by grind)];exact KE (S3 (Po h))
 case pos=>
  have:(xa.length==xb.length)=true:=by grind
  rw[this,Um]at h;rw[PK (by grind)];refine KE (RT o r (KE ?_));rw[SF];simp only[Std.Legacy.Range.size,Nat.sub_zero,Nat.add_sub_cancel,Nat.div_one];refine SU _ (λrest q P=>P=s/\q=(none,())/\∃i,rest=List.range' i (es.size-i)/\i<=es.size/\Q ((xa.drop i).all (su xb)) s) _ ?_ ?_ _ _ ⟨rfl,rfl,0,by simp,PQ _,h⟩
  .rintro i rest q P ⟨rfl,rfl,R,F,X,d⟩;have S:R<es.size:=Nat.lt_of_not_le λz=>by rw[Nat.sub_eq_zero_of_le z]at F;simp at F
   have e1:es.size-R=(es.size-(R+1))+1:=by lia
   rw[e1,List.range'_succ]at F;injection F with e2 hrest;subst e2;have f:i<xa.length:=by lia
   have Y:xa[i]?=some xa[i]:=by simp[f]
   have G:xa.drop i=xa[i]::xa.drop (i+1):=SJ f;have g:=entry_at I i;rw[Y]at g;have H:=Ut f;rw[G,T3]at d;generalize xa[i]=x at Y g H d;obtain⟨k,c,v⟩:=x;obtain⟨n,t,rfl⟩ : ∃n t,v=.int n t:=na _ H;refine KE (QE o r ?_);rw[g];refine KE (Qz (KE (wpAny_dictFind_heap Z (M _ H) B C D N K (λT=>?_) λj p U=>?_)))
   .have V:xb.find? (λy=>decide (y.1=k))=none:=by rw[List.find?_eq_none];intro y hy z;obtain⟨m,hm⟩:=SH hy;exact T m y.2 (by grind)
    have:su xb (k,c,.int n t)=false:=by unfold su;dsimp only;rw[V]
    rw[this,RY]at d;exact Po (Po (Po d))
   .have V:=mW K U;have l:=entry_at D j;rw[U]at l;obtain⟨m,u,L⟩:=nb _ (PY U);obtain⟨pa,pv⟩:=p;dsimp only at L;subst L;have hh:su xb (k,c,.int n t)=(n==m):=by unfold su;dsimp only;rw[V];rfl
    rw[hh]at d;refine KE (QE B C ?_);rw[l];refine Qz (SeqAt.EqAt.int_int n t m u prog w _ _ ?_);cases q:(n==m)with
    |false=>rw[q,RY]at d;exact Po (Po d)
    |true=>rw[q,Um]at d;refine KE (RT o r ?_);rw[PK (by simp)];exact Po ⟨rfl,rfl,i+1,hrest,S,d⟩
  .rintro q P ⟨rfl,rfl,i,F,X,d⟩;have W:i=es.size:=Nat.le_antisymm X (Ur λz=>by
    have e:es.size-i=(es.size-(i+1))+1:=by lia
    rw[e,List.range'_succ]at F;exact nomatch F)
   rw[W,O,List.drop_length]at d;exact Po d
def AC{Q:UA->Ux->Prop}(f:A.units+2<cLine)(ha:(a==sysModules)=false)(hb:(b==sysModules)=false)(c:s.heap.DictOfH (tupleKind (aK prog w)) a xa)(d:s.heap.DictOfH (tupleKind (aK prog w)) b xb)
 (na:∀x∈xa,∃n t,x.2.2=.int n t) (e:∀x∈xb,∃n t,x.2.2=.int n t) (h:Q (.bool (JR xa xb)) s):wpAny (model prog w) A (compareOp .Eq (.ref a) (.ref b)) Q E s:=by
 refine wpAny_richCompare_same_room (op:=.Eq) c.typeIs d.typeIs PySem.F.slot_dict_eq (QF PySem.F.slot_dict_eq c.typeIs PySem.F.entry_dict_eq ?_ (PySem.F.args_dict_eq_2 _ _)) (by lia);show wpAny _ _ (Builtin.Dict.dictSlotArgs "__eq__" ⟨[.ref a,.ref b],[]⟩ >>= _) _ _ s;unfold Builtin.Dict.dictSlotArgs;refine KE (KE (Rh c.typeIs ?_));show wpAny _ _ (pure (Value.ref a,Value.ref b)) _ _ s;refine Po (KE (Se (T:="dict") d.typeIs PySem.F.sub_dict_dict ?_));simp only[Ry,PZ,Q5];refine KE (Po (KE (Po (KE (sv (RK (by lia)) ha hb c d na e (Po ⟨_,rfl,λx=>(nomatch x),?_⟩))))));simpa using h
end
def uR(kvs:List (List bI×V)):Prop:=∀p∈kvs,∃n,p.2=.int n
def DR(a:List (List bI×V))(p:List bI×V):Bool:=match a.find? λy=>decide (y.1=p.1)with
 |some y=>decide (p.2=y.2)
 |none=>false
def AD(a b:List (List bI×V)):Bool:=a.length==b.length&&a.all (DR b)
def AE(H:Hp)(a:Addr)(kvs:List (List bI×V)):Prop:=Rd H a (.dT kvs)\/(kvs=[]/\Rd H a (.dK []))
def JS:R2:=λx y H Q=>∃a b c d,x=.ref a/\y=.ref b/\AE H a c/\AE H b d/\uR c/\uR d/\Q (.bl (AD c d)) H
def DS{H:Hp}{a:List (List bI×V)}{b:Fz}(r:KT H a b)(c:uR a){p:List bI×V}{x:List bI×Addr×UA}(e:p.1=x.1)(d:RelV p.2 x.2.2)(g:∃n,p.2=.int n):DR a p=su b x:=by
 obtain⟨n,en⟩:=g;rw[en]at d;obtain⟨t,f⟩:=d;unfold DR su;rw[<- e,en,f];clear e en f;induction r with
 |nil=>rfl
 |@cons q y a b h _ i=>
  obtain⟨h1,_,h3⟩:=h;rw[Q9,Q9,h1];by_cases z:y.1=p.1
  .rw[P3 z];obtain⟨m,em⟩:=c q Pu;rw[em]at h3;obtain⟨u,j⟩:=h3;show decide (V.int n=q.2)=(n==AB y.2.2);rw[em,j];show decide (V.int n=V.int m)=(n==m);rw[Sv];simp
  .rw[QA z];exact i λp k=>c p (Pw _ k)
def AF{H:Hp}{a b:List (List bI×V)}{c d:Fz}(e:KT H a c)(f:KT H b d)(g:uR a)(i:uR b):AD a b=JR c d:=by
 unfold AD JR;rw[Rk e,Rk f];congr 1;induction e with
 |nil=>rfl
 |@cons p x a c h _ j=>rw[T3,T3,j λp k=>g p (Pw _ k),DS f i h.1 h.2.2 (g p Pu)]
def sw{H:Hp}{a:List (List bI×V)}{b:Fz}(d:KT H a b)(c:uR a):∀x∈b,∃n t,x.2.2=.int n t:=by
 induction d with
 |nil=>exact λ_ h=>(PV h).elim
 |@cons p x a b e _ f=>
  intro y hy;rcases PB.mp hy with rfl|hy
  .obtain⟨n,en⟩:=c p Pu;have:=e.2.2;rw[en]at this;obtain⟨t,g⟩:=this;exact⟨n,t,g⟩
  .exact f (λp i=>c p (Pw _ i)) y hy
section
variable{X:Cx}
def Hf(l:X.A.units+64<cLine):nJ X (compareOp .Eq) JS:=by
 intro ac s σ H x y v u Q I g i h;obtain⟨a,b,m,n,rfl,rfl,ta,tb,c,d,q⟩:=h;cases g;cases i;have rd:∀{a:Addr}{kvs:List (List bI×V)},AE H a kvs->(a==sysModules)=false/\∃xs,KT H kvs xs/\s.heap.DictOfH (tupleKind (aK X.prog X.w)) a xs:=λ{a kvs} t=>by
  rcases t with t|⟨rfl,t⟩
  .exact(gq I.aT t).2
  .obtain⟨y,dd⟩:=zC (t.ok I.aT);exact⟨y,[],.nil,dd⟩
 obtain⟨ha,o,e,j⟩:=rd ta;obtain⟨hb,p,f,k⟩:=rd tb;exact AC (by lia) ha hb j k (sw e c) (sw f d) ⟨.bl _,H,I,by rw[AF e f c d];rfl,q⟩
end
end L2
namespace L2
open PySem PySem.Spec PySem.Calls PyProof.Rows
def uS(prog:Uz)(w:World)(d:Addr)(hd:(d==sysModules)=false):MeetsIn prog w (Builtin.«dict.__len__» ⟨[.ref d],[]⟩) (λ_ R s=>∃(o:Obj)(es:Array DictEntry)(ep n:Nat),s.heap.get? d=some o/\o.data=.dict es ep/\es.size=n/\R (.ok (.ret (.int n s.toks))) {s with toks:=s.toks+1}):=by
 apply MeetsIn.of_wp;rintro A R s ⟨o,es,ep,n,h1,h2,rfl,h⟩;show wpAny _ _ (dictSize d >>= _) _ _ s
 delta dictSize
 apply KE;apply KE;apply QE h1 h2;apply Po;show wpAny _ _ (Builtin.Dict.pendingCount d >>= _) _ _ s;apply KE;apply wpAny_pendingCount_other hd;exact wpAny_ret_mkInt h
section
variable{X:Cx}
def xZ:bV X (.builtin "len") (λxs H Q=>∃(d:Addr)(kvs:List (List bI×V)),xs=[.ref d]/\(Rd H d (.dT kvs)\/(Rd H d (.dK [])/\kvs=[]))/\Q (.int kvs.length) H):=by
 intro ac s σ H xs us Q I r h;obtain⟨d,kvs,rfl,hd,q⟩:=h;obtain⟨w,rfl,g⟩:=dU r;cases g;have f:(d==sysModules)=false/\kvs.length<=sizeLine/\Shared.TypeIs s (.ref d) "dict"/\∃(o:Obj)(es:Array DictEntry)(ep:Nat),s.heap.get? d=some o/\o.data=.dict es ep/\es.size=kvs.length:=by
  rcases hd with hd|⟨hd,rfl⟩
  .obtain⟨z,hs,xs,a,o,es,ep,h1,h2,h3,b,_⟩:=gq I.aT hd;exact⟨hs,z,⟨o,h1,h2.1⟩,o,es,ep,h1,h3,by rw[RQ b];exact(Rk a).symm⟩
  .obtain⟨z,hs,vs,a,dd⟩:=iB I.aT hd;have c:=dd.typeIs;obtain⟨o,es,ep,h1,h2,h3,b,i,_⟩:=dd;exact⟨hs,PQ _,c,o,es,ep,h1,h3,by
    have e:es.size=vs.length:=by rw[<- i.length];simp
    rw[e,<- a.length];rfl⟩
 obtain⟨hs,z,c,o,es,ep,h1,h3,b⟩:=f;rw[Qf]at z;refine SO PySem.kind_len PySem.plain_len PySem.entry_len (PySem.args_len1 _) ?_
 delta Builtin.«len»
 apply KE (m:=oneArg "len" _);apply Po;apply KE (m:=callSpecial? (.ref d) (Str.ofString "__len__"));apply Q7 (name:=Str.ofString "__len__") c PySem.F.slot_dict_len;apply R_ PySem.F.slot_dict_len c PySem.F.entry_dict_len (PySem.F.args_dict_len_1 _) (uS X.prog X.w d hs);refine⟨o,es,ep,kvs.length,h1,h3,b,?_⟩;show wpAny _ _ _ _ _ {s with toks:=s.toks+1};apply KE;apply Qz;apply Po;apply KE;apply Tt;show wpAny _ _ (if((kvs.length:Nat):Int)<0 then _ else _) _ _ _;rw[PK (by lia)];show wpAny _ _ (if((kvs.length:Nat):Int)>=2^63 then _ else _) _ _ _;rw[PK (by lia)];apply KE;apply wpAny_mkInt;exact Po ⟨_,rfl,.int kvs.length,H,I.tok _,⟨_,rfl⟩,q⟩
end
end L2
namespace L4
open PySem PySem.Spec PyProof.Rows L2 L3
def AG:List V->Hp->VK->Prop:=λxs H Q=>∃(d:Addr)(kvs:List (List bI×V)),xs=[.ref d]/\(Rd H d (.dT kvs)\/(Rd H d (.dK [])/\kvs=[]))/\Q (.int kvs.length) H
def mX{X:Cx}:bV X (.builtin "len") AG:=xZ
end L4
namespace Sp
abbrev Arr:=Int×Int×Int
abbrev Rule:=Int×Int×Int×List Int
section
variable{κ β:Type}[DecidableEq κ]
def get(d:List (κ×β))(k:κ):Option β:=(d.find? λx=>decide (x.1=k)).map (·.2)
end
structure St where
 tb:List (Int×List (Int×List Int))
 en:List Int
 fo:List (Int×List Int)
 mi:List ((Int×Int)×Int)
 du:List Arr
def row(tb:List (Int×List (Int×List Int)))(s:Int):List (Int×List Int):=(get tb s).getD []
def JT(tb:List (Int×List (Int×List Int)))(s g:Int):List Int:=(get (row tb s) g).getD []
def LG(S:St)(s:Int):List Int:=(get S.fo s).getD []
def gd(S:St)(a:Arr):Prop:=a.2.2∈JT S.tb a.1 a.2.1
abbrev RS:=List ((Int×Int)×List Rule)
end Sp
namespace Sp
def Ol(ro:Int)(S:St)(r:Rule)(t:Int):Prop:=match r.2.2.2 with
 |[]=>r.2.2.1∈LG S t
 |[x]=>gd S (r.2.2.1,x,t)
 |x::y::_=>∃m,ro<=m/\gd S (r.2.2.1,x,m)/\gd S (m,y,t)
def DT(rs:RS)(s g:Int):List Rule:=(get rs (s,g)).getD []
def MA(ro:Int)(rs:RS)(S:St)(a:Arr):Prop:=∀r∈DT rs a.1 a.2.1,Ol ro S r a.2.2
structure J(ro:Int) (rs:RS) (S:St) (pf:Int->Arr->Prop) (pr:Arr->Prop):Prop where
 to:∀a,gd S a->ro<=a.2.2
 mi:∀x∈S.mi,ro<=x.2
 fo:∀s r,r∈LG S s->r<ro/\ro<=s/\(s∈S.en->r∈S.en)/\∀g t,gd S (s,g,t)->gd S (r,g,t)\/(s,g,t)∈S.du\/pf r (s,g,t)
 dn:∀a,gd S a->MA ro rs S a\/a∈S.du\/pr a
end Sp
namespace Sp
section
def MB{κ a:Type}(d:List (κ×a)):Prop:=(d.map (·.1)).Nodup
end
end Sp
namespace Sp
theorem nodup_sub{α:Type}[DecidableEq α]:∀{l U:List α},l.Nodup->(∀x∈l,x∈U)->l.length<=U.length
 |[],U,_,_=>PQ _
 |x::l,U,nd,h=>by rw[Qu]at nd;have a:=h x (by simp);have:=nodup_sub (l:=l) (U:=U.erase x) nd.2 λy b=>(List.mem_erase_of_ne λe=>nd.1 (by rw[<- e];exact b)).mpr (h y (by simp[b]));rw[List.length_erase_of_mem a]at this;have:=Tj a;rw[P8];lia
def Bx(sg m:Int)(a:Arr):Prop:=(0<=a.1/\a.1<m)/\(0<=a.2.1/\a.2.1<sg)/\0<=a.2.2/\a.2.2<m
structure B(ro n sg:Int) (ks:List (Int×Int)) (t0 pp:List Arr) (S:St):Prop where
 old:∀a,gd S a->ro<=a.1->a.1<n->a∈t0
 bx:∀a,gd S a->Bx sg (n+ks.length) a
 ne1:∀x∈S.tb,x.2≠[]
 ne2:∀s,∀x∈row S.tb s,x.2≠[]
 lf:∀s g,(JT S.tb s g).Nodup
 nd:(pp++S.du).Nodup
 sub:∀a∈pp++S.du,gd S a
 mc:(S.mi.map (·.1)).Nodup
 ms:∀x∈S.mi,x.1∈ks
 mv:∀x∈S.mi,n<=x.2/\x.2<n+S.mi.length
 en:S.en.Nodup
 er:∀e∈S.en,0<=e/\e<n
 fk:MB S.fo
 fl:∀s,(LG S s).Nodup
 fr:∀s,∀r∈LG S s,0<=r/\r<ro
 fs:∀x∈S.fo,0<=x.1/\x.1<n+ks.length
end Sp
namespace Sp
section
variable{ro n sg:Int}
def Hg(a:List Arr)(es:List Int):Int->List Int->Prop
 |s,[]=>s∈es
 |s,g::w=>∃t,(s,g,t)∈a/\Hg a es t w
structure Fw(ro sg n:Int) (RL:List Rule) (ts:List Arr) (es:List Int) (n':Int) (ts':List Arr) (es':List Int):Prop where
 t:∀a∈ts,a∈ts'
 e:∀x∈es,x∈es'
 c:∀r∈RL,r.2.2.2.length<=2->∀w,Hg ts' es' r.1 (r.2.1::w)->Hg ts' es' r.2.2.1 (r.2.2.2++w)
end
end Sp
namespace L2
open PySem PySem.Spec PySem.Calls PyProof.Rows
section
variable{prog:Uz}{w:World}{A:UB}{E:UA->Ux->Prop}{s:Ux}{d it:Addr}{es:Array DictEntry}{ep i:Nat}
theorem mY(hd:(d==sysModules)=false)(m:RawD s.heap d es ep)
 (c:Q (.ref s.heap.objs.size) { s with heap:=s.heap.push { cls:=.type "dict_keyiterator",data:=.fields #[.ref d,.int 0 0,.int es.size 0,.int ep 0] } }):wpAny (model prog w) A (pyIter (.ref d)) Q E s:=by
 obtain⟨o,b,_,a⟩:=id m;refine SD m.ty F.slot_dict_iter (QF F.slot_dict_iter m.ty F.entry_dict_iter ?_ (F.args_dict_iter_1 _));unfold Builtin.«dict.__iter__» Builtin.Dict.dictSlotNone;refine KE (KE (Rh m.ty (show wpAny _ _ (pure (Value.ref d)) _ _ s from Po ?_)));show wpAny _ _ (Builtin.Dict.showsAll d >>= _) _ _ s;unfold Builtin.Dict.showsAll;rw[PK (by grind)];refine KE (Po (KE (QE b a (KE (RT b a (KE (QD (Po ⟨_,rfl,"dict_keyiterator",_,⟨_,PH _ rfl,rfl⟩,F.slot_dict_keyiterator_next.lookup,?_⟩))))))));simpa[rawInt]using c
theorem gJ(y:s.heap.IsKeyIter it d i es.size ep)(m:RawD s.heap d es ep)
 (h1:∀e,es[i]?=some e->∀h',h'.IsKeyIter it d (i+1) es.size ep->Heap.SameBut it s.heap h'->Q (some e.key) {s with heap:=h'})
 (h2:es[i]?=none->A.handled=none/\∀h',Heap.ExtBut it s.heap h'->Q none {s with heap:=h'}):wpAny (model prog w) A (pyNext (.ref it)) Q E s:=by
 obtain⟨o,h,k,hd⟩:=id y;obtain⟨od,f,_,g⟩:=id m;unfold pyNext;refine KE (TZ (Q7 (name:=Str.ofString "__next__") y.typeIs F.slot_dict_keyiterator_next (QF F.slot_dict_keyiterator_next y.typeIs F.entry_dict_keyiterator_next ?_ (F.args_dict_keyiterator_next_1 _))));refine KE (Po (KE (KE ?_)))
 first|refine KE (Sg y.typeIs (Po ?_))|refine KE (S5 y.typeIs (Po ?_))
 refine KE (Ud h hd ?_);simp only[show Builtin.Dict_items.ownsTuple "dict_keyiterator"=false by decide,PZ,Q5];show wpAny _ _ (if(Value.ref d==Value.none)=true then _ else _) _ _ s;rw[PK (show ¬((Value.ref d==Value.none)=true)from Qg)];refine KE (Po (KE (QE f g ?_)));rw[PK (by simp)];refine KE (Po (KE (RT f g ?_)));rw[PK (by simp)];refine Po ?_;simp only[show ¬((i:Int)<0)from by lia,Q5,SB];cases j:es[i]? with
 |some e=>
  refine KE ?_
  first|refine KE (Sg y.typeIs (Po ?_))|refine KE (S5 y.typeIs (Po ?_))
  refine KE (wpAny_isOneOf_keyiter y.typeIs ?_);show wpAny _ _ (setField (.ref it) 1 (rawInt ((i:Int)+1)) >>= _) _ _ s;refine KE (SN h hd (by simp) ?_);have c:(s.heap.update it (Obj.mapFields (·.setIfInBounds 1 (rawInt ((i:Int)+1))))).IsKeyIter it d (i+1) es.size ep:=⟨_,QI _ h (TB (Td hd _)),(Obj.cls_mapFields ..).trans k,by rw[Td hd];simp[rawInt]⟩;refine KE (Qz (KE (wpAny_isOneOf_keyiter (s:={s with heap:=s.heap.update it (Obj.mapFields (·.setIfInBounds 1 (rawInt ((i:Int)+1))))}) c.typeIs ?_)));show wpAny _ _ (pure e.key) _ _ _;exact Po (Po ⟨_,rfl,Po (h1 e j _ c (Qi ..))⟩)
 |none=>
  obtain⟨l,n⟩:=h2 j;refine KE ?_
  first|refine KE (Sg y.typeIs (Po ?_))|refine KE (S5 y.typeIs (Po ?_))
  show wpAny _ _ (setField (.ref it) 0 .none >>= _) _ _ s;refine KE (SN h hd (by simp) ?_);show wpAny _ _ (newExc (.type "StopIteration") [] >>= _) _ _ _;refine KE ?_;simp only[newExc,newTuple];refine KE (QD ?_ (by size_fits));refine KE (m:=firstArgMember _ _) (Ul (a:=Value.none) (by first|rfl|(simp only[firstArgMember];rfl)) ?_);refine QD ?_ (by size_fits);simp only[raiseNew];refine KE (wpAny_handled ?_);rw[show A.in1.handled=none from l];refine KE (Po (wpAny_throw ?_));refine KE (Se (T:="StopIteration") (b:=true) ⟨_,PH _ rfl,rfl⟩ isSubtype_stop ?_);exact Po (n _ (((Qi ..).extBut.push _).push _))
end
end L2
namespace L4
open PySem PySem.Spec PyProof.Rows L2 L3
def KT.trans(h:KT H H')(h':KT H' H''):KT H H'':=λa ws e=>h' a ws (h a ws e)
def KT.of(s:Same H H'):KT H H':=λa _ e=>s a _ e
theorem KT.upd(h:H a=some u)(n:∀ws,u≠.tup ws):KT H (upd H a v):=λc ws e=>by rw[ai (λz=>by subst z;rw[h]at e;cases e;exact n _ rfl)];exact e
section
variable{τ:Type}
structure Ln(τ:Type) where
 z:τ->Prop
 c:τ->Option (Addr×HO)
end
inductive Tag where
 |o|ta|en|fo|mi|du|ru
 |row (s:Int)
 |lf (s g:Int)
 |fl (s:Int)
 |rl (k:Int×Int)
structure SA where
 o:Addr
 ta:Addr
 en:Addr
 fo:Addr
 mi:Addr
 du:Addr
 ru:Addr
structure Fx where
 A:SA
 C:Addr
 dx:Addr
 n:Int
 rs:Sp.RS
 RA:Int×Int->Addr
 xs:Int×Int->NX
structure Vr where
 R:Int->Addr
 L:Int->Int->Addr
 F:Int->Addr
 dv:List V
 ue:HO
section
def jL(h:n<15000000):n<sizeLine:=by rw[Qf];lia
end
def qh{J:L2.It}{n:Nat}{g:TG}{tb:TS}{D:Ends}{σ:L2.St}{H:Hp}(P:Nat->L2.St->Hp->Prop)(k:P 0 σ H)(c:∀i σ H,P i σ H->i<n->J.go i H)(d:∀σ H,P n σ H->J.stop n H)
 (hb:∀i σ H x H' (D':Ends),i<n->P i σ H->J.BY i H x H'->(∀a H',P (i+1) a H'->D'.nx a H')->g x σ H' λb f=>tb D' b f) (l:∀σ H,P n σ H->D.nx σ H):∃W:Nat->Nat->L2.St->Hp->Prop,(∃m,W 0 m σ H)/\∀i m σ H,W i m σ H->
 (J.stop i H/\D.nx σ H)\/(J.go i H/\∃N:L2.St->Hp->Prop,(∀a H',N a H'->∃j,j<m/\W (i+1) j a H')/\∀x H',J.BY i H x H'->g x σ H' λb f=>tb {D with nx:=N,ct:=N,bk:=D.nx} b f):=by
 refine⟨λi m σ H=>m=n-i/\i<=n/\P i σ H,⟨n,by simp,PQ _,k⟩,?_⟩;rintro i m σ H ⟨rfl,o,p⟩;by_cases h:i<n
 .exact .inr ⟨c i σ H p h,P (i+1),λa H' q=>⟨n-(i+1),by lia,rfl,h,q⟩,λx H' y=>hb i σ H x H' _ h p y λ_ _=>id⟩
 .have e:i=n:=by lia
  subst e;exact .inl ⟨d σ H p,l σ H p⟩
end L4
namespace L4
open PySem PySem.Spec PyProof.Rows L2 L3
def aN.BV{α d:Type}{R:α->d->Prop}{xs:List α}{x:α}{c:List d}(h:aN R (xs++[x]) c):∃zs y,c=zs++[y]/\aN R xs zs/\R x y:=by
 induction xs generalizing c with
 |nil=>
  cases h with
  |cons a b=>cases b;exact⟨[],_,rfl,.nil,a⟩
 |cons w xs f=>
  cases h with
  |cons a b=>obtain⟨zs,y,e,h1,h2⟩:=f b;exact⟨_::zs,y,by rw[e];rfl,.cons a h1,h2⟩
section
variable{H:Hp}{s:Int}{la:Addr}
def Kp(la:Addr)(G H:Hp):Prop:=∀c u,G c=some u->c≠la->H c=some u
theorem Kp.of(s:Same G H):Kp la G H:=λc u e _=>s c u e
end
end L4
namespace L4
open PySem PySem.Spec PyProof.Rows L2 L3
section
variable{K:Uy}{H:Hp}{Q:VK}{E:XK}{k:Int×Int}{c p:Addr}
def hJ{a:Type}(R:Int×Int->a)(k:Int×Int)(p:a):Int×Int->a:=λu=>if u=k then p else R u
inductive nF:Sp
 |mk {c q:Addr} {x y z:V} {H:Hp} {Q:VK} {E:XK} (hc:H c=some (.tup [x,y,z,.ref q])) (k:∀p,H p=none->Q (.ref p) (upd H p (.tup [x,y]))):nF [.ref c] H Q E
def uT(h:nF vs H Q E):vs.length=1:=by cases h;rfl
def JU(K:Uy):TS:=cO (dc (au (tI K 0 0) (au (tI K 0 1) aF)))
theorem x_(h:nF vs H Q E):JU K {nx:=λ_ H'=>Q .bB H',rt:=Q} (br ["rule"] vs) H:=by obtain⟨a,k⟩:=h;exact nX (.c (.ix (.va rfl) a rfl) (.c (.ix (.va rfl) a rfl) .ni)) rfl k
end
end L4
namespace L2
open PySem PySem.Spec PySem.Calls PyProof.Rows
def MC(d:Addr)(o:Obj)(u:HO)(kvs:List (List bI×V)):It:=⟨λi H=>H d=some (.bP o u)/\i<kvs.length,λi H x H'=>H'=H/\∃b k v,kvs[i]?=some (k,v)/\x=.ref b/\H b=some (.tup (k.map kV)),λi H=>H d=some (.bP o u)/\kvs.length<=i⟩
def uU{P:Uz}{w:World}{K:Uy}{tg:Expr}{d it:Addr}(hex:o.ExactDict)(hdat:o.data=.dict en ep)(bH:en.size=kvs.length)
 (hent:∀H h,HOk P w H h->H d=some (.bP o u)->∀(i:Nat) p,kvs[i]?=some p->∃e b,en[i]?=some e/\e.key=.ref b/\H b=some (.tup (p.1.map kV))):Turn P w K tg (MC d o u kvs) [it] it (λi h=>h.IsKeyIter it d i en.size ep) where
 mem:=by simp
 obj:=λi h st b hb=>by
  have e:b=it:=by simpa using hb
  subst e;obtain⟨o,e,c,q⟩:=st;exact⟨o,e,λv z=>by rw[q]at z;cases z⟩
 keep:=λi h h' st k=>st.at λo e=>k it (by simp) o e
 item:=by
  intro X hP hw hK hc i ac s σ H E I hf st hg;subst hP hw hK;obtain⟨hd,hi⟩:=hg;obtain⟨eo,_⟩:=(show ObjOk X.prog X.w H s.heap d (.bP o u)from I.aT d _ hd);obtain⟨f0,f1,f2,f3,f4,f5⟩:=hf it (by simp);have hk:kvs[i]?=some kvs[i]:=by simp[hi]
  obtain⟨e,b,he,hb,hH⟩:=hent H s.heap I.aT hd i _ hk;refine gJ st ⟨o,eo,hex,hdat⟩ (λe' e1 h' st' sb=>?_) λz=>by rw[he]at z;cases z
  rw[he]at e1;cases e1;have I1:Inv X ac σ H {s with heap:=h'}:=I.turned (t':=s.toks) (λb o hb e=>(sb.2 b hb).trans e) f0 f1 f3 f4 f5;obtain⟨oi,e2,c,q⟩:=id st';exact⟨_,rfl,yZ (s:={s with heap:=h'}) e2 c q (by decide) ⟨.ref b,H,I1,hb,⟨rfl,b,kvs[i].1,kvs[i].2,hk,rfl,hH⟩,st',λb hb=>(hf b hb).1⟩⟩
 done:=by intro X hP hw hK hc i ac s σ H E I hf st hg;subst hP hw hK;obtain⟨hd,hi⟩:=hg;obtain⟨eo,_⟩:=(show ObjOk X.prog X.w H s.heap d (.bP o u)from I.aT d _ hd);obtain⟨f0,f1,f2,f3,f4,f5⟩:=hf it (by simp);refine gJ st ⟨o,eo,hex,hdat⟩ (λe e1=>?_) λ_=>⟨I.ok.hd hc,λh' eb=>⟨rfl,I.turned (t':=s.toks) (λb o hb e=>eb b o hb e) f0 f1 f3 f4 f5⟩⟩;rw[Tg (by lia)]at e1;cases e1
 self:=λ_ _ _ _ _ st h=>wpAny_pyIter_keyiter st h
section
variable{X:Cx}{tg:Expr}
def wq(X:Cx)(tl:TE):TI:=λσ H R=>tl σ H λx H1=>∃d kvs u,x=.ref d/\(u=.dT kvs\/(u=.dK []/\kvs=[]))/\H1 d=some u/\∀o,(∀a v,X.H₀ d≠some (.bP a v))->R (MC d o u kvs) (upd H1 d (.bP o u))
def mZ{l:Expr}(z:PE X l tl):PI X tg l (wq X tl):=by
 intro ac s σ H R I h;refine cD (z ac s σ H _ I h) λv s1 ⟨x,H1,t,J,q1⟩=>?_;obtain⟨d,kvs,u,e,A,e1,q⟩:=q1;subst e;cases J;have D:nO u:=by rcases A with rfl|⟨rfl,_⟩<;>exact True.intro
 have B:∃o,s1.heap.get? d=some o:=by
  rcases A with rfl|⟨rfl,_⟩
  .obtain⟨_,_,_,_,o,_,_,k,_⟩:=(show ObjOk X.prog X.w H1 s1.heap d (.dT kvs)from t.aT d _ e1);exact⟨o,k⟩
  .obtain⟨_,_,_,_,o,_,_,k,_⟩:=(show ObjOk X.prog X.w H1 s1.heap d (.dK [])from t.aT d _ e1);exact⟨o,k⟩
 obtain⟨o,k⟩:=B;have y:=t.bP e1 D k;have m:∀{H h},HOk X.prog X.w H h->H d=some (.bP o u)->(d==sysModules)=false/\∃(en:Array DictEntry)(ep:Nat),o.ExactDict/\o.data=.dict en ep/\en.size=kvs.length/\∀(i:Nat) p,kvs[i]?=some p->∃e b,en[i]?=some e/\e.key=.ref b/\H b=some (.tup (p.1.map kV)):=λ{H h} ok e=>by
  obtain⟨E,C⟩:=(show ObjOk X.prog X.w H h d (.bP o u)from ok d _ e);rcases A with rfl|⟨rfl,rfl⟩
  .obtain⟨_,hd,xs,c,K,en,ep,g,hex,a,n,_,_⟩:=gq ok (.inr ⟨o,e⟩);rw[E]at g;cases g;refine⟨hd,en,ep,hex,a,by rw[RQ n,Rk c],λi p F=>?_⟩;have z:i<xs.length:=by rw[<- Rk c];exact(PF.mp F).1
   have C:xs[i]?=some xs[i]:=by simp[z]
   obtain⟨_,hb,O⟩:=c.at i _ _ F C;exact⟨_,_,by rw[entry_at n,C];rfl,rfl,hb⟩
  .obtain⟨_,hd,vs,c,K,en,ep,g,hex,a,_,r,_⟩:=iB ok (.inr ⟨o,e⟩);rw[E]at g;cases g;cases c;cases G:en.toList with
   |nil=>exact⟨hd,en,ep,hex,a,by rw[<- QP,G];rfl,λi p e=>by simp at e⟩
   |cons _ _=>rw[G]at r;cases r
 obtain⟨hd,en,ep,hex,a,L,_⟩:=m y.aT ag;refine mY hd ⟨o,k,hex,a⟩ ?_;refine⟨s1.heap.objs.size,[s1.heap.objs.size],_,_,_,rfl,y.kept (t':=s1.toks) λb o e=>Pp _ e,uU hex a L (λH h ok e=>?_),⟨_,PH _ rfl,rfl,rfl⟩,λb hb=>?_,q o (t.FX e1 D)⟩
 .obtain⟨_,M,N,_,j,_,f⟩:=m ok e;rw[a]at j;cases j;exact f
 .have e:b=s1.heap.objs.size:=by simpa using hb
  subst e;exact y.tp (Pq _) (y.aT.fresh (Pq _))
end
end L2
namespace L2
open PySem PySem.Spec PySem.Calls PyProof.Rows ST
section
variable{κ μ:Type}{ent:κ×μ->Int×UA}{es:Array (Int×UA)}{its:List (κ×μ)}
def eR.own(v:eR ent es its)(un:Ci ent its):∃zs:List (κ×μ),(∀z∈zs,z∈its)/\(zs.map (·.1)).Nodup/\zs.length=es.size/\(∀x∈its,∃y∈zs,y.1=x.1)/\eR ent es zs:=by
 obtain⟨zs,d,c⟩:=mE (ent:=ent) (its:=its) es.toList v.el;have k:zs.length=es.size:=by have:=Q1 List.length d;rw[Ps,QP]at this;exact this.symm
 have nd:(zs.map (·.1)).Nodup:=by have pw:=v.pw;rw[d,Q0]at pw;unfold List.Nodup;rw[Q0];exact Rc (λ{a b} ha hb g=>g a b rfl rfl (c a ha) (c b hb)) pw
 have al:∀x∈its,∃y∈zs,y.1=x.1:=λx f=>by obtain⟨y,l,e1,e2⟩:=v.all x f;rw[d]at e2;obtain⟨z,hz,m⟩:=Pt.mp e2;exact⟨z,hz,(un z (c z hz) y l m).trans e1⟩
 refine⟨zs,c,nd,k,al,⟨λe i=>?_,by lia,v.pw.imp λ{a b} h x j e1 e2 n m2=>h x j e1 e2 (c x n) (c j m2),λx f=>⟨x,f,rfl,?_⟩⟩⟩
 .rw[d]at i;obtain⟨z,hz,e⟩:=Pt.mp i;exact⟨z,hz,e.symm⟩
 .rw[d];exact Pt.mpr ⟨x,f,rfl⟩
end
section
variable{X:Cx}
def AH(X:Cx):List V->Hp->VK->Prop:=λxs H Q=>∃l vs its,xs=[.ref l]/\Rd H l (.lst vs)/\TupsIn H vs its/\vs.length<=300/\∀p es,H p=none->eR (eT X.prog X.w) es its->Q (.ref p) (upd H p (.ext λh=>SetAt X.w h p es))
def ya(a:X.calm=true)(b:X.A.units+64<cLine):bV X (.type "set") (AH X):=xh a b
def AI(X:Cx):List V->Hp->VK->Prop:=λxs H Q=>∃p es its,xs=[.ref p]/\H p=some (.ext λh=>SetAt X.w h p es)/\eR (eT X.prog X.w) es its/\(∀x∈its,H x.2=some (.tup ((iK x.1).map kV)))/\(∀x∈its,x.1≠[])/\(∀l:List (List Int),l.Nodup->(∀k∈l,∃x∈its,x.1=k)->l.length<=63)/\
 ∀l a,H l=none->nI (λx y=>eB x y=true) its a->Q (.ref l) (upd H l (.lst (a.map λy=>.ref y.2)))
def yb(j:X.calm=true):bV X (.builtin "sorted") (AI X):=by
 intro ac s σ H xs us Q I r h;obtain⟨p,es,its,rfl,m,v,g,c,hz,q⟩:=h;have d:=λx a=>d5 I.aT (g x a);obtain⟨zs,b,nd,i,al,n⟩:=v.own (GE d);have dX:zs.length<=63:=by
  have:=hz (zs.map (·.1)) nd λk o=>by obtain⟨z,hz,rfl⟩:=Pt.mp o;exact⟨z,b z hz,rfl⟩
  rw[Ps]at this;exact this
 exact pM j (N:=63) (by decide) Dk ac s σ H _ us Q I r ⟨p,es,zs,rfl,m,n,λx a=>g x (b x a),λx a=>c x (b x a),dX,λl t i so=>q l t i ⟨λy f=>b y (so.sub y f),λx a=>by obtain⟨z,hz,e⟩:=al x a;obtain⟨y,f,e2⟩:=so.all z hz;exact⟨y,f,e2.trans e⟩,so.pw⟩⟩
end
end L2
namespace L4
open PySem PySem.Spec PyProof.Rows L2 L3 ST
abbrev aE:=Int×Int
def Cj(a b:aE):Prop:=a.1<b.1\/(a.1=b.1/\a.2<b.2)
structure ko(l z:List aE):Prop where
 m:∀x,x∈z↔x∈l
 p:z.Pairwise Cj
section
variable{X:Cx}{H:Hp}{σ:L2.St}{Q:VK}{hs:List aE}{vs:List V}{l:Addr}
def pL(x:aE):List Int:=[x.1,x.2]
def qj(h:pL x=pL y):x=y:=by unfold pL at h;injection h with a b;injection b with b _;exact TY a b
def ME(h:eB (pL x) (pL y)=true):Cj x y:=by
 unfold pL at h;unfold Cj;simp only[eB]at h
 grind
theorem DU:∀{hs:List aE}{vs:List V},aN (IsSet H) hs vs->∃its:List jo,TupsIn H vs its/\its.map (·.1)=hs.map pL:=by
 intro hs vs h;induction h with
 |nil=>exact⟨[],.nil,rfl⟩
 |@cons x v hs vs q _ a=>obtain⟨its,b,t2⟩:=a;obtain⟨p,rfl,c⟩:=q;exact⟨(pL x,p)::its,.cons ⟨rfl,c⟩ b,by rw[PU,PU,t2]⟩
def JV(h:Reads ta σ H (.ref l))(C:Rd H l (.lst vs))(a:aN (IsSet H) hs vs)(hz:hs.length<=300)(dX:∀m:List aE,m.Nodup->(∀x∈m,x∈hs)->m.length<=63)
 (k:∀i ms ws H',Same H H'->H i=none->H' i=some (.lst ws)->aN (IsSet H') ms ws->ko hs ms->Q (.ref i) H'):fQ (AI X) (au (fQ (AH X) (au ta aF)) aF) σ H Q:=by
 obtain⟨its,B,t2⟩:=DU a;have r:=xD B;have mem:∀x∈its,∃y∈hs,x.1=pL y:=λx d=>by
  have:x.1∈hs.map pL:=by rw[<- t2];exact Pt.mpr ⟨x,d,rfl⟩
  obtain⟨y,g,e⟩:=Pt.mp this;exact⟨y,g,e.symm⟩
 refine h _ ⟨l,vs,its,rfl,C,B,by rw[<- a.len];exact hz,λb es hb v=>?_⟩;have s1:=aw (o:=.ext λh=>SetAt X.w h b es) hb;refine⟨b,es,its,rfl,ag,v,λx d=>s1 _ _ (r x d),λx d z=>?_,λm nd hm=>?_,λi f j so=>?_⟩
 .obtain⟨y,_,e⟩:=mem x d;rw[z]at e;cases e
 .have:∀k∈m,∃y:aE,y∈hs/\pL y=k:=λk s=>by obtain⟨x,d,e⟩:=hm k s;obtain⟨y,g,e2⟩:=mem x d;exact⟨y,g,e2.symm.trans e⟩
  have t:∀m:List (List Int),(∀k∈m,∃y:aE,y∈hs/\pL y=k)->∃n:List aE,n.map pL=m/\∀y∈n,y∈hs:=λm=>by
   induction m with
   |nil=>exact λ_=>⟨[],rfl,λ_ h=>nomatch h⟩
   |cons c m u=>intro h;obtain⟨y,g,e⟩:=h c Pu;obtain⟨n,e2,A⟩:=u λk s=>h k (Pw _ s);exact⟨y::n,by rw[PU,e,e2],λz hz=>(PB.mp hz).elim (λe=>e▸g) (A z)⟩
  obtain⟨n,e,A⟩:=t m this;subst e;rw[Ps];exact dX n (List.Pairwise.of_map pL (λ_ _ h e=>h (by rw[e])) nd) A
 .have s2:=s1.trans (aw (o:=.lst (f.map λy=>.ref y.2)) j);have D:H i=none:=s1.free j;have p:∀y∈f,y∈its:=so.sub;have ex:∃ms:List aE,ms.map pL=f.map (·.1)/\aN (IsSet (upd (upd H b (.ext λh=>SetAt X.w h b es)) i (.lst (f.map λy=>.ref y.2)))) ms (f.map λy=>.ref y.2):=by
   generalize upd (upd H b (.ext λh=>SetAt X.w h b es)) i (.lst (f.map λy=>.ref y.2))=G at s2;clear so j;induction f with
   |nil=>exact⟨[],rfl,.nil⟩
   |cons y f u=>obtain⟨ms,e1,e2⟩:=u λz hz=>p z (Pw _ hz);obtain⟨z,_,q⟩:=mem y (p y Pu);refine⟨z::ms,by rw[PU,PU,e1,q],.cons ⟨y.2,rfl,?_⟩ e2⟩;have:=s2 _ _ (r y (p y Pu));rw[q]at this;exact this
  obtain⟨ms,e1,e2⟩:=ex;refine k i ms _ _ s2 D ag e2 ⟨λx=>⟨λd=>?_,λd=>?_⟩,?_⟩
  .have:pL x∈f.map (·.1):=by rw[<- e1];exact Pt.mpr ⟨x,d,rfl⟩
   obtain⟨y,g,e⟩:=Pt.mp this;obtain⟨z,hz,q⟩:=mem y (so.sub y g);rw[qj (e.symm.trans q)];exact hz
  .have:pL x∈its.map (·.1):=by rw[t2];exact Pt.mpr ⟨x,d,rfl⟩
   obtain⟨z,hz,e⟩:=Pt.mp this;obtain⟨y,g,q⟩:=so.all z hz;have:pL x∈ms.map pL:=by rw[e1];exact Pt.mpr ⟨y,g,q.trans e⟩
   obtain⟨w,E,F⟩:=Pt.mp this;rw[<- qj F];exact E
  .have:=so.pw;have pw:(f.map (·.1)).Pairwise λx y=>eB x y=true:=Q0.mpr this;rw[<- e1]at pw;exact(Q0.mp pw).imp ME
end
end L4
namespace L4
open PySem PySem.Spec PyProof.Rows L2 L3
def cC{a:Type}{R:aE->a}{k:aE}{p:a}:hJ R k p k=p:=PN rfl
def cz{a:Type}{R:aE->a}{k u:aE}{p:a}(h:u≠k):hJ R k p u=R u:=PK h
def hV(ks:List aE)(k:aE):List aE:=if k∈ks then ks else ks++[k]
structure Gr{α:Type} (R:Hp->α->V->Prop) (B H:Hp) (a:Addr) (ks:List aE) (F:aE->List α) (RA:aE->Addr):Prop where
 s:Same B H
 r:H a=some (.dT (ks.map λk=>(k2 k,.ref (RA k))))
 na:B a=none
 v:∀k∈ks,B (RA k)=none/\∃vs,H (RA k)=some (.lst vs)/\aN (R H) (F k) vs
 i:∀k∈ks,∀k'∈ks,RA k=RA k'->k=k'
 z:∀k,k∉ks->F k=[]
def k_{α:Type}(R:Hp->α->V->Prop):Prop:=∀{H H':Hp},KT H H'->∀x v,R H x v->R H' x v
def AJ(_:Hp)(x:Int)(v:V):Prop:=v=.int x
def j1:k_ AJ:=λ_ _ _ h=>h
def bj:k_ IsSet:=λk _ _ ⟨p,e,h⟩=>⟨p,e,k _ _ h⟩
section
variable{α:Type}{R:Hp->α->V->Prop}{X:Cx}{K:Uy}{B H H':Hp}{a q p:Addr}{ks:List aE}{F:aE->List α}{RA:aE->Addr}{D:Ends}{σ:L2.St}{k:aE}{vs ws:List V}{zs:List α}{Q:VK}{E:XK}
def gf:cZ (ks.map λk=>(k2 k,V.ref (RA k))) (k2 k)=if k∈ks then some (.ref (RA k))else none:=by
 induction ks with
 |nil=>rfl
 |cons x r b=>
  rw[PU];by_cases h:x=k
  .rw[fC (by rw[h]),PN (by rw[h];exact Pu),h]
  .rw[fD λz=>h (iO _ _ z),b];simp[QQ h]
theorem Gr.keep(h:Gr R B H a ks F RA)(d:k_ R)(k:Kp c H H')(kt:KT H H')(n:B c=none)(na:a≠c)(nl:∀b,H c≠some (.lst b)):Gr R B H' a ks F RA:=⟨(λb u e=>k _ _ (h.s _ _ e) λz=>by rw[z,n]at e;cases e),k _ _ h.r na,h.na,λf b=>let ⟨h1,vs,h2,h3⟩:=h.v f b;⟨h1,vs,k _ _ h2 (λz=>nl _ (z▸h2)),h3.mono (d kt)⟩,h.i,h.z⟩
theorem Gr.more(h:Gr R B H a ks F RA)(c:k_ R)(s:Same H H'):Gr R B H' a ks F RA:=⟨h.s.trans s,s _ _ h.r,h.na,λd b=>let ⟨h1,vs,h2,h3⟩:=h.v d b;⟨h1,vs,s _ _ h2,h3.mono (c (.of s))⟩,h.i,h.z⟩
theorem aN.app{b c:Type}{R:b->c->Prop}{xs us:List b}{d zs:List c}(h:aN R xs d)(g:aN R us zs):aN R (xs++us) (d++zs):=by
 induction h with
 |nil=>exact g
 |cons a _ e=>exact .cons a e
def Gr.ext(h:Gr R B H a ks F RA)(m:k_ R)(f:k∈ks)(d:H (RA k)=some (.lst vs))(o:aN (R H) zs ws):Gr R B (upd H (RA k) (.lst (vs++ws))) a ks (hJ F k (F k++zs)) RA:=by
 obtain⟨n,t,e,al⟩:=h.v k f;rw[d]at e;cases e;have kt:KT H (upd H (RA k) (.lst (vs++ws))):=.upd d λ_ z=>(nomatch z);refine⟨λb u e=>?_,?_,h.na,λj c=>?_,h.i,λj c=>?_⟩
 .rw[ai λz=>by rw[z,n]at e;cases e];exact h.s _ _ e
 .rw[ai λz=>by rw[<- z,h.r]at d;cases d];exact h.r
 .obtain⟨w,us,e,g⟩:=h.v j c;refine⟨w,?_⟩;by_cases l:j=k
  .rw[l,cC];exact⟨_,ag,(al.app o).mono (m kt)⟩
  .rw[cz l];exact⟨us,by rw[ai λz=>l (h.i j c k f z)];exact e,g.mono (m kt)⟩
 .rw[cz λz:j=k=>c (z▸f)];exact h.z j c
def Gr.new(h:Gr R B H a ks F RA)(w:k_ R)(t:k∉ks)(f:H q=none):Gr R B (upd (upd H q (.lst [])) a (.dT ((ks.map λk=>(k2 k,V.ref (RA k)))++[(k2 k,.ref q)]))) a (ks++[k]) F (hJ RA k q):=by
 have m:a≠q:=ax h.r f;have s1:Same H (upd H q (.lst [])):=aw f;have kt:KT H (upd (upd H q (.lst [])) a (.dT ((ks.map λk=>(k2 k,V.ref (RA k)))++[(k2 k,.ref q)]))):=(KT.of s1).trans (.upd (s1 _ _ h.r) λ_ z=>(nomatch z));have c:∀j∈ks,j≠k:=λj hj z=>t (z▸hj);have d:∀j∈ks,RA j≠q:=λj hj z=>by obtain⟨_,_,e,_⟩:=h.v j hj;rw[z,f]at e;cases e
 refine⟨λb u e=>?_,?_,h.na,λj hj=>?_,λj hj l n e=>?_,λj hj=>h.z j λz=>hj (Qd _ z)⟩
 .rw[ai λz=>by rw[z,h.na]at e;cases e];exact s1 _ _ (h.s _ _ e)
 .rw[ag,Qo];congr 3
  .exact QL λj hj=>by rw[cz (c j hj)]
  .show _=[(k2 k,V.ref (hJ RA k q k))];rw[cC]
 .rcases PP.mp hj with hj|hj
  .rw[cz (c j hj)];obtain⟨x,us,e,o⟩:=h.v j hj;exact⟨x,us,by rw[ai λz=>by rw[z,h.r]at e;cases e];exact s1 _ _ e,o.mono (w kt)⟩
  .rw[Py]at hj;subst hj;rw[cC,h.z _ t];exact⟨h.s.free f,[],by rw[ai (QQ m),ag],.nil⟩
 .rcases PP.mp hj with g|g<;>rcases PP.mp n with g'|g'
  .rw[cz (c j g),cz (c l g')]at e;exact h.i j g l g' e
  .rw[Py.mp g',cz (c j g),cC]at e;exact(d j g e).elim
  .rw[Py.mp g,cz (c l g'),cC]at e;exact(d l g' e.symm).elim
  .rw[Py.mp g,Py.mp g']
def JW(K:Uy)(i:Nat)(tk:TE):TE:=qZ K "dict" uy (ao i) (au tk (au (eJ aF) aF))
theorem FA(h:Gr R B H a ks F RA)(l:k_ R)(hz:ks.length<15000000)(o:σ[i]?=some (some (.ref a)))(s:Makes tk σ H [.int k.1,.int k.2])
 (d:∀H' f,Kp a H H'->KT H H'->Gr R B H' a (hV ks k) F f->k∈hV ks k->Q (.ref (f k)) H'):JW K i tk σ H Q:=by
 refine⟨_,o,.inr (.inr (.inl ⟨rfl,.inr ⟨_,h.r⟩⟩)),s _ λb hb=>⟨PQ _,λq m=>?_⟩⟩;have s1:Same H (upd H b (.tup [.int k.1,.int k.2])):=aw hb;have g:=h.more l s1;have j:upd H b (.tup [.int k.1,.int k.2]) b=some (.tup ((k2 k).map kV)):=ag;generalize upd H b (.tup [.int k.1,.int k.2])=H1 at s1 g j m;have s2:Same H1 (upd H1 q (.lst [])):=aw m;refine⟨a,b,k2 k,.ref q,_,rfl,rfl,s2 _ _ j,.inl (s2 _ _ g.r),jL (by rw[Ps];exact hz),?_⟩;rw[gf];unfold hV at d;by_cases e:k∈ks
 .rw[PN e]at d ⊢;exact .inl ⟨_,rfl,d _ _ (.of (s1.trans s2)) (.of (s1.trans s2)) (g.more l s2) e⟩
 .rw[PK e]at d ⊢;refine .inr ⟨rfl,?_⟩;rw[dH _ (by rw[gf,PK e])];have:=d _ _ (λc u e n=>by rw[ai n];exact s2 _ _ (s1 _ _ e)) ((KT.of (s1.trans s2)).trans (.upd (s2 _ _ g.r) λ_ z=>(nomatch z))) (g.new l e m) (Qs _ Pu);rw[cC]at this;exact this
def JX(K:Uy)(i m:Nat)(tk:TE):TS:=cj (qZ K "list" dG (JW K i tk) (au (ao m) aF))
theorem Hh(h:Gr R B H a ks F RA)(g:k_ R)(hz:ks.length<15000000)(l:(F k).length<15000000)(o:σ[i]?=some (some (.ref a)))(hm:σ[m]?=some (some v))(r:∀H',KT H H'->R H' z v)(s:Makes tk σ H [.int k.1,.int k.2])
 (t:∀H' d,(∀c u,H c=some u->c≠a->(∀b,u≠.lst b)->H' c=some u)->Gr R B H' a (hV ks k) (hJ F k (F k++[z])) d->D.nx σ H'):JX K i m tk D σ H:=by
 refine FA h g hz o s λH1 d kp kt j f=>?_;obtain⟨n1,vs,e1,al⟩:=j.v k f;exact⟨.inl ⟨rfl,_,SqL.of e1⟩,_,hm,_,_,_,rfl,rfl,e1,jL (by rw[<- al.len];exact l),t _ d (λc u e n nl=>by rw[ai (λz=>by rw[<- z,kp _ _ e n]at e1;cases e1;exact nl _ rfl)];exact kp _ _ e n) (j.ext g f e1 (.cons (r _ kt) .nil))⟩
def MF(K:Uy)(i:Nat)(tk b:TE):TS:=cj (qZ K "list" jO (JW K i tk) (au b aF))
theorem qk(h:Gr R B H a ks F RA)(b:H q=none)(k:aE):∃p vs,(cZ (ks.map λk=>(k2 k,V.ref (RA k))) (k2 k)).getD (.ref q)=.ref p/\upd H q (.lst []) p=some (.lst vs)/\aN (R H) (F k) vs:=by
 rw[gf];by_cases e:k∈ks
 .rw[PN e];obtain⟨_,vs,e1,al⟩:=h.v k e;exact⟨_,vs,rfl,aw b _ _ e1,al⟩
 .rw[PK e,h.z k e];exact⟨q,[],rfl,ag,.nil⟩
theorem isI:∀{l:List Int}{vs:List V},aN (AJ H) l vs->vs=l.map .int:=by
 intro l vs h;induction h with
 |nil=>rfl
 |cons e _ b=>rw[PU,<- b,e]
def bK(F:aE->List Int)(r:Sp.Rule):List aE:=match r.2.2.2 with
 |[]=>[]
 |c::w=>match w with
  |[]=>[(r.2.2.1,c)]
  |d::_=>(r.2.2.1,c)::(F (r.2.2.1,c)).map λo=>(o,d)
theorem FC{cap:L2.St}{H1:Hp}{l:Addr}{ks:List Int}{te:TE}{ws:Int->List V}{Fin:Addr->List V->Hp->Prop}(h1:tN.length=1)(t:jz σ caps=cap)(P:∀cl C s G fp,PG (aV X scope (tN++capN) cl C s G fp) tg (aA 0))(S:∀cl C s G fp,PE (aV X scope (tN++capN) cl C s G fp) elt te)
 (I:∀x H',Same H1 H'->Makes te (some (.int x)::cap) H' (ws x)) (T:Rd H1 l (.lst (ks.map .int))) (hz:ks.length<15000000) (k:∀n vs H',H1 n=none->Same H1 H'->H' n=some (.lst vs)->aN (λx v=>∃p,v=.ref p/\H' p=some (.tup (ws x))) ks vs->Fin n vs H'):cw X scope tg tN capN caps elt [] σ Fin (y8 X.K l) H1:=by
 intro n J cl C s fp;refine⟨_,_,_,λi m b H'=>m=ks.length-i/\i<=ks.length/\aN (λx v=>∃p,v=.ref p/\H' p=some (.tup (ws x))) (ks.take i) b/\Same H1 H'/\H' n=some (.lst b),P cl C s _ fp,fU,S cl C s _ fp,⟨ks.length,by simp,PQ _,.nil,aw J,ag⟩,?_⟩;rintro i m b H' ⟨rfl,W,w,A,d⟩;have r:SqL X.K H' l (ks.map .int):=.inl (ba A T);refine⟨d,?_⟩;by_cases f:i<ks.length
 .right;refine⟨⟨_,.int ks[i],r,by simp[f]⟩,λY g o y L=>?_⟩;obtain⟨rfl,y⟩:=y;have M:=y _ r;rw[PR,Px f]at M;cases M;rw[h1]at L;obtain⟨Z,rfl⟩:=RC.mp L;rw[t];refine⟨λj N=>?_,hI (I _ _ A _ λp O=>?_)⟩
  .rw[h1]at N;obtain⟨j,rfl⟩:=QJ N;rfl
  .have np:n≠p:=ax d O;have s2:Same g (upd g p (.tup (ws ks[i]))):=aw O;have k3:KT g (upd (upd g p (.tup (ws ks[i]))) n (.lst (b++[.ref p]))):=(KT.of s2).trans (.upd (s2 _ _ d) λ_ z=>(nomatch z));refine⟨s2 _ _ d,jL ?_,ks.length-(i+1),by lia,rfl,f,?_,λc u e=>?_,ag⟩
   .rw[<- w.len,QN];lia
   .rw[P0,Px f];exact(w.mono λx v ⟨p,e,h⟩=>⟨p,e,k3 _ _ h⟩).snoc ⟨p,rfl,by rw[ai (QQ np),ag]⟩
   .rw[ai (ax e J)];exact s2 _ _ (A _ _ e)
 .left;have U:i=ks.length:=by lia
  subst U;rw[Qk]at w;exact⟨⟨_,r,by simp⟩,k n b H' J A d w⟩
inductive BR:Sp
 |mk {B H:Hp} {r:Sp.Rule} {c a:Addr} {ks:List aE} {F:aE->List Int} {RA:aE->Addr} {Q:VK} {E:XK} (hr:IsRule H r (.ref c)) (O:Gr AJ B H a ks F RA) (hz:∀k,(F k).length<1000000) (k:∀l vs H',Same H H'->H l=none->H' l=some (.lst vs)->aN (IsSet H') (bK F r) vs->Q (.ref l) H'):BR [.ref c,.ref a] H Q E
def AK(h:BR vs H Q E):vs.length=2:=by cases h;rfl
def JY(K:Uy):TE:=dc (au (ao 0) (au (tI K 1 1) aF))
def JZ(X:Cx)(scope:Scope)(tg b:Expr)(tN capN:List Str)(caps:List Nat):TE:=iH X scope tg tN capN caps b [] (ce X.K (dI (ao 1) (ao 3) (eJ aF)))
def MG(X:Cx)(b:TE):TS:=cO (bv Gp (eJ (au (ao 3) aF)) b)
def MH(X:Cx)(b:TE):TS:=aJ (dD (bQ (bv tQ (fQ (fX X.K) (au (ao 2) aF)) (tC (.int 1)))) (cO (eJ (au (ao 3) aF))) cb) (MG X b)
def MI(X:Cx)(b:TE):TS:=aJ (dD (bQ (bv tQ (fQ (fX X.K) (au (ao 2) aF)) (tC (.int 0)))) (cO (eJ aF)) cb) (aJ (aZ (dc (au (tI X.K 0 2) (au (tI X.K 2 0) aF))) (aA 3)) (MH X b))
def Om(X:Cx)(scope:Scope)(tg b:Expr)(tN capN:List Str)(caps:List Nat):TS:=aJ (aZ (tI X.K 0 3) (aA 2)) (MI X (JZ X scope tg b tN capN caps))
theorem DV{scope:Scope}{tg A:Expr}{tN capN:List Str}{caps:List Nat}{vs:List V}{Q:VK}{E:XK}(h1:tN.length=1)(U:caps=[2])(W:∀cl C f J fp,PG (aV X scope (tN++capN) cl C f J fp) tg (aA 0))(Y:∀cl C f J fp,PE (aV X scope (tN++capN) cl C f J fp) A (JY X.K))(h:BR vs H Q E) :
 Om X scope tg A tN capN caps {nx:=λ_ H'=>Q .bB H',rt:=Q} (br ["rule","behind","put","first"] vs) H:=by
 obtain @⟨B,H,r,c,a,ks,F,RA,Q,E,⟨_,q,ec,hr,hq⟩,O,hz,k⟩:=h;cases ec;obtain⟨r0,r1,m,w⟩:=r;dsimp only at hr hq;have d:(((w.map V.int).length:Nat):Int)=w.length:=by simp
 refine Reads.ix (.va (i:=0) rfl) hr (v:=.ref q) rfl _ ?_;refine gw (.Cb (.len (.va rfl) hq) .k) (λh=>?_) λh=>?_
 .have Z:w=[]:=by have:=Qa h;rw[d]at this;exact Qw.mp (by lia)
  subst Z;exact⟨PQ _,λl d=>k l [] _ (aw d) d ag .nil⟩
 .have n0:¬w.length=0:=λz=>h (P3 (by rw[d,z];rfl));obtain⟨x,w,rfl⟩ : ∃x u,w=x::u:=by
   cases w with
   |nil=>exact(n0 rfl).elim
   |cons x u=>exact⟨x,u,rfl⟩
  delta cb aJ aZ
  dsimp only;refine nX (ws:=[.int m,.int x]) (.c (.ix (.va rfl) hr rfl) (.c (.ix (.va rfl) hq (cV (j:=0) rfl)) .ni)) rfl λb hb=>?_;have s1:Same H (upd H b (.tup [.int m,.int x])):=aw hb;have g:upd H b (.tup [.int m,.int x]) b=some (.tup [.int m,.int x]):=ag;have P:=O.more j1 s1;generalize upd H b (.tup [.int m,.int x])=H1 at s1 g P;refine gw (.Cb (.len (.va rfl) (s1 _ _ hq)) .k) (λh=>?_) λh=>?_
  .have e1:w=[]:=by have:=Qa h;rw[d]at this;exact Qw.mp (by simp at this;lia)
   subst e1;refine⟨_,rfl,Re (jL (by show 1<15000000;decide)),λl d=>?_⟩;have s2:=aw (o:=.lst [.ref b]) d;exact k l _ _ (s1.trans s2) (s1.free d) ag (.cons ⟨b,rfl,s2 _ _ g⟩ .nil)
  .have n1:¬w.length=0:=λz=>h (P3 (by rw[d,P8,z];rfl));obtain⟨y,w,rfl⟩ : ∃x u,w=x::u:=by
    cases w with
    |nil=>exact(n1 rfl).elim
    |cons x u=>exact⟨x,u,rfl⟩
   refine⟨_,rfl,Re (jL (by show 1<15000000;decide)),λl0 L=>?_⟩;have s2:=aw (o:=.lst [.ref b]) L;have h0:upd H1 l0 (.lst [.ref b]) l0=some (.lst [.ref b]):=ag;have I:=P.more j1 s2;generalize upd H1 l0 (.lst [.ref b])=H2 at s2 h0 I
   delta JZ iH ce dI
   dsimp only;refine⟨_,rfl,a,rfl,.inr ⟨_,.inl I.r⟩,_,rfl,PQ _,λq2 G=>?_⟩;have f:=aw (o:=.lst []) G;refine⟨_,DGet.t (k:=k2 (m,x)) (f _ _ I.r) (f _ _ (s2 _ _ g)),?_⟩;obtain⟨p,ov,e1,e2,e3⟩:=qk I G (m,x);rw[isI e3]at e2;have hz:=hz (m,x);rw[e1];have n:=(s1.trans s2).trans f;refine⟨p,rfl,⟨_,SqL.of e2⟩,FC (te:=JY X.K) (ws:=λu=>[.int u,.int y]) (cap:=[some (.ref q)]) (caps:=caps) h1 (by rw[U];rfl) W Y (λu S s=>.t (.c (.va rfl) (.c (.ix (.va rfl) (s _ _ (n _ _ hq)) (cV (j:=1) rfl)) .ni)) rfl) (.inl e2) (by lia) λDl vs S hD s M al=>?_⟩;refine⟨l0,Dl,_,_,rfl,rfl,s _ _ (f _ _ h0),M,Re (jL (by rw[<- al.len];simp;lia)),λl d=>?_⟩;have N:=aw (o:=.lst ([.ref b]++vs)) d;have sa:=(n.trans s).trans N;refine k l _ _ sa ((n.trans s).free d) ag (.cons ⟨b,rfl,N _ _ (s _ _ (f _ _ (s2 _ _ g)))⟩ ?_);have:=al.E4 (T:=IsSet (upd S l (.lst ([.ref b]++vs)))) (λu=>(u,y)) id λu v ⟨p,e,hp⟩=>⟨p,e,N _ _ hp⟩;rw[List.map_id]at this;exact this
end
section
variable{H H':Hp}{a q p d:Addr}{As:List Sp.Arr}{kvs:List (List bI×V)}{Q:VK}
theorem uV(h:Is H' (nl H H') (.qM (As.map λa=>.inr (ak a)) ds) v):∃d kvs u,v=.ref d/\H d=none/\H' d=some u/\(u=.dT kvs\/(u=.dK []/\kvs=[]))/\kvs.map (·.1)=As.map ak:=by
 obtain⟨d,vs,rfl,⟨f,c,g⟩,all⟩:=h;have b:∀o u,H' d≠some (.bP o u):=λo u z=>by obtain⟨m,q,i⟩:=g;rw[z]at q;cases q;exact i
 rcases f with⟨kvs,e|⟨o,e⟩,h1,h2⟩|⟨kvs,e|⟨o,e⟩,h1,h2⟩
 .have j:As=[]:=by
   cases As with
   |nil=>rfl
   |cons x l=>cases kvs with
    |nil=>cases h1
    |cons y kvs=>rw[PU,PU]at h1;injection h1 with h1;cases h1
  subst j;have:kvs=[]:=by cases kvs with
   |nil=>rfl
   |cons _ _=>cases h1
  subst this;exact⟨d,[],_,rfl,c,e,.inr ⟨rfl,rfl⟩,rfl⟩
 .exact(b _ _ e).elim
 .refine⟨d,kvs,_,rfl,c,e,.inl rfl,?_⟩;have:=Q1 (List.map λk:DK=>match k with|.inr a=>a|.inl _=>[]) h1;rw[QC,QC]at this;exact this.symm
 .exact(b _ _ e).elim
def bc(As:List Sp.Arr)(k:aE):List Int:=(As.filter λt=>decide ((t.1,t.2.1)=k)).map (·.2.2)
theorem sA(As:List Sp.Arr)(t:Sp.Arr):bc (As++[t])=hJ (bc As) (t.1,t.2.1) (bc As (t.1,t.2.1)++[t.2.2]):=by
 funext k;unfold bc hJ;by_cases h:k=(t.1,t.2.1)
 .rw[PN h,h,QK];simp
 .rw[PK h,QK];simp[QQ h]
theorem jE(As:List Sp.Arr)(k:aE):(bc As k).length<=As.length:=by unfold bc;rw[Ps];exact Rv ..
def m5(ks:List aE)(k:aE):(hV ks k).length<=ks.length+1:=by unfold hV;split<;>simp
def J0(c:Sp)(H:Hp)(v0:V)(As:List Sp.Arr):Prop:=∀H1,Same H H1->∀Q:VK,(∀d kvs u b,Same H1 b->H1 d=none->b d=some u->(u=.dT kvs\/(u=.dK []/\kvs=[]))->kvs.map (·.1)=As.map ak->Q (.ref d) b)->c [v0] H1 Q E0
inductive yw(sP:Sp):Sp
 |mk {H:Hp} {v0:V} {As:List Sp.Arr} {Q:VK} {E:XK} (hP:J0 sP H v0 As) (hz:As.length<1000000) (k:∀a ks RA H',Gr AJ H H' a ks (bc As) RA->Q (.ref a) H'):yw sP [v0] H Q E
def AL(h:yw sP vs H Q E):vs.length=1:=by cases h;rfl
def MJ(i j:Nat):TE:=dc (au (ao i) (au (ao j) aF))
def On(X:Cx)(b:Sp):TS:=aJ (aZ eL (aA 1)) (aJ (λD σ H=>d4 (wq X (bO b [] E0 (au (ao 0) aF))) (dZ X.K 3 (aW (aA 2) (aW (aA 3) (aW (aA 4) dY)))) (JX X.K 1 4 (MJ 2 3)) (Gu X D) σ H) (cO (ao 1)))
theorem DW(h:yw sP vs H Q E):On X sP {nx:=λ_ H'=>Q .bB H',rt:=Q} (br ["house","behind","room","sign","other"] vs) H:=by
 obtain @⟨H,v0,As,Q,E,hP,hz,k⟩:=h;intro a ha;have s1:Same H (upd H a (.dT [])):=aw ha;have I:Gr AJ H (upd H a (.dT [])) a [] (bc []) (λ_=>0):=⟨s1,ag,ha,λk h=>(nomatch h),λk h=>(nomatch h),λk h=>rfl⟩;refine⟨_,rfl,hP _ s1 _ λd kvs u v s2 n2 e2 A B=>?_⟩;have g:a≠d:=λz=>by rw[<- z,ag]at n2;cases n2
 have nd:H d=none:=s1.free n2;have m:nO u:=by rcases A with rfl|⟨rfl,_⟩<;>exact True.intro
 have r:∀b,v d≠some (.lst b):=λb z=>by rw[e2]at z;cases z;exact m
 refine⟨d,kvs,u,rfl,A,e2,λo J=>?_⟩;have K:Gr AJ H (upd v d (.bP o u)) a [] (bc []) (λ_=>0):=(I.more j1 s2).keep j1 (λc w e n=>by rw[ai n];exact e) (.upd e2 λws z=>by subst z;exact m) nd g r;refine qh (n:=kvs.length) (λi f H'=>(∃x y z,f=[some v0,some (.ref a),x,y,z])/\H' d=some (.bP o u)/\∃ks RA,ks.length<=i/\Gr AJ H H' a ks (bc (As.take i)) RA) ⟨⟨none,none,none,rfl⟩,ag,[],_,Pq _,K⟩ (λi f H' p C=>⟨p.2.1,C⟩) (λf H' p=>⟨p.2.1,Pq _⟩) (λi f H' x L D' C p y M=>?_) λf H' p=>?_
 .obtain⟨⟨N,x3,x4,rfl⟩,j,ks,RA,R,G⟩:=p;obtain⟨rfl,b,O,S,e1,rfl,hb⟩:=y;have D:(As.map ak)[i]?=some O:=by rw[<- B,PR,e1];rfl
  rw[PR]at D;obtain⟨ar,l,rfl⟩:=QV.mp D;have P:=(PF.mp l).1;rw[Mh]at hb;refine NS hb (Hh (k:=(ar.1,ar.2.1)) (z:=ar.2.2) G j1 (by lia) (by have:=jE (As.take i) (ar.1,ar.2.1);rw[QN]at this;lia) rfl rfl (λ_ _=>rfl) (.t (.c (.va rfl) (.c (.va rfl) .ni)) rfl) λT s fr F=>M _ _ ⟨⟨_,_,_,rfl⟩,fr _ _ j (QQ g) (λb z=>(nomatch z)),hV ks (ar.1,ar.2.1),s,?_,?_⟩)
  .have:=m5 ks (ar.1,ar.2.1);lia
  .rw[P0,l];rw[<- sA]at F;exact F
 .obtain⟨⟨N,x3,x4,rfl⟩,j,ks,RA,_,G⟩:=p;have el:kvs.length=As.length:=by have:=Q1 List.length B;simpa using this
  rw[el,Qk]at G;exact .inr ⟨d,o,u,j,m,J,_,rfl,k a ks RA _ (G.keep j1 (c:=d) (λc w e n=>by rw[ai n];exact e) (.upd j λws z=>(nomatch z)) nd g λb z=>by rw[j]at z;cases z)⟩
end
def hd(r:Sp.Rule):aE:=(r.1,r.2.1)
def de(f:Sp.Rule->List aE)(RL:List Sp.Rule)(k:aE):List aE:=(RL.filter λr=>decide (hd r=k)).flatMap f
def b5(RL:List Sp.Rule):List aE:=RL.foldl (λks r=>hV ks (hd r)) []
def uW(f:Sp.Rule->List aE)(RL:List Sp.Rule)(r:Sp.Rule):de f (RL++[r])=hJ (de f RL) (hd r) (de f RL (hd r)++f r):=by
 funext k;unfold de hJ;by_cases h:k=hd r
 .rw[PN h,h,QK,RU];simp
 .rw[PK h,QK];simp[QQ h]
def DY(h:ks.Nodup):(hV ks k).Nodup:=by
 unfold hV;split
 .exact h
 .rename_i n;rw[Qj];exact⟨h,by simp,λa ha b hb e=>by rw[Py]at hb;exact n (hb▸e▸ha)⟩
def AM:x∈hV ks k↔x∈ks\/x=k:=by
 unfold hV;split
 .exact⟨.inl,λh=>h.elim id λe=>e▸‹_›⟩
 .simp
def j3(RL:List Sp.Rule)(r:Sp.Rule):b5 (RL++[r])=hV (b5 RL) (hd r):=by unfold b5;rw[RF];rfl
def m6(RL:List Sp.Rule):(b5 RL).Nodup/\(b5 RL).length<=RL.length/\∀x,x∈b5 RL↔∃r∈RL,hd r=x:=by
 have d:∀(n:Nat)(RL:List Sp.Rule),RL.length=n->(b5 RL).Nodup/\(b5 RL).length<=RL.length/\∀x,x∈b5 RL↔∃r∈RL,hd r=x:=λn=>by
  induction n with
  |zero=>intro RL h;cases Qw.mp h;exact⟨.nil,Pq _,λx=>⟨λh=>(nomatch h),λ⟨_,h,_⟩=>(nomatch h)⟩⟩
  |succ n f=>
   intro RL h;obtain⟨L,r,rfl⟩ : ∃L r,RL=L++[r]:=⟨RL.dropLast,RL.getLast (by intro z;subst z;cases h),(Sr _).symm⟩;rw[PJ,QM]at h;obtain⟨a,b,c⟩:=f L (by lia);rw[j3];refine⟨DY a,Qb (m5 ..) (by simp;lia),λx=>?_⟩;rw[AM,c];constructor
   .rintro (⟨r,g,e⟩|e)
    .exact⟨r,Qd _ g,e⟩
    .exact⟨r,by simp,e.symm⟩
   .rintro⟨q,hq,e⟩;rcases PP.mp hq with hq|hq
    .exact .inl ⟨q,hq,e⟩
    .rw[Py]at hq;exact .inr (by rw[<- e,hq])
 exact d _ RL rfl
section
variable{X:Cx}{K:Uy}{B B0 H H':Hp}{a a2 q p d c:Addr}{ks ks2:List aE}{F:aE->List Int}{G:aE->List aE}{RA RA2 LA:aE->Addr}{σ:L2.St}{Q:VK}{E:XK}{D:Ends}{r:Sp.Rule}
def J1(K:Uy):TS:=MF K 2 (bO nF [] E0 (au (ao 3) aF)) (bO BR [] E0 (au (ao 3) (au (ao 1) aF)))
theorem Oo(g:Gr IsSet B H a2 ks2 G RA2)(O:Gr AJ B0 B a ks F RA)(j:IsRule B r (.ref c))(m:∀k,(F k).length<1000)(h1:ks2.length<1000)(h2:(G (hd r)).length<1000000)(hs:σ=[x0,some (.ref a),some (.ref a2),some (.ref c)])
 (k:∀H' b,Gr IsSet B H' a2 (hV ks2 (hd r)) (hJ G (hd r) (G (hd r)++bK F r)) b->D.nx σ H'):J1 K D σ H:=by
 subst hs;refine FA (k:=hd r) g bj (by lia) rfl (λo q=>?_) λH1 b kp kt h f=>?_
 .obtain⟨_,u,e,n,_⟩:=IsRule.keep (.of g.s) _ _ j;cases e;exact⟨_,rfl,.mk n q⟩
 .obtain⟨n1,vs,e1,al⟩:=h.v _ f;refine⟨.inl ⟨rfl,_,SqL.of e1⟩,_,rfl,_,rfl,.mk (IsRule.keep (.of h.s) _ _ j) (O.more j1 h.s) (λk=>by have:=m k;lia) λl ws t s2 w i al2=>?_⟩;have hb:(bK F r).length<=1001:=by
   unfold bK;split
   .exact PQ _
   .split
    .exact Sy rfl
    .rename_i x _ _ _ _;have:=m (r.2.2.1,x);rw[P8,Ps];lia
  refine⟨_,l,vs,ws,rfl,rfl,s2 _ _ e1,i,Re (jL ?_),k _ b ((h.more bj s2).ext bj f (s2 _ _ e1) al2)⟩;rw[<- al.len,<- al2.len];lia
structure Hw(H1 H':Hp) (Dl:Addr) (G Z:aE->List aE) (LA:aE->Addr) (k:aE) (v:V):Prop where
 t:∃p b,v=.ref p/\H' p=some (.tup [.ref b,.ref (LA k)])/\H' b=some (.tup ((k2 k).map kV))
 n:H1 (LA k)=none
 d:LA k≠Dl
 l:∃ws,H' (LA k)=some (.lst ws)/\aN (IsSet H') (Z k) ws
 s:ko (G k) (Z k)
theorem aN.imp{α b:Type}{R e:α->b->Prop}{xs:List α}{g:List b}(h:aN R xs g)(f:∀x∈xs,∀y,R x y->e x y):aN e xs g:=by
 induction h with
 |nil=>exact .nil
 |cons a _ i=>exact .cons (f _ Pu _ a) (i λx j=>f x (Pw _ j))
theorem aN.mem{α b:Type}{R:α->b->Prop}{xs:List α}{g:List b}(h:aN R xs g){x:α}(f:x∈xs):∃y,R x y:=by
 induction h with
 |nil=>exact(nomatch f)
 |cons a _ i=>exact(PB.mp f).elim (λe=>⟨_,e▸a⟩) i
def Hi(X:Cx):TE:=dc (au (ao 0) (au (fQ (AI X) (au (fQ (AH X) (au (ao 1) aF)) aF)) aF))
theorem J2{Fin:Addr->List V->Hp->Prop}(h1:tN.length=2)(hg:∀cl C U L fp,PG (aV X scope (tN++[]) cl C U L fp) tg (dZ X.K 2 (aW (aA 0) (aW (aA 1) dY))))(he:∀cl C U L fp,PE (aV X scope (tN++[]) cl C U L fp) elt (Hi X))
 (nd:ks2.Nodup) (hz:ks2.length<1000) (hf:H1 a2=some (.bP o u)) (hv:∀k∈ks2,∃vs,H1 (RA2 k)=some (.lst vs)/\aN (IsSet H1) (G k) vs) (dX:∀k,(G k).length<=300/\∀m:List aE,m.Nodup->(∀x∈m,x∈G k)->m.length<=63)
 (k:∀f vs H' LA Z,H1 f=none->Same H1 H'->H' f=some (.lst vs)->aN (Hw H1 H' f G Z LA) ks2 vs->(∀k∈ks2,∀M∈ks2,LA k=LA M->k=M)->Fin f vs H'):cw X scope tg tN [] [] elt [] σ Fin (Jg a2 o u (ks2.map λk=>(k2 k,.ref (RA2 k)))) H1:=by
 intro f hD cl C U fp;refine⟨_,_,_,λi m s H'=>m=ks2.length-i/\i<=ks2.length/\∃LA Z,aN (Hw H1 H' f G Z LA) (ks2.take i) s/\Same H1 H'/\H' f=some (.lst s)/\∀k∈ks2.take i,∀M∈ks2.take i,LA k=LA M->k=M,hg cl C U _ fp,fU,he cl C U _ fp,⟨ks2.length,by simp,PQ _,λ_=>0,λ_=>[],.nil,aw hD,ag,λk h=>(nomatch h)⟩,?_⟩;rintro i m s H' ⟨rfl,hi,LA,Z,A,W,I,inj⟩;refine⟨I,?_⟩;by_cases R:i<ks2.length
 .right;have Y:ks2[i]?=some ks2[i]:=Px R;refine⟨⟨W _ _ hf,by rw[Ps];exact R⟩,λxv H'' ol y ho=>?_⟩;obtain⟨p,b,kk,v,hp,rfl,hb,rfl,e⟩:=y;rw[PR,Y]at e;generalize ks2[i]=ki at Y e;cases e;rw[h1]at ho;obtain⟨u0,u1,rfl⟩ : ∃x y,ol=[x,y]:=by
   match ol,ho with
   |[x,y],_=>exact⟨x,y,rfl⟩
  have hki:ki∈ks2:=PY Y;have nki:ki∉ks2.take i:=λz=>by
   obtain⟨j,O⟩:=PX.mp z;rw[List.getElem?_take]at O;split at O
   .rename_i hji;have:=(Tu (PF.mp O).1 nd).mp (O.trans Y.symm);lia
   .cases O
  have s2:Same H' (upd H' p (.tup [.ref b,.ref (RA2 ki)])):=aw hp;refine yR ag ⟨λj O=>?_,hI ⟨_,rfl,?_⟩⟩
  .rw[h1]at O;obtain⟨j,rfl⟩:=QJ O;rfl
  obtain⟨vs,hl,al⟩:=hv ki hki;have sm2:=W.trans s2;refine JV (X:=X) (.va rfl) (.inl (sm2 _ _ hl)) (al.mono (bj (.of sm2))) (dX ki).1 (dX ki).2 λP ms ws L s3' t hl' al' so=>⟨by show 2<=_;rw[Qf];lia,λp2 N=>?_⟩;have s4:Same L (upd L p2 (.tup [.ref b,.ref P])):=aw N;have J:=(s2.trans s3').trans s4;have hD4:=J _ _ I;have nl1:H1 P=none:=W.free (s2.free t);have npD:p2≠f:=λz=>by rw[z]at N;rw[(s2.trans s3') _ _ I]at N;cases N
  have nlD:P≠f:=λz=>by rw[z]at t;rw[s2 _ _ I]at t;cases t
  refine⟨hD4,jL (by rw[<- A.len,QN];lia),ks2.length-(i+1),by lia,rfl,R,hJ LA ki P,hJ Z ki ms,?_,?_,ag,?_⟩
  .rw[P0,Y];have up:∀{c u},H' c=some u->c≠f->upd (upd L p2 (.tup [.ref b,.ref P])) f (.lst (s++[.ref p2])) c=some u:=λe n=>by rw[ai n];exact J _ _ e
   have kt:KT (upd L p2 (.tup [.ref b,.ref P])) (upd (upd L p2 (.tup [.ref b,.ref P])) f (.lst (s++[.ref p2]))):=.upd hD4 λ_ z=>(nomatch z);refine(A.imp λk S v h=>?_).snoc ?_
   .have ne:k≠ki:=λz=>nki (z▸S);obtain⟨⟨p,b',e,t1,t2⟩,n,dd,⟨ws',l1,l2⟩,so'⟩:=h;have T:KT H' _:=(KT.of J).trans kt;refine⟨⟨p,b',e,?_,T _ _ t2⟩,?_,?_,⟨ws',?_,?_⟩,?_⟩
    .rw[cz ne];exact T _ _ t1
    .rw[cz ne];exact n
    .rw[cz ne];exact dd
    .rw[cz ne];exact up l1 dd
    .rw[cz ne];exact l2.mono (bj T)
    .rw[cz ne];exact so'
   .refine⟨⟨p2,b,rfl,?_,kt _ _ (J _ _ hb)⟩,?_,?_,⟨ws,?_,?_⟩,?_⟩
    .rw[cC,ai npD,ag]
    .rw[cC];exact nl1
    .rw[cC];exact nlD
    .rw[cC,ai nlD];exact s4 _ _ hl'
    .rw[cC];exact al'.mono (bj ((KT.of s4).trans kt))
    .rw[cC];exact so
  .intro c w e;rw[ai (ax e hD)];exact J _ _ (W _ _ e)
  .have old:∀k∈ks2.take i,LA k≠P:=λk S z=>by obtain⟨v,h⟩:=A.mem S;obtain⟨ws',l1,_⟩:=h.l;rw[z]at l1;rw[s2 _ _ l1]at t;cases t
   have mm:∀k,k∈ks2.take (i+1)->k∈ks2.take i\/k=ki:=λk h=>by rw[P0,Y]at h;exact(PP.mp h).imp id λh=>Py.mp h
   have ne:∀{k},k∈ks2.take i->k≠ki:=λh z=>nki (z▸h);intro k h M h' e;rcases mm k h with g|g<;>rcases mm M h' with g'|g'
   .rw[cz (ne g),cz (ne g')]at e;exact inj k g M g' e
   .rw[g',cz (ne g),cC]at e;exact(old k g e).elim
   .rw[g,cz (ne g'),cC]at e;exact(old M g' e.symm).elim
   .rw[g,g']
 .left;have ei:i=ks2.length:=by lia
  subst ei;rw[Qk]at A inj;exact⟨⟨W _ _ hf,by rw[Ps];exact Pq _⟩,k f s H' LA Z hD W I A inj⟩
theorem AN:∀(ks b:List aE),(b++ks).Nodup->eQ (b.map λk=>(k2 k,V.ref (LA k))) (ks.map λk=>(k2 k,V.ref (LA k)))=(b++ks).map λk=>(k2 k,V.ref (LA k)):=by
 intro ks;induction ks with
 |nil=>intro b _;rw[QR];rfl
 |cons k ks e=>intro b nd;have nk:k∉b:=λz=>(Qj.mp nd).2.2 k z k Pu rfl;have:=e (b++[k]) (by rw[Qm];exact nd);rw[Qm,Qo]at this;show eQ (cg _ (k2 k) (.ref (LA k))) _=_;rw[dH _ (by rw[gf,PK nk])];exact this
def jF:List V->Hp->VK->Prop:=λxs H Q=>∃l vs kvs,xs=[.ref l]/\Rd H l (.lst vs)/\i6 H vs kvs/\∀p,H p=none->Q (.ref p) (upd H p (.dT (eQ [] kvs)))
def gK(b:X.calm=true)(e:X.A.units+64<cLine):bV X (.type "dict") jF:=ug b e
structure IR(H H':Hp) (d:Addr) (RL:List Sp.Rule) (L Z:aE->List aE) (LA:aE->Addr):Prop where
 g:Gr IsSet H H' d (b5 RL) Z LA
 s:∀k,ko (L k) (Z k)
def IM(L:aE->List aE):Prop:=∀k,(L k).length<=300/\∀m:List aE,m.Nodup->(∀x∈m,x∈L k)->m.length<=63
inductive yM:Sp
 |mk {B H:Hp} {RL:List Sp.Rule} {p l a:Addr} {ws:List V} {ks:List aE} {F:aE->List Int} {RA:aE->Addr} {Q:VK} {E:XK} (h:dk H RL p l ws) (O:Gr AJ B H a ks F RA) (hz:∀k,(F k).length<1000) (hl:RL.length<1000) (dX:IM (de (bK F) RL)) (k:∀d Z LA H',IR H H' d RL (de (bK F) RL) Z LA->Q (.ref d) H'):yM [.ref p,.ref a] H Q E
def AO(h:yM vs H Q E):vs.length=2:=by cases h;rfl
def J3(X:Cx)(scope:Scope)(tg b:Expr)(tN:List Str):TS:=cO (fQ jF (au (iH X scope tg tN [] [] b [] (zX X (ao 2))) aF))
def Oq(X:Cx)(scope:Scope)(tg b:Expr)(tN:List Str):TS:=aJ (aZ eL (aA 2)) (aJ (d4 (ce X.K (tI X.K 0 2)) (aA 3) (J1 X.K)) (J3 X scope tg b tN))
def yc:(de f (RL.take i) k).length<=(de f RL k).length:=by
 have:de f RL k=de f (RL.take i) k++de f (RL.drop i) k:=by unfold de;rw[<- RU,<- QK,Q2]
 rw[this,PJ];lia
theorem AQ(al:aN (Hw H1 H' Dl G Z LA) ks vs):i6 H' vs (ks.map λk=>(k2 k,V.ref (LA k))):=by
 induction al with
 |nil=>exact .nil
 |cons h _ f=>obtain⟨p,b,e,g,t2⟩:=h.t;exact .cons ⟨p,b,e,g,t2⟩ f
def J4(h1:tN.length=2)(w:∀cl C f i fp,PG (aV X scope (tN++[]) cl C f i fp) tg (dZ X.K 2 (aW (aA 0) (aW (aA 1) dY))))(x:∀cl C f i fp,PE (aV X scope (tN++[]) cl C f i fp) elt (Hi X))(g:Gr IsSet B H a2 (b5 RL) G RA2)(M:RL.length<1000)(dX:IM G)(hs:σ[2]?=some (some (.ref a2)))
 (k:∀d Z LA H',IR B H' d RL G Z LA->D.rt (.ref d) H'):J3 X scope tg elt tN D σ H:=by
 obtain⟨nd,ln,_⟩:=m6 RL;refine⟨_,hs,a2,_,_,rfl,.inl rfl,.inr ⟨g.r,λo N=>?_⟩⟩;have kt:KT H (upd H a2 (.bP o (.dT ((b5 RL).map λk=>(k2 k,V.ref (RA2 k)))))):=.upd g.r λ_ z=>(nomatch z);refine J2 h1 w x nd (by lia) ag (λk b=>?_) dX λy vs H' LA Z O A j al inj=>?_
 .obtain⟨_,vs,e,al⟩:=g.v k b;exact⟨vs,by rw[ai λz=>by rw[z,g.r]at e;cases e];exact e,al.mono (bj kt)⟩
 .refine⟨y,vs,(b5 RL).map λk=>(k2 k,.ref (LA k)),rfl,.inl j,?_,λd hd=>?_⟩
  .exact AQ al
  .have s1:Same H' (upd H' d (.dT ((b5 RL).map λk=>(k2 k,.ref (LA k))))):=aw hd;have m:Same B H':=λc u e=>A _ _ (by rw[ai λz=>by rw[z,g.na]at e;cases e];exact g.s _ _ e);have t:=AN (LA:=LA) (b5 RL) [] nd;rw[RO,Sx]at t;rw[t];refine k d (λk=>if k∈b5 RL then Z k else []) LA _ ⟨⟨m.trans s1,ag,m.free hd,λk b=>?_,inj,λk b=>PK b⟩,λk=>?_⟩
   .obtain⟨v,h⟩:=al.mem b;obtain⟨ws,I,J⟩:=h.l;rw[PN b];have L:B (LA k)=none:=by
     cases e:B (LA k)with
     |none=>rfl
     |some u=>have:=h.n;rw[ai λz=>by rw[z,g.na]at e;cases e]at this;rw[g.s _ _ e]at this;cases this
    exact⟨L,ws,s1 _ _ I,J.mono (bj (.of s1))⟩
   .by_cases b:k∈b5 RL
    .obtain⟨v,h⟩:=al.mem b;rw[PN b];exact h.s
    .rw[PK b,g.z k b];exact⟨λ_=>Iff.rfl,.nil⟩
theorem DZ(h1:tN.length=2)(n:∀cl C e j fp,PG (aV X scope (tN++[]) cl C e j fp) tg (dZ X.K 2 (aW (aA 0) (aW (aA 1) dY)))) (o:∀cl C e j fp,PE (aV X scope (tN++[]) cl C e j fp) elt (Hi X)) (h:yM vs H Q E):Oq X scope tg elt tN {nx:=λ_ H'=>Q .bB H',rt:=Q} (br ["house","behind","leading","rule"] vs) H:=by
 obtain @⟨B,H,RL,p,l,a,ws,ks,F,RA,Q,E,h,O,hz,hl,dX,k⟩:=h;intro a2 ha;have s1:Same H (upd H a2 (.dT [])):=aw ha;obtain⟨J,L,t⟩:=(h.same s1).tup;have u:Gr IsSet H (upd H a2 (.dT [])) a2 [] (de (bK F) []) (λ_=>0):=⟨s1,ag,ha,λk h=>(nomatch h),λk h=>(nomatch h),λk h=>rfl⟩;refine dC (Reads.ix (.va (i:=0) rfl) t (v:=.ref l) rfl _ ⟨l,rfl,⟨ws,.inl (ba s1 h.lst)⟩,?_⟩);refine cf (K:=X.K) (a:=l) (xs:=ws) (λi b H'=>(∃x,b=[some (.ref p),some (.ref a),some (.ref a2),x])/\∃RA2,Gr IsSet H H' a2 (b5 (RL.take i)) (de (bK F) (RL.take i)) RA2) ⟨⟨none,rfl⟩,_,u⟩ (λi b H' _ q=>?_) (λi v b H' w q=>?_) λb H' q=>?_
 .obtain⟨_,RA2,g⟩:=q;exact .inl (ba g.s h.lst)
 .obtain⟨⟨x,rfl⟩,RA2,g⟩:=q;obtain⟨r,y,z⟩:=h.its.get w;obtain⟨c,q,rfl,A,I⟩:=z;have M:=(m6 (RL.take i)).2.1;have N:=QG i RL;refine Oo (x0:=some (.ref p)) g O ⟨c,q,rfl,A,I⟩ hz (by lia) (by have:=(dX (hd r)).1;have:=yc (f:=bK F) (RL:=RL) (i:=i) (k:=hd r);lia) rfl λP m g2=>⟨⟨_,rfl⟩,m,?_⟩;rw[<- j3,<- uW]at g2;rw[P0,y];exact g2
 .obtain⟨⟨x,rfl⟩,RA2,g⟩:=q;rw[<- h.its.len,Qk]at g;exact J4 h1 n o g hl dX rfl k
end
section
inductive B6(sP:Sp):Sp
 |mk {H:Hp} {RL:List Sp.Rule} {p l:Addr} {ws:List V} {Q:VK} {E:XK} {As:List Sp.Arr} (h:dk H RL p l ws) (hP:J0 sP H (.ref p) As) (hz:As.length<1000) (hl:RL.length<1000) (dX:IM (de (bK (bc As)) RL)) (k:∀d Z LA H',IR H H' d RL (de (bK (bc As)) RL) Z LA->Q (.ref d) H'):B6 sP [.ref p] H Q E
def AR(h:B6 sP vs H Q E):vs.length=1:=by cases h;rfl
def Os(a:Sp):TS:=cO (bO yM [] E0 (au (ao 0) (au (bO (yw a) [] E0 (au (ao 0) aF)) aF)))
def IR.base(h:IR H H' d RL L Z LA)(s:Same B H):IR B H' d RL L Z LA:=⟨⟨s.trans h.g.s,h.g.r,s.free h.g.na,λk c=>let ⟨a,b⟩:=h.g.v k c;⟨s.free a,b⟩,h.g.i,h.g.z⟩,h.s⟩
def D0(h:B6 sP vs H Q E):Os sP {nx:=λ_ H'=>Q .bB H',rt:=Q} (br ["house"] vs) H:=by obtain @⟨H,RL,p,l,ws,Q,E,As,h,hP,hz,hl,dX,k⟩:=h;exact⟨_,rfl,_,rfl,.mk hP (by lia) λa ks RA H1 O=>.mk (h.same O.s) O (λk=>by have:=jE As k;lia) hl dX λd Z LA H' g=>k d Z LA H' (g.base O.s)⟩
end
end L4
namespace L2
open PySem PySem.Spec PySem.Calls PyProof.Rows ST
section
def RawD.at(m:RawD h d es ep)(k:∀o,h.get? d=some o->h'.get? d=some o):RawD h' d es ep:=let ⟨o,e,c⟩:=m;⟨o,k o e,c⟩
def yd(hh:A.handled=none)(hne:d≠I):Walks prog w A I [I,d] [I] es.size (λi v=>∃e,es[i]?=some e/\v=e.key) (λi h=>h.IsKeyIter I d i es.size ep/\RawD h d es ep) where
 sub:=λb hb=>by simp at hb;simp[hb]
 frame:=λ_ _ _ st hk=>⟨st.1.at λo e=>hk I (by simp) o e,st.2.at λo e=>hk d (by simp) o e⟩
 item:=λi s Q E hi st hQ=>gJ st.1 st.2 (λe he h' st' sb=>hQ e.key h' s.toks ⟨e,he,rfl⟩ ⟨st',st.2.at λo x=>(sb.2 d hne).trans x⟩ λb o hb x=>(sb.2 b (λh=>hb (by simp[h]))).trans x) λz=>by rw[R0 hi]at z;cases z
 done:=λs Q E st hQ=>gJ st.1 st.2 (λe he=>by simp at he) λ_=>⟨hh,λh' eb=>hQ h' s.toks λb o hb x=>eb b o (λh=>hb (by simp[h])) x⟩
 self:=λ_ _ _ _ st hQ=>wpAny_pyIter_keyiter st.1 hQ
def wt(lo:(d==sysModules)=false):PySem.W.KdlSrc prog w "dict" d d es.size (λi v=>∃e,es[i]?=some e/\v=e.key) (λh=>RawD h d es ep) where
 type:=λ_ hm=>hm.ty
 there:=λ_ hm=>let ⟨_,e,_⟩:=hm;⟨PD e,PD e⟩
 keep:=λ_ _ hm hk=>hm.at λo e=>hk d (.inl rfl) o e
 notList:=by decide
 notTuple:=by decide
 hint:=λ_ _ _ _ hm hq=>PySem.W.kdl_hint_dict hm.ty hq
 iter:=λ_ _ hh hm=>⟨_,_,(λ_ _ hq=>mY lo hm hq),yd hh (let ⟨_,e,_⟩:=hm;P7 (PD e)),⟨⟨_,PH _ rfl,rfl,rfl⟩,hm.at λo e=>Pp _ e⟩⟩
def ql:MeetsIn prog w (Builtin.«dict.clear» ⟨[.ref d],[]⟩) (λ_ R s=>RawD s.heap d es ep/\es.size<=sizeLine/\∀h',(∃ep,RawD h' d #[] ep)->Heap.SameBut d s.heap h'->R (.ok (.ret .none)) {s with heap:=h'}):=
 .of_wp λA R s ⟨hm,e,h⟩=>by
  obtain⟨o,c,f,a⟩:=id hm;unfold Builtin.«dict.clear»;refine KE ?_;unfold Builtin.Dict.noArgs;refine KE (Rh hm.ty ?_);show wpAny _ _ (pure d) _ _ s;refine Po ?_;refine KE (QE c a ?_);refine KE ?_;unfold bearsInstanceDictMark;refine KE (wpAny_load c (Po ?_));refine KE (TR (hz:=e) c a ?_);have b:∃ep,RawD (s.heap.update d (Obj.mapDictKeys λ_=>#[])) d #[] ep:=⟨ep+1,_,QI _ c (SV (Ro a _)),f.mapDictKeys _,Ro a _⟩;split
  .exact KE (Tt (Po ⟨.none,rfl,h _ b (Qi ..)⟩))
  .exact KE (Po (Po ⟨.none,rfl,h _ b (Qi ..)⟩))
end
section
def uX(ok:HOk P w H h)(e:Rd H d (.dT kvs)):kvs.length<=sizeLine/\(d==sysModules)=false/\(kvs.map (·.1)).Nodup/\∃es ep,RawD h d es ep/\es.size=kvs.length/\∀(i:Nat) p,kvs[i]?=some p->∃x b,es[i]?=some x/\x.key=.ref b/\H b=some (.tup (p.1.map kV)):=by
 obtain⟨z,hd,xs,a,o,en,ep,k,hex,c,f,_,nd⟩:=gq ok e;have g:=Rk a;have q:kvs.map (·.1)=xs.map (·.1):=by
  apply SE
  intro i;rw[PR,PR];cases l:kvs[i]? with
  |none=>rw[Rx (by rw[<- g];exact List.getElem?_eq_none_iff.mp l)];rfl
  |some p=>
   have m:i<xs.length:=by rw[<- g];exact(PF.mp l).1
   obtain⟨e1,_⟩:=a.at i _ _ l (Px m);rw[Px m];exact Q1 some e1
 refine⟨z,hd,by rw[q];exact nd,en,ep,⟨o,k,hex,c⟩,by rw[RQ f,g],λi p n=>?_⟩;have j:i<xs.length:=by rw[<- g];exact(PF.mp n).1
 have j:xs[i]?=some xs[i]:=by simp[j]
 obtain⟨_,hb,r⟩:=a.at i _ _ n j;exact⟨_,_,by rw[entry_at f,j];rfl,rfl,hb⟩
def uY:List V->Hp->VK->Prop:=λxs H Q=>∃d kvs,xs=[.ref d]/\(Rd H d (.dT kvs)\/(Rd H d (.dK [])/\kvs=[]))/\∀l (bs:List Addr),H l=none->bs.length=kvs.length->(∀(i:Nat) p b,kvs[i]?=some p->bs[i]?=some b->H b=some (.tup (p.1.map kV)))->Q (.ref l) (upd H l (.lst (bs.map V.ref)))
def AS:Option UA->Addr
 |some (Value.ref b)=>b
 |_=>0
def o6{H:Hp}{kvs:List (List bI×V)}{es:Array DictEntry}{a:Array UA}(q:es.size=kvs.length)(k:∀(i:Nat) p,kvs[i]?=some p->∃x b,es[i]?=some x/\x.key=.ref b/\H b=some (.tup (p.1.map kV)))(it:ItemsOf (λi v=>∃e,es[i]?=some e/\v=e.key) a es.size):∃bs:List Addr,a.toList=bs.map Value.ref/\bs.length=kvs.length/\∀(i:Nat) p b,kvs[i]?=some p->bs[i]?=some b->H b=some (.tup (p.1.map kV)):=by
 obtain⟨r,l⟩:=it;have d:∀i,i<kvs.length->∃b,a[i]?=some (.ref b)/\∀p,kvs[i]?=some p->H b=some (.tup (p.1.map kV)):=λi c=>by
  have ha:i<a.size:=by lia
  obtain⟨e,e1,e2⟩:=l i a[i] (R0 ha);obtain⟨x,b,j,m,n⟩:=k i kvs[i] (Px c);rw[e1]at j;cases j;refine⟨b,by rw[R0 ha,e2,m],λp g=>?_⟩;rw[Px c]at g;cases g;exact n
 refine⟨(List.range kvs.length).map λi=>AS a[i]?,?_,by simp,λi p b g hb=>?_⟩
 .apply SE
  intro i;rw[QC,PR,Ql];by_cases c:i<kvs.length
  .obtain⟨b,hb,_⟩:=d i c;rw[hb,T6 c];show _=some (Value.ref (AS a[i]?));rw[hb];rfl
  .rw[Tg (by lia),Rx (by simp;lia)];rfl
 .have c:=(PF.mp g).1;rw[PR,T6 c]at hb;obtain⟨o,h,f⟩:=d i c;have:o=b:=by have:AS a[i]?=b:=QH hb;rw[h]at this;exact this
  subst this;exact f p g
theorem m7:∀bs:List Addr,Vals (bs.map V.ref) (bs.map Value.ref)
 |[]=>.nil
 |_::bs=>.cons rfl (m7 bs)
def m8(f:X.calm=true):bV X (.type "list") uY:=by
 intro ac s σ H xs us Q I r h;obtain⟨d,kvs,rfl,a,q⟩:=h;rcases a with a|⟨a,rfl⟩
 case inr=>exact uB f ac s σ H _ us Q I r ⟨d,[],_,rfl,.inl rfl,a,PQ _,λl c=>q l [] c rfl λi p b e=>by simp at e⟩
 obtain⟨w,rfl,j⟩:=dU r;cases j;obtain⟨z,hd,_,es,ep,m,c,k⟩:=uX I.aT a;refine PySem.W.kdl_call (wt (es:=es) (ep:=ep) hd) (I.ok.hd f) m (by rw[c];exact z) λh' tk n g kp e it=>?_;obtain⟨bs,e1,e2,o⟩:=o6 c k it;have e:h'.get? s.heap.objs.size=some { cls:=.type "list",dict:=none,data:=.seq (bs.map Value.ref).toArray g,slots:=#[] }:=by rw[<- e1,Array.toArray_toList];exact e
 exact⟨.ref s.heap.objs.size,_,I.laid (t':=tk) kp (Pq _) (show ObjOk X.prog X.w _ h' _ (.lst (bs.map V.ref))from⟨by rw[Ps,e2];exact z,_,g,m7 bs,e⟩),rfl,q _ bs (I.aT.fresh (Pq _)) e2 o⟩
def FD:V->List V->Hp->VK->Prop:=λx vs H Q=>∃l kvs,x=.ref l/\vs=[]/\H l=some (.dT kvs)/\Q .bB (upd H l (.dT []))
def D3:C3 X "dict.clear" FD:=by intro ac s σ H x vs v us Q I d e h;obtain⟨l,kvs,rfl,rfl,c,q⟩:=h;cases d;have a:=e.zero;subst a;obtain⟨z,hd,_,es,ep,m,f,_⟩:=uX I.aT (.inl c);refine R_ F.slot_dict_clear m.ty F.entry_dict_clear (F.args_dict_clear_1 _) ql ⟨m,by rw[f];exact z,λh' g hs=>?_⟩;obtain⟨b,o,e1,e2,i⟩:=g;exact⟨.bB,_,i5 (ob:=.dT []) (t':=s.toks) I (by rw[c];exact True.intro) hs ⟨o,e1⟩ ⟨PQ _,hd,[],.nil,o,#[],b,e1,e2,i,rfl,Qn⟩,rfl,q⟩
def AT:List V->Hp->VK->Prop:=λxs H Q=>∃d kvs,∃ks:List (List Int),xs=[.ref d]/\Rd H d (.dT kvs)/\kvs.map (·.1)=ks.map iK/\(∀k∈ks,k≠[])/\ks.length<=63/\
 ∀(l:Addr)(a:List jo),H l=none->(∀y∈a,H y.2=some (.tup ((iK y.1).map kV)))->(∀k,k∈a.map (·.1)↔k∈ks)->a.length=ks.length->a.Pairwise (λx y=>eB x.1 y.1=true)->Q (.ref l) (upd H l (.lst (a.map λy=>.ref y.2)))
def ye(J:X.calm=true):bV X (.builtin "sorted") AT:=by
 intro ac s σ H xs us Q I r h;obtain⟨d,kvs,ks,rfl,u,c,v,hz,q⟩:=h;obtain⟨w,rfl,K⟩:=dU r;cases K;obtain⟨z,hd,nd,es,ep,m,E,L⟩:=uX I.aT u;have A:kvs.length=ks.length:=by have:=Q1 List.length c;simpa using this
 refine SO kind_sorted plain_sorted entry_sorted (args_sorted1 _) ?_;unfold Builtin.«sorted»;refine KE (m:=checkCount "sorted" 1 1 _) (Po (KE (rM (wt (es:=es) (ep:=ep) hd) (I.ok.hd J) m (by rw[E];exact z) λh1 tk1 B g1 k1 it=>?_)));obtain⟨bs,e1,e2,M⟩:=o6 E L it;have N:B.toList=valsT (ks.zip bs):=by
  rw[e1];unfold valsT;have:(ks.zip bs).map (·.2)=bs:=List.map_snd_zip (by lia)
  conv=>lhs;rw[<- this]
  rw[QC];rfl
 have n:(ks.zip bs).map (·.1)=ks:=List.map_fst_zip (by lia);have at':∀x∈ks.zip bs,H x.2=some (.tup ((iK x.1).map kV)):=λx f=>by
  obtain⟨i,O⟩:=PX.mp f;obtain⟨F,P⟩:=SL.mp O;have g:i<kvs.length:=by rw[A];exact(PF.mp F).1
  have:=M i kvs[i] x.2 (Px g) P;have h2:(kvs.map (·.1))[i]?=some (iK x.1):=by rw[c,PR,F];rfl
  rw[PR,Px g]at h2;rw[<- QH h2];exact this
 have C:ks.Nodup:=by rw[c]at nd;exact List.Pairwise.of_map iK (λ_ _ h e=>h (by rw[e])) nd
 rw[N];have j:(ks.zip bs).length=ks.length:=by have:=Q1 List.length n;simpa using this
 refine KE (T1 ?_ (by show(valsT _).length<=_;simp only[valsT,Ps];rw[j,Qf];lia));have l:(h1.push (seqObj "list" (valsT (ks.zip bs)).toArray 0)).get? h1.objs.size=some (seqObj "list" (valsT (ks.zip bs)).toArray 0):=PH _ rfl;have G:∀b o,s.heap.get? b=some o->(h1.push (seqObj "list" (valsT (ks.zip bs)).toArray 0)).get? b=some o:=λb o e=>Pp _ (k1 b o e);have ge:s.heap.objs.size<=h1.objs.size:=Re g1;refine KE (Qz (QF slot_list_sort ⟨_,l,rfl⟩ entry_list_sort ?body (args_list_sort _)))
 case body=>
  refine oS (s:={ s with heap:=h1.push (seqObj "list" (valsT (ks.zip bs)).toArray 0),toks:=tk1 }) l ⟨λx f=>gE (d5 I.aT (at' x f)) G,λx f=>v _ (by rw[<- n];exact Pt.mpr ⟨x,f,rfl⟩),by rw[n];exact C⟩ (by lia) λp h2 c2 t R D k2=>⟨_,rfl,?_⟩;have S:H h1.objs.size=none:=I.aT.fresh ge;refine Po ⟨_,rfl,.ref h1.objs.size,_,I.laid (a:=h1.objs.size) (o:=.lst (p.map λy=>.ref y.2)) (t':=tk1) (λb o e=>k2 b o (λz=>?_) (G b o e)) ge ?_,rfl,q h1.objs.size p S (λy T=>at' y (t.mem_iff.mp T)) (λk=>?_) (t.length_eq.trans j) R⟩
  .subst z;exact absurd (PD e) (Nat.not_lt.mpr ge)
  .refine⟨by rw[Ps,Qf,t.length_eq];lia,valsT p,c2,?_,D⟩;have:=m7 (p.map (·.2));rw[QC,QC]at this;exact this
  .rw[(t.map (·.1)).mem_iff,n]
end
end L2
namespace L4
open PySem PySem.Spec PyProof.Rows L2 L3
section
variable{X:Cx}{scope:Scope}{tg elt:Expr}{ifs:List Expr}{tN capN:List Str}{caps:List Nat}{σ:L2.St}{H1:Hp}{Fin:Addr->List V->Hp->Prop}{J:L2.It}{n:Nat}{gt:TG}{tt:TT}{te:TE}
def jG(v:∀cl C e f fp,PG (aV X scope (tN++capN) cl C e f fp) tg gt)(w:∀cl C e f fp,yQ (aV X scope (tN++capN) cl C e f fp) ifs tt)(z:∀cl C e f fp,PE (aV X scope (tN++capN) cl C e f fp) elt te)(I:Addr->Nat->List V->Hp->Prop)(B:∀d,H1 d=none->I d 0 [] (upd H1 d (.lst [])))(D:∀{d i c H},I d i c H->H d=some (.lst c))
 (l:∀d i c H,I d i c H->i<n->J.go i H) (q:∀d c H,I d n c H->J.stop n H)
 (hb:∀d i c H x H' o,i<n->I d i c H->J.BY i H x H'->o.length=tN.length->gt x (o++jz σ caps) H' λg E=>(∀j:Nat,tN.length<=j->g[j]?=(o++jz σ caps)[j]?)/\tt g E λb f=>if b=true then te g f λy t=>t d=some (.lst c)/\c.length<sizeLine/\I d (i+1) (c++[y]) (upd t d (.lst (c++[y])))else I d (i+1) c f)
 (r:∀d c H,H1 d=none->I d n c H->Fin d c H):cw X scope tg tN capN caps elt ifs σ Fin J H1:=by
 intro d k cl C e fp;refine⟨_,_,_,λi m c H'=>m=n-i/\i<=n/\I d i c H',v cl C e _ fp,w cl C e _ fp,z cl C e _ fp,⟨n,by simp,PQ _,B d k⟩,?_⟩;rintro i m c H' ⟨rfl,L,p⟩;refine⟨D p,?_⟩;by_cases h:i<n
 .refine .inr ⟨l d i c H' p h,λF s o y G=>?_⟩;have:=hb d i c H' F s o h p y G;have e2:∀{A:Prop},(∃u,u<n-i/\(u=n-(i+1)/\i+1<=n/\A))↔A:=⟨λ⟨_,_,_,_,a⟩=>a,λa=>⟨_,by lia,rfl,h,a⟩⟩;simp only[e2];exact this
 .have K:i=n:=by lia
  subst K;exact .inl ⟨q d c H' p,r d c H' k p⟩
end
def qo{a:aE}(h:Cj a a):False:=by unfold Cj at h;lia
def D4{a b:aE}(h:Cj a b)(g:Cj b a):False:=by unfold Cj at h g;lia
theorem kJ:∀{z d:List aE},z.Pairwise Cj->d.Pairwise Cj->(∀x,x∈z↔x∈d)->z=d
 |[],[],_,_,_=>rfl
 |[],b::_,_,_,h=>nomatch (h b).mpr Pu
 |a::_,[],_,_,h=>nomatch (h a).mp Pu
 |a::t,b::t',p,c,h=>by
  rw[S_]at p c;have e:a=b:=by
   rcases PB.mp ((h a).mp Pu)with e|m
   .exact e
   .rcases PB.mp ((h b).mpr Pu)with e|m'
    .exact e.symm
    .exact(D4 (p.1 b m') (c.1 a m)).elim
  subst e;rw[kJ p.2 c.2 λx=>?_];have f:=h x;rw[PB,PB]at f;constructor
  .intro m;rcases f.mp (.inr m)with e|m'
   .subst e;exact(qo (p.1 x m)).elim
   .exact m'
  .intro m;rcases f.mpr (.inr m)with e|m'
   .subst e;exact(qo (c.1 x m)).elim
   .exact m'
def pD(x:aE):D:=.tup [.int x.1,.int x.2]
section
variable{X:Cx}{K:Uy}{mg:Str->Option UA}{H H':Hp}{a q p d:Addr}{ks:List aE}{RA:aE->Addr}{σ:L2.St}{k:aE}{vs:List V}{Q:VK}{m:Addr->Prop}
theorem NT{x:aE}{v:V}(h:IsSet H x v):Is H m (pD x) v:=let ⟨p,e,h⟩:=h;⟨p,_,e,h,_,_,rfl,rfl,_,_,rfl,rfl,rfl⟩
theorem ML{l:List aE}{vs:List V}(h:aN (IsSet H) l vs):IsAll H m (l.map pD) vs:=by
 induction h with
 |nil=>exact rfl
 |cons q _ b=>exact⟨_,_,rfl,NT q,b⟩
theorem j4{n:Nat}:∀{ds:List D},(∀d∈ds,d.dep<=n)->D.gn ds<=n
 |[],_=>PQ _
 |d::ds,h=>by have h1:=h d Pu;have h2:=j4 λe b=>h e (Pw _ b);show max d.dep (D.gn ds)<=n;lia
def MM(l:List aE):(D.lst (l.map pD)).dep<=50:=by
 have:D.gn (l.map pD)<=2:=j4 λd hd=>by obtain⟨x,_,rfl⟩:=Pt.mp hd;exact Sy rfl
 show D.gn (l.map pD)+1<=50;lia
def J5(K:Uy):List V->Hp->VK->Prop:=λxs H Q=>∃x T t b,xs=[x,.ty T]/\Mc K H x t/\kitOne K t (.type T)=some b/\Q (.bl b) H
def kK:bV X (.builtin "isinstance") (J5 X.K):=Ac
def D5(K:Uy)(T:String)(te:TE):TE:=fQ (J5 K) (au te (au (tC (.ty T)) aF))
theorem Reads.NF{te:TE}{T:String}{x:V}{dd:D}(h:Reads te σ H x)(is:Mc K H x (.type dd.ty))(b:Dx T):Reads (D5 K T te) σ H (.bl (NQ T dd)):=λQ q=>h _ ⟨x,T,_,_,rfl,is,b K dd,q⟩
theorem Hj{F:List D->Res R}{n:Nat}{ds:List D}{ta:TA}(ha:ReadsA ta σ H vs)(b:vs.length=n)(is:IsAll H (λ_=>True) ds vs)(c:F ds=.ok (.val (.bl true) true []))(k:∀H',Same H H'->Q (.bl true) H'):bO (nU mg n F) [] E0 ta σ H Q:=by refine ha _ ⟨by rw[QR];exact b,ds,λ_=>True,by rw[QR];exact is,?_⟩;rw[c];intro v H' s r;obtain rfl:v=.bl true:=r;exact k H' s
theorem Reads.Ig{ta tb:TE}{b:Addr}{v:V}(ha:Reads ta σ H (.ref a))(hb:Reads tb σ H (.ref b))(c:Rd H a (.dT (ks.map λk=>(k2 k,V.ref (RA k)))))(f:k∈ks)(e:H b=some (.tup ((k2 k).map kV))):Reads (eU ta tb) σ H (.ref (RA k)):=λQ q=>ha _ (hb _ ⟨a,_,rfl,.inr ⟨_,k2 k,b,c,rfl,e,by rw[gf,PN f]⟩,q⟩)
def D7:TS:=cO (tC (.bl false))
end
abbrev Rw:=Int×List Int
section
variable{K:Uy}{H:Hp}{p:Addr}{σ:L2.St}{k:aE}
def Reads.O_(ha:Reads ta σ H (.ref p))(hb:Reads tb σ H (.int i))(h:Rd H p (.lst xs))(e:xs[j]?=some v)(a:i=(j:Nat)):Reads (bv (pz K) ta tb) σ H v:=ha.op hb λ_ q=>⟨p,xs,i,v,rfl,rfl,.inl h,by rw[a];exact cV e,q⟩
theorem Reads.B5(ha:Reads ta σ H (.ref p))(h:Rd H p (.lst xs)):Reads (fQ (fX K) (au ta aF)) σ H (.int xs.length):=λ_ k=>ha _ ⟨p,xs,rfl,.inl (.inl h),k⟩
end
def m9(K:Uy):List V->Hp->VK->Prop:=λxs H Q=>∃p a,xs=[.ref p]/\(SqL K H p a\/SqT K H p a)/\∀l,H l=none->Q (.ref l) (upd H l (.lst a))
def gL:bV X (.type "list") (m9 X.K):=pC
def J6(X:Cx)(scope:Scope)(tg a:Expr)(tN capN:List Str)(caps:List Nat)(i:Nat)(b:TI):TS:=λD σ H=>b σ H (cw X scope tg tN capN caps a [] σ λc _ H'=>D.nx (σ.set i (some (.ref c))) H')
section
variable{H:Hp}{k:aE}{D:Ends}
theorem AU{α:Type}{m:Addr->Prop}{f:α->V->Prop}{g:α->L3.D}{xs:List α}{l:List V}(h:aN f xs l):(∀x∈xs,∀v,f x v->Is H m (g x) v)->IsAll H m (xs.map g) l:=by
 induction h with
 |nil=>exact λ_=>rfl
 |cons a _ b=>exact λg=>⟨_,_,rfl,g _ Pu _ a,b λk c=>g k (Pw _ c)⟩
end
abbrev yS:=List D->Res R
abbrev Tr:Addr->Prop:=λ_=>True
def jH(a signs:Int)(RL:List Sp.Rule):D:=.tup [.int a,.int signs,.lst (RL.map eF)]
def Ls(As:List Sp.Arr)(RL:List Sp.Rule):aE->List aE:=de (bK (bc As)) RL
structure Pj where
 (Fp Fm Fc Pd Ph Pl Fh Fb:yS)
section
variable{K:Uy}{H H':Hp}{p d rl:Addr}{σ:L2.St}{vs ws:List V}{Q:VK}{RL:List Sp.Rule}{rooms signs:Int}
theorem J7(h:z6 g H v r):Is H Tr r.d v:=by
 cases r with
 |val d fr al=>exact Is.mono (λ_ _ e _=>e) (λ_ _ _ _=>True.intro) h
 |new ds fr=>obtain⟨a,vs,rfl,e,_,b⟩:=h;exact⟨a,vs,rfl,.inl ⟨e,True.intro⟩,IsAll.mono (λ_ _ e _=>e) (λ_ _ _ _=>True.intro) b⟩
 |BQ d=>exact Is.mono (λ_ _ e _=>e) (λ_ _ _ _=>True.intro) h
def AV(a:vs.length=n)(is:IsAll H Tr ds vs)(b:F ds=.ok r)(k:∀v H',Same H H'->Is H' Tr r.d v->Q v H'):nU mg n F (vs++[]) H Q E0:=by refine⟨by rw[QR];exact a,ds,Tr,by rw[QR];exact is,?_⟩;rw[b];exact λv H' s h=>k v H' s (J7 h)
def D8{m:Addr->Prop}{dd:D}(h:Is H m dd v)(s:Same H H'):Is H' Tr dd v:=Is.mono (λc u e _=>s c u e) (λ_ _ _ _=>True.intro) h
def D9(mg:Str->Option UA)(Fm Fc:yS)(i:Int):TE:=bO (nU mg 1 Fm) [] E0 (au (bO (nU mg 2 Fc) [] E0 (au (ao 0) (au (tC (.int i)) aF))) aF)
def uZ{sd:D}{i x y:Int}(h0:σ[0]?=some (some v0))(is:Is H Tr sd v0)(a:Fc [sd,.int i]=.ok (.val (.int x) true []))(hm:Fm [.int x]=.ok (.val (.int y) true []))(k:∀H',Same H H'->Q (.int y) H'):D9 mg Fm Fc i σ H Q:=by refine⟨_,h0,AV (ds:=[sd,.int i]) rfl ⟨_,_,rfl,is,_,_,rfl,rfl,rfl⟩ a λv H1 s1 e1=>AV (ds:=[.int x]) rfl ⟨_,_,rfl,e1,rfl⟩ hm λw b s2 e2=>?_⟩;cases(show w=.int y from e2);exact k b (s1.trans s2)
structure qK(H:Hp) (rooms signs:Int) (RL:List Sp.Rule) (p l:Addr) (ws:List V):Prop where
 t:H p=some (.tup [.int rooms,.int signs,.ref l])
 l:H l=some (.lst ws)
 i:IsAll H Tr (RL.map eF) ws
def qK.is{l:Addr}(h:qK H rooms signs RL p l ws):Is H Tr (jH rooms signs RL) (.ref p):=⟨p,_,rfl,h.t,_,_,rfl,rfl,_,_,rfl,rfl,_,_,rfl,⟨l,ws,rfl,.inl ⟨h.l,True.intro⟩,h.i⟩,rfl⟩
def qK.at{l:Addr}(h:qK H rooms signs RL p l ws):dk H RL p l ws:=⟨⟨_,_,h.t⟩,.inl h.l,wn (λx v=>Aw) h.i⟩
def J8(h:IsAll H m ds vs)(s:Same H H'):IsAll H' Tr ds vs:=IsAll.mono (λc u e _=>s c u e) (λ_ _ _ _=>True.intro) h
def qK.more{l:Addr}(h:qK H rooms signs RL p l ws)(s:Same H H'):qK H' rooms signs RL p l ws:=⟨s _ _ h.t,s _ _ h.l,J8 h.i s⟩
def Hk(a:TE):TE:=dc (au (ao 2) (au (ao 3) (au a aF)))
def NU(a:TE)(σ:L2.St)(H:Hp)(RL:List Sp.Rule):Prop:=∀Q:VK,(∀l ws H1,Same H H1->H l=none->H1 l=some (.lst ws)->IsAll H1 Tr (RL.map eF) ws->Q (.ref l) H1)->a σ H Q
def Hl(h2:σ[2]?=some (some (.int rooms)))(h3:σ[3]?=some (some (.int signs)))(b:NU tx σ H RL)(k:∀p l ws H',Same H H'->H p=none->H l=none->qK H' rooms signs RL p l ws->Q (.ref p) H'):Hk tx σ H Q:=by refine⟨_,h2,_,h3,b _ λl ws H1 s1 nl c e=>⟨by show 3<=_;rw[Qf];lia,λp a=>?_⟩⟩;have s2:=aw (o:=.tup [.int rooms,.int signs,.ref l]) a;exact k p l ws _ (s1.trans s2) (s1.free a) nl ⟨ag,s2 _ _ c,J8 e s2⟩
def NV(K:Uy):TE:=fQ (m9 K) (au (ao 5) aF)
def J9(b:σ[5]?=some (some (.ref rl)))(c:Rd H rl (.lst ws))(e:IsAll H Tr (RL.map eF) ws):NU (NV K) σ H RL:=λQ q=>⟨_,b,rl,ws,rfl,.inl (.inl c),λl a=>q l ws _ (aw a) a ag (J8 e (aw a))⟩
end
def FE(h:IsRule H r v):Is H m (eF r) v:=by obtain⟨p,q,rfl,a,b⟩:=h;exact⟨p,_,rfl,a,_,_,rfl,rfl,_,_,rfl,rfl,_,_,rfl,rfl,_,_,rfl,⟨q,_,rfl,b,jA _⟩,rfl⟩
structure Pg where
 (Pf E2 Cs:Scope)
 (Pn O4 FT tq FW tf:Expr)
 (Pi tN capN:List Str)
 (caps:List Nat)
section
def cK:R2:=rI (λ_ j=>0<j) λi j=>.int (i%j)
def jq:R2:=rI IY λi j=>.int (i/j)
end
structure wI(l z:List Int):Prop where
 m:∀x,x∈z↔x∈l
 p:z.Pairwise (·< ·)
inductive kT(F:aE->List Int) (room:Int):List Int->List Int->List aE->Prop
 |nil:kT F room [] [room] []
 |snoc {st rooms:List Int} {hs:List aE} {s:Int} {rooms':List Int} (h:kT F room st rooms hs) (so:wI (rooms.flatMap λr=>F (r,s)) rooms'):kT F room (st++[s]) rooms' (hs++rooms.map λr=>(r,s))
structure yH(F:aE->List Int) (U:List Int):Prop where
 n:∀k,(F k).length<=7
 u:∀k,∀x∈F k,x∈U
 l:U.length<=7
def kT.dX{F:aE->List Int}(f:yH F U)(d:room∈U){st a:List Int}{hs:List aE}(h:kT F room st a hs):a.length<=7/\hs.length<=7*st.length:=by
 induction h with
 |nil=>exact⟨by show 1<=7;decide,Pq _⟩
 |@snoc st a hs s b h so e=>refine⟨Qb (Sp.nodup_sub (so.p.imp λh=>Int.ne_of_lt h) λx c=>?_) f.l,by simp;lia⟩;obtain⟨r,_,c⟩:=QY.mp ((so.m x).mp c);exact f.u _ x c
def NW{F:aE->List Int}(h:∀k,(F k).length<=7):∀l:List aE,(l.flatMap F).length<=7*l.length:=by
 intro l;induction l with
 |nil=>exact Pq _
 |cons x l a=>have:=h x;rw[Rm,PJ,P8];lia
section
variable{K:Uy}{B0 B H H':Hp}{a q p:Addr}{ks:List aE}{F:aE->List Int}{RA:aE->Addr}{D:Ends}{σ:L2.St}{vs tv:List V}{ts:List aE}
def AW(X:Cx):List V->Hp->VK->Prop:=λvs H Q=>∃l xs,vs=[.ref l]/\Rd H l (.lst (xs.map V.int))/\xs.length<=300/\∀p es its,H p=none->its.map (·.1)=xs->eR (eI X.prog X.w) es its->Q (.ref p) (upd H p (.ext λh=>SetAt X.w h p es))
def u4(b:X.calm=true):bV X (.type "set") (AW X):=ux b
def AX(X:Cx):List V->Hp->VK->Prop:=λvs H Q=>∃p es its,vs=[.ref p]/\H p=some (.ext λh=>SetAt X.w h p es)/\eR (eI X.prog X.w) es its/\its.length<=63/\
 ∀(l:Addr)(ks:List Int),H l=none->(∀k,k∈ks↔k∈its.map (·.1))->ks.Pairwise (·< ·)->Q (.ref l) (upd H l (.lst (ks.map V.int)))
def u5(b:X.calm=true):bV X (.builtin "sorted") (AX X):=nT b
theorem Hm(h:Reads ta σ H (.ref l))(f:Rd H l (.lst (xs.map .int)))(hz:xs.length<=63)(k:∀b z H',Same H H'->H b=none->H' b=some (.lst (z.map .int))->wI xs z->Q (.ref b) H'):fQ (AX X) (au (fQ (AW X) (au ta aF)) aF) σ H Q:=by refine h _ ⟨l,xs,rfl,f,by lia,λp es its d e v=>⟨p,es,its,rfl,ag,v,?_,λb ks c hm pw=>k b ks _ ((aw d).trans (aw c)) ((aw d).free c) ag ⟨λx=>by rw[hm,e],pw⟩⟩⟩;have:=Q1 List.length e;rw[Ps]at this;lia
def J_(K:Uy):TS:=d4 (ce K (ao 5)) (aA 7) (cj (qZ K "list" jO (ao 6) (au (dI (ao 0) (ao 7) (eJ aF)) aF)))
def Ot{l rl tl gl:Addr}(O:Gr AJ B0 B a ks F RA)(C:Same B H)(x:H tl=some (.lst tv))(al:aN (IsSet H) ts tv)(E:tl≠gl)(G:B gl=none)(y:H gl=some (.lst []))(hz:ts.length<=7)(A:∀k,(F k).length<=7)(hs:σ=[some (.ref a),some v1,some (.ref l),some (.ref rl),x4,some (.ref tl),some (.ref gl),x7])
 (k:∀x7 H',Kp gl H H'->Same B H'->H' gl=some (.lst ((ts.flatMap F).map .int))->D.nx [some (.ref a),some v1,some (.ref l),some (.ref rl),x4,some (.ref tl),some (.ref gl),x7] H'):J_ K D σ H:=by
 subst hs;refine⟨_,rfl,tl,rfl,⟨tv,SqL.of x⟩,cf (K:=K) (a:=tl) (xs:=tv) (λi f H'=>(∃x7,f=[some (.ref a),some v1,some (.ref l),some (.ref rl),x4,some (.ref tl),some (.ref gl),x7])/\Kp gl H H'/\Same B H'/\H' gl=some (.lst (((ts.take i).flatMap F).map .int))) ⟨⟨x7,rfl⟩,λc u e _=>e,C,y⟩ (λi f H' _ ⟨_,kp,_⟩=>SqL.of (kp _ _ x E)) (λi v f H' I ⟨⟨x7,m⟩,kp,j,d⟩=>?_) λf H' ⟨⟨x7,m⟩,kp,j,d⟩=>?_⟩
 .subst m;obtain⟨t,s,b,rfl,hb⟩:=al.get I;have J:b≠gl:=λz=>by rw[z,y]at hb;cases hb
  have hb:=kp _ _ hb J;have w:=O.more j1 j;refine⟨_,rfl,.inl ⟨rfl,_,SqL.of d⟩,_,rfl,a,rfl,.inr ⟨_,.inl w.r⟩,_,rfl,PQ _,λq2 g=>?_⟩;have h:=aw (o:=.lst []) g;refine⟨_,DGet.t (k:=k2 t) (h _ _ w.r) (h _ _ hb),?_⟩;obtain⟨pp,N,e1,e2,L⟩:=qk w g t;rw[isI L]at e2;rw[e1];have h1:=NW A (ts.take i);have h2:=A t;have h3:=QG i ts;have M:ts.take (i+1)=ts.take i++[t]:=by rw[P0,s];rfl
  refine⟨gl,pp,_,_,rfl,rfl,h _ _ d,e2,Re (jL (by simp;simp at h1;lia)),⟨_,rfl⟩,λc u e n=>?_,λc u e=>?_,?_⟩
  .rw[ai n];exact h _ _ (kp _ _ e n)
  .rw[ai λz=>by rw[z,G]at e;cases e];exact h _ _ (j _ _ e)
  .rw[ag,M,RU,Qo,Rm,List.flatMap_nil,QR]
 .subst m;rw[<- al.len,Qk]at d;exact k x7 H' kp j d
inductive sZ:Sp
 |mk {B0 H:Hp} {a p sl:Addr} {ks:List aE} {F:aE->List Int} {RA:aE->Addr} {room:Int} {aS U:List Int} {Q:VK} {E:XK} (O:Gr AJ B0 H a ks F RA) (hp:H p=some (.tup [.int room,.ref sl])) (hs:Rd H sl (.lst (aS.map .int))) (f:yH F U) (hr:room∈U) (hz:aS.length<1000) (k:∀l vs hs rooms H',Same H H'->H l=none->H' l=some (.lst vs)->aN (IsSet H') hs vs->kT F room aS rooms hs->Q (.ref l) H'):sZ [.ref a,.ref p] H Q E
def yf(h:sZ vs H Q E):vs.length=2:=by cases h;rfl
def MN(X:Cx):TS:=aZ (fQ (AX X) (au (fQ (AW X) (au (ao 6) aF)) aF)) (aA 3)
def MO(X:Cx):TS:=aJ (aZ (eJ aF) (aA 6)) (aJ (J_ X.K) (MN X))
def MP(X:Cx):TS:=aJ (cj (qZ X.K "list" jO (ao 2) (au (ao 5) aF))) (MO X)
def MQ(X:Cx)(scope:Scope)(tg b:Expr)(tN capN:List Str)(caps:List Nat):TS:=aJ (J6 X scope tg b tN capN caps 5 (ce X.K (ao 3))) (MP X)
def Ka:TE:=dc (au (ao 0) (au (ao 1) aF))
def MR(X:Cx)(scope:Scope)(tg b:Expr)(tN capN:List Str)(caps:List Nat):TS:=aJ (aZ (eJ aF) (aA 2)) (aJ (aZ (eJ (au (tI X.K 1 0) aF)) (aA 3)) (aJ (d4 (ce X.K (tI X.K 1 1)) (aA 4) (MQ X scope tg b tN capN caps)) (cO (ao 2))))
theorem AY{scope:Scope}{tg elt:Expr}{tN capN:List Str}{caps:List Nat}(h1:tN.length=1)(hc:caps=[4])(hg:∀cl C J j fp,PG (aV X scope (tN++capN) cl C J j fp) tg (aA 0)) (he:∀cl C J j fp,PE (aV X scope (tN++capN) cl C J j fp) elt Ka) (h:sZ vs H Q E):MR X scope tg elt tN capN caps {nx:=λ_ H'=>Q .bB H',rt:=Q} (br ["behind","standing","heads","rooms","sign","tops","gone","top"] vs) H:=by
 obtain @⟨B0,H,a,p,sl,ks,F,RA,room,aS,U,Q,E,O,hp,hs,f,hr,hz,k⟩:=h;refine⟨PQ _,λd hh=>?_⟩;have s1:=aw (o:=.lst []) hh;have L:upd H d (.lst []) d=some (.lst []):=ag;generalize upd H d (.lst [])=H1 at s1 L;refine Reads.ix (n:=0) (.va (i:=1) rfl) (s1 _ _ hp) (v:=.int room) rfl _ ⟨Re (jL (by show 1<15000000;decide)),λrl g=>?_⟩;have s2:=aw (o:=.lst [.int room]) g;have hr2:upd H1 rl (.lst [.int room]) rl=some (.lst ([room].map .int)):=ag;have nrl:H rl=none:=s1.free g;have M:d≠rl:=ax L g;generalize upd H1 rl (.lst [.int room])=H2 at s2 hr2;have N:=s1.trans s2;refine dC (Reads.ix (.va (i:=1) rfl) (N _ _ hp) (v:=.ref sl) rfl _ ⟨sl,rfl,⟨_,.inl (ba N hs)⟩,?_⟩);refine cf (K:=X.K) (a:=sl) (xs:=aS.map .int) (λi G H'=>∃rl b hs x,(∃x4 x5 x6 x7,G=[some (.ref a),some (.ref p),some (.ref d),some (.ref rl),x4,x5,x6,x7])/\Same H H'/\d≠rl/\H' d=some (.lst x)/\H' rl=some (.lst (b.map .int))/\aN (IsSet H') hs x/\kT F room (aS.take i) b hs) ⟨rl,[room],[],[],⟨none,none,none,none,rfl⟩,N,M,s2 _ _ L,hr2,.nil,.nil⟩ (λi G H' _ ⟨_,_,_,_,_,sm,_⟩=>.inl (ba sm hs)) (λi v G H' hi q=>?_) λG H' q=>?_
 .obtain⟨rl,b,P,x,⟨x4,x5,x6,x7,rfl⟩,sm,M,I,g,al,ow⟩:=q;rw[PR]at hi;obtain⟨s,es,rfl⟩:=QV.mp hi;obtain⟨f1,f2⟩:=ow.dX f hr;have et:aS.take (i+1)=aS.take i++[s]:=by rw[P0,es];rfl
  have lt:=QG i aS;refine⟨_,rfl,rl,rfl,⟨_,SqL.of g⟩,FC (te:=Ka) (ws:=λu=>[.int u,.int s]) (cap:=[some (.int s)]) h1 (by rw[hc];rfl) hg he (λu H5 R=>.t (.c (.va rfl) (.c (.va rfl) .ni)) rfl) (.inl g) (by lia) λtl tv j nD J S al3=>?_⟩;have ntl:H tl=none:=sm.free nD;have A:=J _ _ I;have nth:tl≠d:=λz=>by rw[z,I]at nD;cases nD
  have V:aN (IsSet j) (b.map λr=>(r,s)) tv:=by have:=al3.E4 (T:=IsSet j) (λu=>(u,s)) id λu v ⟨p,e,hp⟩=>⟨p,e,hp⟩;rw[List.map_id]at this;exact this
  refine⟨_,rfl,.inl ⟨rfl,_,SqL.of A⟩,_,rfl,d,tl,_,_,rfl,rfl,A,S,Re (jL (by rw[<- al.len,<- V.len];simp;lia)),PQ _,λgl m=>?_⟩;have k4:Kp d j (upd j d (.lst (x++tv))):=λc u e n=>by rw[ai n];exact e
  have kt4:KT j (upd j d (.lst (x++tv))):=.upd A λ_ z=>(nomatch z);have l:upd j d (.lst (x++tv)) d=some (.lst (x++tv)):=ag;have W:Same H (upd j d (.lst (x++tv))):=λc u e=>by rw[ai λz=>by rw[z,hh]at e;cases e];exact J _ _ (sm _ _ e)
  generalize upd j d (.lst (x++tv))=H4 at k4 kt4 l W m;have R:=aw (o:=.lst []) m;have Y:upd H4 gl (.lst []) gl=some (.lst []):=ag;have ngl:H gl=none:=W.free m;have ngt:tl≠gl:=λz=>by rw[<- z,k4 _ _ S nth]at m;cases m
  have ngh:d≠gl:=ax l m;generalize upd H4 gl (.lst [])=H5 at R Y;have Z:KT j H5:=kt4.trans (.of R);refine Ot (B:=H) O (W.trans R) (R _ _ (k4 _ _ S nth)) (V.mono (bj Z)) ngt ngl Y (by simp;lia) f.n rfl λx7 H6 kp6 sm6 hg6=>?_;have kt6:KT H5 H6:=λc w e=>kp6 _ _ e λz=>by rw[z,Y]at e;cases e
  have f3:=NW f.n (b.map λr=>(r,s));rw[Ps]at f3;refine Hm (X:=X) (.va (i:=6) rfl) (.inl hg6) (by lia) λrl' z H7 s7 nl7 hl7 so=>?_;have hh7:=s7 _ _ (kp6 _ _ (R _ _ l) ngh);refine⟨rl',z,P++b.map (λr=>(r,s)),x++tv,⟨_,_,_,_,rfl⟩,sm6.trans s7,(λy=>by rw[<- y,kp6 _ _ (R _ _ l) ngh]at nl7;cases nl7),hh7,hl7,((al.mono (bj ((KT.of J).trans (Z.trans (kt6.trans (.of s7)))))).app (V.mono (bj (Z.trans (kt6.trans (.of s7)))))),?_⟩;rw[et];exact .snoc ow (by rw[List.flatMap_map]at so;exact so)
 .obtain⟨rl,b,P,x,⟨x4,x5,x6,x7,rfl⟩,sm,M,I,g,al,ow⟩:=q;rw[Ps,Qk]at ow;exact⟨_,rfl,k d x P b H' sm hh I al ow⟩
end
inductive tL(Z:aE->List aE):Nat->List aE->List aE->List aE->Prop
 |done {n:Nat} {ks:List aE}:tL Z n ks [] ks
 |old {n:Nat} {ks bR ks':List aE} {h:aE} (hk:h∈ks) (r:tL Z n ks bR ks'):tL Z (n+1) ks (bR++[h]) ks'
 |new {n:Nat} {ks bR ks':List aE} {h:aE} (hk:h∉ks) (f1:bR.length+(Z h).length<100000) (f2:ks.length<1000) (r:tL Z n (ks++[h]) (bR++Z h) ks'):tL Z (n+1) ks (bR++[h]) ks'
structure Am(H:Hp) (d:Addr) (ks:List aE) (Z:aE->List aE) (AA:aE->Addr):Prop where
 r:H d=some (.dT (ks.map λk=>(k2 k,.ref (AA k))))
 v:∀k∈ks,∃vs,H (AA k)=some (.lst vs)/\aN (IsSet H) (Z k) vs
section
variable{K:Uy}{sP:Sp}{B0 B H H':Hp}{a a3 q p d dl:Addr}{ks ks3 ksF bR:List aE}{Z:aE->List aE}{RA LA AA:aE->Addr}{D:Ends}{σ:L2.St}{vs dv:List V}{Q:VK}{E:XK}
theorem Am.kp(h:Am H d ks Z AA)(k:Kp c H H')(kt:KT H H')(n:d≠c)(m:∀j∈ks,AA j≠c):Am H' d ks Z AA:=⟨k _ _ h.r n,λj b=>let ⟨vs,e,al⟩:=h.v j b;⟨vs,k _ _ e (m j b),al.mono (bj kt)⟩⟩
theorem Am.more(h:Am H d ks Z AA)(s:Same H H'):Am H' d ks Z AA:=⟨s _ _ h.r,λj b=>let ⟨vs,e,al⟩:=h.v j b;⟨vs,s _ _ e,al.mono (bj (.of s))⟩⟩
theorem Am.put(h:Am H d ks Z AA)(g:k∉ks)(f:H q=some (.lst ws))(al:aN (IsSet H) (Z k) ws):Am (upd H d (.dT ((ks.map λk=>(k2 k,V.ref (AA k)))++[(k2 k,.ref q)]))) d (ks++[k]) Z (hJ AA k q):=by
 have kt:KT H (upd H d (.dT ((ks.map λk=>(k2 k,V.ref (AA k)))++[(k2 k,.ref q)]))):=.upd h.r λ_ z=>(nomatch z);have ne:∀j∈ks,j≠k:=λj hj z=>g (z▸hj);have nl:∀{c b},H c=some (.lst b)->c≠d:=λe z=>by rw[z,h.r]at e;cases e
 refine⟨?_,λj hj=>?_⟩
 .rw[ag,Qo];congr 3
  .exact QL λj hj=>by rw[cz (ne j hj)]
  .show _=[(k2 k,V.ref (hJ AA k q k))];rw[cC]
 .rcases PP.mp hj with hj|hj
  .obtain⟨vs,e,al⟩:=h.v j hj;rw[cz (ne j hj)];exact⟨vs,by rw[ai (nl e)];exact e,al.mono (bj kt)⟩
  .rw[Py.mp hj,cC];exact⟨ws,by rw[ai (nl f)];exact f,al.mono (bj kt)⟩
def MS(K:Uy):TS:=cj (qZ K "list" jO (ao 5) (au (eU (ao 4) (ao 6)) aF))
def Kb(K:Uy):TS:=dD (bQ (bv (rQ true) (ao 6) (ao 4))) (aJ (lW (ao 4) (ao 6) (dI (ao 3) (ao 6) (eJ aF))) (MS K)) cb
def Kc(K:Uy):TS:=aJ (aZ (wY K "list" Gn (ao 5)) (aA 6)) (Kb K)
def D_(K:Uy)(t:TE):TT:=λσ H Q=>t σ H λx H'=>∃k,Gg K x H' k/\Q k H'
def Kd(K:Uy):TS:=lP (D_ K (ao 5)) (Kc K)
structure Iy(B H:Hp) (d dl:Addr) (ks bR:List aE) (Z:aE->List aE) (AA:aE->Addr):Prop where
 a:Am H d ks Z AA
 s:Same B H
 n:∀j∈ks,AA j≠dl
 l:∃dv,H dl=some (.lst dv)/\aN (IsSet H) bR dv
def nY(v0 b c:V)(a3 d dl:Addr)(x6:Option V):L2.St:=[some v0,some b,some c,some (.ref a3),some (.ref d),some (.ref dl),x6]
def u6:cZ (ks.map λk=>(k2 k,V.ref (AA k))) (k2 k)=if k∈ks then some (.ref (AA k))else none:=gf
theorem Ou{v0 i l:V}{x6:Option V}(O:Gr IsSet B0 B a3 ks3 Z LA)(nd:B d=none)(nl:B dl=none)(S:Iy B H d dl ks bR Z AA)(lp:tL Z n ks bR ksF)(hs:σ=nY v0 i l a3 d dl x6)(k:∀x6 AA H',Iy B H' d dl ksF [] Z AA->D.nx (nY v0 i l a3 d dl x6) H'):Kd K D σ H:=by
 subst hs;refine⟨λm σ H=>∃x6 ks bR AA,σ=nY v0 i l a3 d dl x6/\Iy B H d dl ks bR Z AA/\tL Z m ks bR ksF,⟨n,x6,ks,bR,AA,rfl,S,lp⟩,?_⟩;clear S lp;rintro m σ H ⟨x6,ks,bR,AA,rfl,⟨A,sm,nn,dv,g,al⟩,lp⟩;refine⟨_,rfl,_,.inl ⟨_,SqL.of g,rfl⟩,?_⟩;have step:∀{bR h},aN (IsSet H) (bR++[h]) dv->(∃N:L2.St->Hp->Prop,(∀b H1,IsSet H1 h (.ref b)->∀zs,H1 dl=some (.lst zs)->aN (IsSet H1) bR zs->Am H1 d ks Z AA->Same B H1->Kb K {D with nx:=N,ct:=N,bk:=D.nx} (nY v0 i l a3 d dl (some (.ref b))) H1)/\∀f H',N f H'->∃L,L<m/\∃x6 ks bR AA,f=nY v0 i l a3 d dl x6/\Iy B H' d dl ks bR Z AA/\tL Z L ks bR ksF)->if(!dv.isEmpty)=true then ∃N:L2.St->Hp->Prop,(∀f H',N f H'->∃L,L<m/\∃x6 ks bR AA,f=nY v0 i l a3 d dl x6/\Iy B H' d dl ks bR Z AA/\tL Z L ks bR ksF)/\Kc K {D with nx:=N,ct:=N,bk:=D.nx} (nY v0 i l a3 d dl x6) H else D.nx (nY v0 i l a3 d dl x6) H:=λ{bR h} al ⟨N,h1,h2⟩=>by
  obtain⟨zs,_,rfl,al',b,rfl,hb⟩:=al.BV;rw[PN (by simp)];refine⟨N,h2,_,rfl,.inl ⟨rfl,_,SqL.of g⟩,dl,zs++[.ref b],.ref b,rfl,rfl,g,by simp,?_⟩;rw[List.dropLast_concat];have kt:KT H (upd H dl (.lst zs)):=.upd g λ_ z=>(nomatch z);have kp:Kp dl H (upd H dl (.lst zs)):=λc u e n=>by rw[ai n];exact e
  exact h1 b _ ⟨b,rfl,kt _ _ hb⟩ zs ag (al'.mono (bj kt)) (A.kp kp kt (λz=>by rw[<- z,A.r]at g;cases g) nn) λc u e=>by rw[ai λz=>by rw[z,nl]at e;cases e];exact sm _ _ e
 cases lp with
 |done=>cases al;exact d6 (k x6 AA H ⟨A,sm,nn,[],g,.nil⟩)
 |@old m _ bR _ h J lp=>refine step al ⟨λf H'=>∃x6,f=nY v0 i l a3 d dl x6/\Iy B H' d dl ks bR Z AA,λb H1 ⟨b',e,hb⟩ zs hz F M s1=>?_,λf H' ⟨x6,e,s⟩=>⟨m,Rt _,x6,ks,bR,AA,e,s,lp⟩⟩;cases e;refine⟨_,rfl,_,rfl,d,_,rfl,.inl (DGet.t (k:=k2 h) M.r hb),⟨_,rfl,?_⟩⟩;rw[u6,PN J];exact d6 ⟨_,rfl,M,s1,nn,zs,hz,F⟩
 |@new m _ bR _ h J f1 f2 lp=>
  refine step al ⟨λf H'=>∃x6 AA,f=nY v0 i l a3 d dl x6/\Iy B H' d dl (ks++[h]) (bR++Z h) Z AA,λb H1 ⟨b',e,hb⟩ zs hz F M s1=>?_,λf H' ⟨x6,AA,e,s⟩=>⟨m,Rt _,x6,_,_,AA,e,s,lp⟩⟩;cases e;refine⟨_,rfl,_,rfl,d,_,rfl,.inl (DGet.t (k:=k2 h) M.r hb),⟨_,rfl,?_⟩⟩;rw[u6,PK J];have O1:=O.more bj s1;refine hI ⟨_,rfl,a3,rfl,.inr ⟨_,.inl O1.r⟩,_,rfl,PQ _,λq2 w=>?_⟩;have C:=aw (o:=.lst []) w;refine⟨_,DGet.t (k:=k2 h) (C _ _ O1.r) (C _ _ hb),?_⟩;obtain⟨pp,ov,e1,e2,e3⟩:=qk O1 w h;have np:pp≠dl:=λz=>by
   rw[gf]at e1;by_cases m:h∈ks3
   .rw[PN m]at e1;cases e1;obtain⟨_,vs,e,_⟩:=O.v h m;rw[z,nl]at e;cases e
   .rw[PK m]at e1;cases e1;rw[z,hz]at w;cases w
  rw[e1];have P:=M.more C;have e3:=e3.mono (bj (.of C));have G:=C _ _ hb;have x:=C _ _ hz;have al2:=F.mono (bj (.of C));have s2:=s1.trans C;generalize upd H1 q2 (.lst [])=R at e2 P e3 G x al2 s2;have A3:=P.put J e2 e3;have T:dl≠d:=λz=>by rw[z,P.r]at x;cases x
  have kt:KT R (upd R d (.dT ((ks.map λk=>(k2 k,V.ref (AA k)))++[(k2 h,.ref pp)]))):=.upd P.r λ_ z=>(nomatch z);refine⟨_,rfl,_,rfl,d,_,rfl,DPut.t P.r (k:=k2 h) G (jL (by rw[Ps];lia)),?_⟩;rw[dH _ (by rw[u6,PK J])];have U:Same B (upd R d (.dT ((ks.map λk=>(k2 k,V.ref (AA k)))++[(k2 h,.ref pp)]))):=λc u e=>by rw[ai λz=>by rw[z,nd]at e;cases e];exact s2 _ _ e
  have y:upd R d (.dT ((ks.map λk=>(k2 k,V.ref (AA k)))++[(k2 h,.ref pp)])) dl=some (.lst zs):=by rw[ai T];exact x
  have W:=kt _ _ G;have al3:=al2.mono (bj kt);generalize upd R d (.dT ((ks.map λk=>(k2 k,V.ref (AA k)))++[(k2 h,.ref pp)]))=H3 at A3 kt U y W al3;have mh:h∈ks++[h]:=Qs _ Pu;obtain⟨ws,e5,X⟩:=A3.v h mh;refine⟨_,rfl,.inl ⟨rfl,_,SqL.of y⟩,Reads.Ig (v:=.bB) (.va rfl) (.va rfl) (.inl A3.r) mh W _ ⟨dl,_,_,_,rfl,rfl,y,e5,Re (jL (by rw[<- al3.len,<- X.len];lia)),_,hJ AA h pp,rfl,?_⟩⟩;have I:KT H3 (upd H3 dl (.lst (zs++ws))):=.upd y λ_ z=>(nomatch z);have Y:∀j∈ks++[h],hJ AA h pp j≠dl:=λj hj=>by
   rcases PP.mp hj with hj|hj
   .rw[cz λz:j=h=>J (z▸hj)];exact nn j hj
   .rw[Py.mp hj,cC];exact np
  exact⟨A3.kp (c:=dl) (λc u e n=>by rw[ai n];exact e) I (QQ T) Y,λc u e=>by rw[ai λz=>by rw[z,nl]at e;cases e];exact U _ _ e,Y,_,ag,(al3.mono (bj I)).app (X.mono (bj I))⟩
structure BX(sP:Sp) (H:Hp) (RL:List Sp.Rule) (As:List Sp.Arr) (p sp q:Addr) (room:Int) (aS:List Int):Prop where
 h:∃l ws,dk H RL p l ws
 i:J0 sP H (.ref p) As
 a:As.length<1000
 n:RL.length<1000
 f:IM (de (bK (bc As)) RL)
 u:∃U,yH (bc As) U/\room∈U
 p:H sp=some (.tup [.int room,.ref q])/\Rd H q (.lst (aS.map .int))
 z:aS.length<1000
structure o9(RL:List Sp.Rule) (As:List Sp.Arr) (room:Int) (aS:List Int) (Z:aE->List aE) (ks:List aE):Prop where
 s:∀k,ko (de (bK (bc As)) RL k) (Z k)
 l:∃hs rooms n,kT (bc As) room aS rooms hs/\tL Z n [] hs ks
def yg(RL:List Sp.Rule)(As:List Sp.Arr)(c:Int)(aS:List Int):Prop:=∀Z hs b,(∀k,ko (de (bK (bc As)) RL k) (Z k))->kT (bc As) c aS b hs->∃n ks,tL Z n [] hs ks
inductive vp(sP:Sp):Sp
 |mk {H:Hp} {RL:List Sp.Rule} {As:List Sp.Arr} {p sp q:Addr} {room:Int} {aS:List Int} {Q:VK} {E:XK} (i:BX sP H RL As p sp q room aS) (ok:yg RL As room aS) (k:∀d Z AA ks H',Same H H'->H d=none->Am H' d ks Z AA->o9 RL As room aS Z ks->Q (.ref d) H'):vp sP [.ref p,.ref sp] H Q E
def AZ(h:vp sP vs H Q E):vs.length=2:=by cases h;rfl
def MT(K:Uy):TS:=aJ (aZ (bO sZ [] E0 (au (ao 2) (au (ao 1) aF))) (aA 5)) (aJ (Kd K) (cO (ao 4)))
def Ov(K:Uy)(sP:Sp):TS:=aJ (aZ (bO (yw sP) [] E0 (au (ao 0) aF)) (aA 2)) (aJ (aZ (bO yM [] E0 (au (ao 0) (au (ao 2) aF))) (aA 3)) (aJ (aZ eL (aA 4)) (MT K)))
theorem Ea(h:vp sP vs H Q E):Ov K sP {nx:=λ_ H'=>Q .bB H',rt:=Q} (br ["house","standing","behind","leading","among","due","head"] vs) H:=by obtain @⟨H,RL,As,p,sp,q,room,aS,Q,E,⟨⟨l,ws,h⟩,hP,ha,hl,dX,⟨U,fu,hr⟩,⟨hp,hq⟩,hz⟩,ok,k⟩:=h;refine⟨_,rfl,.mk hP (by lia) λa ks RA H1 O=>⟨_,rfl,_,rfl,.mk (h.same O.s) O (λk=>by have:=jE As k;lia) hl dX λa3 Z LA t g d hd=>?_⟩⟩;have i:=aw (o:=.dT []) hd;have c:upd t d (.dT []) d=some (.dT []):=ag;generalize upd t d (.dT [])=y at i c;have e:=g.g.s.trans i;have f:=O.s.trans e;refine⟨_,rfl,_,rfl,.mk (O.more j1 e) (f _ _ hp) (ba f hq) fu hr hz λdl dv hs b z u m r al ow=>?_⟩;obtain⟨n,ksF,lp⟩:=ok Z hs b g.s ow;exact Ou (x6:=none) (ks:=[]) (AA:=λ_=>0) g.g hd (i.free m) ⟨⟨u _ _ c,λk v=>(nomatch v)⟩,i.trans u,λj w=>(nomatch w),dv,r,al⟩ lp rfl λx6 AA x S=>⟨_,rfl,k d Z AA ksF x (O.s.trans (g.g.s.trans S.s)) (O.s.free (g.g.s.free hd)) S.a ⟨g.s,hs,b,n,ow,lp⟩⟩
theorem Eb(h:Reads ta σ H (.ref d))(s:Rd H d (.dT (ks.map λk=>(k2 k,V.ref (LA k)))))(hz:ks.length<=63)
 (t:∀l c vs H',Same H H'->H l=none->H' l=some (.lst vs)->aN (IsSet H') c vs->(∀k,k∈c↔k∈ks)->c.length=ks.length->Q (.ref l) H'):fQ AT (au ta aF) σ H Q:=by
 refine h _ ⟨d,_,ks.map pL,rfl,s,by rw[QC,QC];rfl,λk g=>?_,by rw[Ps];exact hz,λl f r u hm j pw=>?_⟩
 .obtain⟨x,_,rfl⟩:=Pt.mp g;exact λz=>nomatch z
 .have m:∀f:List (List Int×Addr),(∀y∈f,H y.2=some (.tup ((iK y.1).map kV)))->(∀k∈f.map (·.1),k∈ks.map pL)->∃c:List aE,c.map pL=f.map (·.1)/\aN (IsSet H) c (f.map λy=>.ref y.2):=λf=>by
   induction f with
   |nil=>exact λ_ _=>⟨[],rfl,.nil⟩
   |cons y f v=>intro a b;obtain⟨c,e1,n⟩:=v (λz hz=>a z (Pw _ hz)) (λk g=>b k (by rw[PU];exact Pw _ g));obtain⟨x,i,e⟩:=Pt.mp (b y.1 (by rw[PU];exact Pu));exact⟨x::c,by rw[PU,PU,e1,e],.cons ⟨y.2,rfl,by rw[a y Pu,<- e];rfl⟩ n⟩
  obtain⟨c,e1,n⟩:=m f u λk g=>(hm k).mp g;have s1:=aw (o:=.lst (f.map λy=>V.ref y.2)) r;have ln:c.length=ks.length:=by have:=Q1 List.length e1;rw[Ps,Ps,j,Ps]at this;exact this
  refine t l c _ _ s1 r ag (n.mono (bj (.of s1))) (λk=>⟨λg=>?_,λg=>?_⟩) ln
  .have:pL k∈f.map (·.1):=by rw[<- e1];exact Pt.mpr ⟨k,g,rfl⟩
   obtain⟨x,i,e⟩:=Pt.mp ((hm _).mp this);rw[<- qj e];exact i
  .have:pL k∈c.map pL:=by rw[e1];exact(hm _).mpr (Pt.mpr ⟨k,g,rfl⟩)
   obtain⟨x,i,e⟩:=Pt.mp this;rw[<- qj e];exact i
inductive Ce(sP:Sp):Sp
 |mk {H:Hp} {RL:List Sp.Rule} {As:List Sp.Arr} {p sp q:Addr} {room:Int} {aS:List Int} {Q:VK} {E:XK} (i:BX sP H RL As p sp q room aS) (ok:yg RL As room aS) (dX:∀Z ks,o9 RL As room aS Z ks->ks.length<=63) (k:∀l vs Z ks ks2 H',Same H H'->H l=none->H' l=some (.lst vs)->aN (IsSet H') ks2 vs->(∀x,x∈ks2↔x∈ks)->ks2.length=ks.length->o9 RL As room aS Z ks->Q (.ref l) H'):Ce sP [.ref p,.ref sp] H Q E
def A4(h:Ce sP vs H Q E):vs.length=2:=by cases h;rfl
def Ow(sP:Sp):TS:=cO (fQ AT (au (bO (vp sP) [] E0 (au (ao 0) (au (ao 1) aF))) aF))
theorem Ec(h:Ce sP vs H Q E):Ow sP {nx:=λ_ H'=>Q .bB H',rt:=Q} (br ["house","standing"] vs) H:=by obtain @⟨H,RL,As,p,sp,q,room,aS,Q,E,i,ok,dX,k⟩:=h;exact⟨_,rfl,_,rfl,.mk i ok λd Z AA ks H1 s1 nd A g=>Eb (ta:=tC (.ref d)) (σ:=[]) .k (.inl A.r) (dX Z ks g) λl b vs c s2 nl e al m z=>k l vs Z ks b c (s1.trans s2) (s1.free nl) e al m z g⟩
end
section
variable{H H':Hp}{a q p d tl:Addr}{ks es:List aE}{f:aE->V}{σ:L2.St}{vs tv:List V}{v:V}{k:aE}{Q:VK}
def j5:cZ (ks.map λk=>(k2 k,f k)) (k2 k)=if k∈ks then some (f k)else none:=by
 induction ks with
 |nil=>rfl
 |cons x r b=>
  rw[PU];by_cases h:x=k
  .rw[fC (by rw[h]),PN (by rw[h];exact Pu),h]
  .rw[fD λz=>h (iO _ _ z),b];simp[QQ h]
def Ke(b:k∈ks):cg (ks.map λk=>(k2 k,f k)) (k2 k) v=ks.map λj=>(k2 j,hJ f k v j):=by
 unfold cg;rw[PN,QC]
 .refine QL λj _=>?_;show(if k2 j=k2 k then(k2 j,v)else(k2 j,f j))=_;by_cases e:j=k
  .rw[PN (by rw[e]),e,cC]
  .rw[PK λz=>e (iO _ _ z),cz e]
 .rw[List.any_map,List.any_eq_true];exact⟨k,b,P3 rfl⟩
theorem A6:∀(ks b:List aE),(b++ks).Nodup->eQ (b.map λk=>(k2 k,f k)) (ks.map λk=>(k2 k,f k))=(b++ks).map λk=>(k2 k,f k):=by
 intro ks;induction ks with
 |nil=>intro b _;rw[QR];rfl
 |cons k ks c=>intro b nd;have nk:k∉b:=λz=>(Qj.mp nd).2.2 k z k Pu rfl;have:=c (b++[k]) (by rw[Qm];exact nd);rw[Qm,Qo]at this;show eQ (cg _ (k2 k) (f k)) _=_;rw[dH _ (by rw[j5,PK nk])];exact this
theorem Reads.tz(ha:Reads ta σ H (.ref a))(hb:Reads tb σ H (.ref b))(c:Rd H a (.dT (ks.map λk=>(k2 k,f k))))(g:k∈ks)(e:H b=some (.tup ((k2 k).map kV))):Reads (eU ta tb) σ H (f k):=λQ q=>ha _ (hb _ ⟨a,_,rfl,.inr ⟨_,k2 k,b,c,rfl,e,by rw[j5,PN g]⟩,q⟩)
def Pk(H:Hp)(w:V)(k:aE)(v:V):Prop:=∃p b,v=.ref p/\H p=some (.tup [.ref b,w])/\H b=some (.tup ((k2 k).map kV))
theorem Pk.keep(kt:KT H H')(h:Pk H w k v):Pk H' w k v:=let ⟨p,b,e,e1,e2⟩:=h;⟨p,b,e,kt _ _ e1,kt _ _ e2⟩
theorem A7(h:aN (λk v=>Pk H (f k) k v) ks vs):i6 H vs (ks.map λk=>(k2 k,f k)):=by
 induction h with
 |nil=>exact .nil
 |cons h _ c=>obtain⟨p,b,e,g,t2⟩:=h;exact .cons ⟨p,b,e,g,t2⟩ c
def sC(b:H Dl=some (.lst vs))(al:aN (λk v=>Pk H (f k) k v) ks vs)(nd:ks.Nodup)(c:∀p,H p=none->Q (.ref p) (upd H p (.dT (ks.map λk=>(k2 k,f k))))):jF [.ref Dl] H Q:=by have e:=A6 (f:=f) ks [] nd;rw[RO,Sx]at e;refine⟨Dl,vs,_,rfl,.inl b,A7 al,?_⟩;rw[e];exact c
inductive B9:Sp
 |mk {H:Hp} {tl:Addr} {tv:List V} {es:List aE} {Q:VK} {E:XK} (hl:Rd H tl (.lst tv)) (al:aN (IsSet H) es tv) (nd:es.Nodup) (hz:es.length<1000) (k:∀d H',Same H H'->H d=none->H' d=some (.dT (es.map λk=>(k2 k,V.bl true)))->Q (.ref d) H'):B9 [.ref tl] H Q E
def A_(h:B9 vs H Q E):vs.length=1:=by cases h;rfl
def MU:TE:=dc (au (ao 0) (au (tC (.bl true)) aF))
def Ox(X:Cx)(scope:Scope)(tg b:Expr)(tN:List Str):TS:=cO (fQ jF (au (iH X scope tg tN [] [] b [] (ce X.K (ao 0))) aF))
theorem Ed(h1:tN.length=1)(K:∀cl C x y fp,PG (aV X scope (tN++[]) cl C x y fp) tg (aA 0)) (L:∀cl C x y fp,PE (aV X scope (tN++[]) cl C x y fp) elt MU) (h:B9 vs H Q E):Ox X scope tg elt tN {nx:=λ_ H'=>Q .bB H',rt:=Q} (br ["things"] vs) H:=by
 obtain @⟨H,tl,tv,es,Q,E,hl,al,nd,hz,k⟩:=h;have ln:=al.len;refine⟨_,rfl,tl,rfl,⟨_,.inl hl⟩,?_⟩;refine jG (n:=es.length) K (λ_ _ _ _ _=>fU) L (λm i g H'=>Same H H'/\H' m=some (.lst g)/\aN (λk v=>Pk H' (.bl true) k v) (es.take i) g/\H m=none) (λm s=>⟨aw s,ag,.nil,s⟩) (λh=>h.2.1) (λm i g H' ⟨l,_⟩ M=>⟨tv,tv[i]'(by lia),.inl (ba l hl),Px _⟩) (λm g H' ⟨l,_⟩=>⟨tv,.inl (ba l hl),by lia⟩) (λm i g H' O r o M ⟨l,s,w,F⟩ A G=>?_) λm g H' s ⟨l,B,w,_⟩=>?_
 .obtain⟨rfl,A⟩:=A;have N:=A _ (.inl (ba l hl));obtain⟨t,D,b,rfl,hb⟩:=al.get N;rw[h1]at G;obtain⟨P,rfl⟩:=RC.mp G;refine⟨λj I=>?_,hI (nX (ws:=[.ref b,.bl true]) (.c (.va rfl) (.c .k .ni)) rfl λp J=>?_)⟩
  .rw[h1]at I;obtain⟨j,rfl⟩:=QJ I;rfl
  .have np:m≠p:=ax s J;have s2:Same r (upd r p (.tup [.ref b,.bl true])):=aw J;have k3:KT r (upd (upd r p (.tup [.ref b,.bl true])) m (.lst (g++[.ref p]))):=(KT.of s2).trans (.upd (s2 _ _ s) λ_ z=>(nomatch z));refine⟨s2 _ _ s,jL (by rw[<- w.len,QN];lia),λc u e=>?_,ag,?_,F⟩
   .rw[ai (ax e F)];exact s2 _ _ (l _ _ e)
   .rw[P0,D];exact(w.mono λk v h=>h.keep k3).snoc ⟨p,b,rfl,by rw[ai (QQ np),ag],k3 _ _ (l _ _ hb)⟩
 .rw[Qk]at w;exact sC B w nd λd hd=>k d _ (l.trans (aw hd)) (l.free hd) ag
end
def lr(Z:aE->List aE)(k:aE):Int:=((Z k).length:Nat)
def h8(Z:aE->List aE)(ks:List aE):List (aE×aE):=ks.flatMap λh=>(Z h).map λo=>(h,o)
def gy(es:List (aE×aE))(k:aE):List aE:=(es.filter λe=>decide (e.2=k)).map (·.1)
def Ba(es:List (aE×aE))(e:aE×aE):gy (es++[e])=hJ (gy es) e.2 (gy es e.2++[e.1]):=by
 funext k;unfold gy hJ;by_cases h:k=e.2
 .rw[PN h,h,QK];simp
 .rw[PK h,QK];simp[QQ h]
def wu(es:List (aE×aE))(k:aE):(gy es k).length<=es.length:=by unfold gy;rw[Ps];exact Rv ..
def sD(Z:aE->List aE)(ks:List aE)(k:aE):h8 Z (ks++[k])=h8 Z ks++(Z k).map λo=>(k,o):=by unfold h8;rw[RU];simp
def wv(h:∀k,(Z k).length<=63)(ks:List aE):(h8 Z ks).length<=63*ks.length:=by
 unfold h8;induction ks with
 |nil=>exact Pq _
 |cons x l a=>have:=h x;rw[Rm,PJ,P8,Ps];lia
section
variable{X:Cx}{K:Uy}{B H H':Hp}{a am q p l bd:Addr}{ks bks:List aE}{Z F:aE->List aE}{AA BA:aE->Addr}{f:aE->V}{D:Ends}{σ:L2.St}{vs tv:List V}{k:aE}{Q:VK}
def ja(e:H am=some u)(s:Same (upd H am (.bP o u)) H1):Same H (upd H1 am u):=λc w h=>by
 by_cases z:c=am
 .rw[z,ag,<- e,<- z];exact h
 .rw[ai z];exact s _ _ (by rw[ai z];exact h)
def FG(K:Uy):TE:=dc (au (ao 0) (au (fQ (fX K) (au (ao 1) aF)) aF))
def Kf(X:Cx)(scope:Scope)(tg b:Expr)(tN:List Str):TS:=λD σ H=>aZ (fQ jF (au (iH X scope tg tN [] [] b [] (zX X (ao 0))) aF)) (aA 1) (Gu X D) σ H
theorem Oy(h1:tN.length=2)(Y:∀cl C w P fp,PG (aV X scope (tN++[]) cl C w P fp) tg (dZ X.K 2 (aW (aA 0) (aW (aA 1) dY))))(he:∀cl C w P fp,PE (aV X scope (tN++[]) cl C w P fp) elt (FG X.K))
 (A:Am H am ks Z AA) (nd:ks.Nodup) (hz:ks.length<1000) (h0:σ[0]?=some (some (.ref am))) (k:∀l H',Same H H'->H l=none->H' l=some (.dT (ks.map λk=>(k2 k,V.int (lr Z k))))->D.nx (σ.set 1 (some (.ref l))) H'):Kf X scope tg elt tN D σ H:=by
 refine⟨_,h0,am,_,_,rfl,.inl rfl,.inr ⟨A.r,λo ho=>?_⟩⟩;have kt:KT H (upd H am (.bP o (.dT (ks.map λk=>(k2 k,V.ref (AA k)))))):=.upd A.r λ_ z=>(nomatch z);have I:upd H am (.bP o (.dT (ks.map λk=>(k2 k,V.ref (AA k))))) am=some (.bP o (.dT (ks.map λk=>(k2 k,V.ref (AA k))))):=ag;have kp:Kp am H (upd H am (.bP o (.dT (ks.map λk=>(k2 k,V.ref (AA k)))))):=λc u e n=>by rw[ai n];exact e
 have back:∀{H1},Same (upd H am (.bP o (.dT (ks.map λk=>(k2 k,V.ref (AA k)))))) H1->Same H (upd H1 am (.dT (ks.map λk=>(k2 k,V.ref (AA k))))):=λs=>ja A.r s;generalize upd H am (.bP o (.dT (ks.map λk=>(k2 k,V.ref (AA k)))))=H1 at kt I kp back;refine jG (n:=ks.length) Y (λ_ _ _ _ _=>fU) he (λm i d H'=>Same H1 H'/\H' m=some (.lst d)/\aN (λk v=>Pk H' (.int (lr Z k)) k v) (ks.take i) d/\H1 m=none) (λm J=>⟨aw J,ag,.nil,J⟩) (λh=>h.2.1) (λm i d H' ⟨g,_⟩ R=>⟨g _ _ I,by rw[Ps];exact R⟩) (λm d H' ⟨g,_⟩=>⟨g _ _ I,by rw[Ps];exact Pq _⟩) (λm i d H' xv H'' T R ⟨g,J,L,U⟩ y M=>?_) λm d H' J ⟨g,S,L,_⟩=>?_
 .obtain⟨p,b,kk,v,hp,rfl,hb,rfl,e⟩:=y;have N:ks[i]?=some ks[i]:=Px R;rw[PR,N]at e;generalize ks[i]=ki at N e;cases e;rw[h1]at M;obtain⟨u0,u1,rfl⟩ : ∃x y,T=[x,y]:=by
   match T,M with
   |[x,y],_=>exact⟨x,y,rfl⟩
  obtain⟨ws,e1,al⟩:=A.v ki (PY N);have s2:Same H' (upd H' p (.tup [.ref b,.ref (AA ki)])):=aw hp;have ea:=s2 _ _ (g _ _ (kp _ _ e1 λz=>by rw[z,A.r]at e1;cases e1));refine yR ag ⟨λj W=>?_,hI (nX (ws:=[.ref b,.int ws.length]) (.c (.va rfl) (.c (.B5 (.va rfl) (.inl ea)) .ni)) rfl λp2 E=>?_)⟩
  .rw[h1]at W;obtain⟨j,rfl⟩:=QJ W;rfl
  .have t:=s2 _ _ J;generalize upd H' p (.tup [.ref b,.ref (AA ki)])=O at s2 E t;have np:m≠p2:=ax t E;have w:Same O (upd O p2 (.tup [.ref b,.int ws.length])):=aw E;have k3:KT O (upd (upd O p2 (.tup [.ref b,.int ws.length])) m (.lst (d++[.ref p2]))):=(KT.of w).trans (.upd (w _ _ t) λ_ z=>(nomatch z));refine⟨w _ _ t,jL (by rw[<- L.len,QN];lia),λc u e=>?_,ag,?_,U⟩
   .rw[ai (ax e U)];exact w _ _ (s2 _ _ (g _ _ e))
   .rw[P0,N];refine(L.mono λk v h=>h.keep ((KT.of s2).trans k3)).snoc ⟨p2,b,rfl,?_,k3 _ _ (s2 _ _ hb)⟩;rw[ai (QQ np),ag];unfold lr;rw[al.len]
 .rw[Qk]at L;refine(sC (Q:=λx H1=>aA 1 x σ H1 (Gu X D).nx) (f:=λk=>.int (lr Z k)) S L nd λl G=>.inr ⟨am,o,_,aw G _ _ (g _ _ I),True.intro,ho,?_⟩ : jF [V.ref m] H' _);have s4:=g.trans (aw (o:=.dT (ks.map λk=>(k2 k,V.int (lr Z k)))) G);have nl:l≠am:=λz=>by rw[z,g _ _ I]at G;cases G
  have sB:=back s4;refine k l _ sB ?_ (by rw[ai nl,ag]);cases e:H l with
  |none=>rfl
  |some u=>rw[g _ _ (kp _ _ e nl)]at G;cases G
theorem Ho(h:Gr IsSet B H bd bks F BA)(hz:bks.length<15000000)(m:σ[i]?=some (some (.ref bd)))(o:Reads tk σ H (.ref b))(hb:H b=some (.tup ((k2 k).map kV)))
 (d:∀H' g,Kp bd H H'->KT H H'->Gr IsSet B H' bd (hV bks k) F g->k∈hV bks k->Q (.ref (g k)) H'):JW K i tk σ H Q:=by
 refine⟨_,m,.inr (.inr (.inl ⟨rfl,.inr ⟨_,h.r⟩⟩)),o _ ⟨PQ _,λq j=>?_⟩⟩;have s2:Same H (upd H q (.lst [])):=aw j;refine⟨bd,b,k2 k,.ref q,_,rfl,rfl,s2 _ _ hb,.inl (s2 _ _ h.r),jL (by rw[Ps];exact hz),?_⟩;rw[gf];unfold hV at d;by_cases e:k∈bks
 .rw[PN e]at d ⊢;exact .inl ⟨_,rfl,d _ _ (.of s2) (.of s2) (h.more bj s2) e⟩
 .rw[PK e]at d ⊢;refine .inr ⟨rfl,?_⟩;rw[dH _ (by rw[gf,PK e])];have:=d _ _ (λc u e n=>by rw[ai n];exact s2 _ _ e) ((KT.of s2).trans (.upd (s2 _ _ h.r) λ_ z=>(nomatch z))) (h.new bj e j) (Qs _ Pu);rw[cC]at this;exact this
def Kg(K:Uy):TS:=d4 (ce K (ao 4)) (aA 5) (cj (qZ K "list" dG (JW K 2 (ao 5)) (au (ao 3) aF)))
def yh(am l bd:Addr)(x3 x4 x5:Option V):L2.St:=[some (.ref am),some (.ref l),some (.ref bd),x3,x4,x5,none,none,none]
theorem Oz(G:Gr IsSet B H bd bks (gy es) BA)(g:bks.length<=es.length)(hz:es.length+zs.length<1000000)(y:B al=some (.lst tv))(n:aN (IsSet B) zs tv)(h:H hb=some (.tup ((k2 ki).map kV)))(hs:σ=yh am l bd (some (.ref hb)) (some (.ref al)) x5)
 (k:∀x5 H' c d,Gr IsSet B H' bd c (gy (es++zs.map λo=>(ki,o))) d->c.length<=es.length+zs.length->D.nx (yh am l bd (some (.ref hb)) (some (.ref al)) x5) H'):Kg K D σ H:=by
 subst hs;refine⟨_,rfl,al,rfl,⟨tv,SqL.of (G.s _ _ y)⟩,cf (K:=K) (a:=al) (xs:=tv) (λi e H'=>∃x5 c d,e=yh am l bd (some (.ref hb)) (some (.ref al)) x5/\Gr IsSet B H' bd c (gy (es++(zs.take i).map λo=>(ki,o))) d/\c.length<=es.length+i/\H' hb=some (.tup ((k2 ki).map kV))) ⟨x5,bks,BA,rfl,(by rw[List.take_zero,RO,QR];exact G),g,h⟩ (λi e H' _ ⟨_,_,_,_,G,_⟩=>SqL.of (G.s _ _ y)) (λi v e H' C ⟨x5,c,d,r,G,g,h⟩=>?_) λe H' ⟨x5,c,d,r,G,g,h⟩=>?_⟩
 .subst r;obtain⟨t,j,b,rfl,u⟩:=n.get C;have E:=(PF.mp j).1;have bl:=wu (es++(zs.take i).map λo=>(ki,o)) t;rw[PJ,Ps,QN]at bl;refine Ho (i:=2) (k:=t) (b:=b) G (by lia) rfl (.va rfl) (G.s _ _ u) λH1 w kp kt A m=>?_;obtain⟨n1,ws,e1,x⟩:=A.v t m;refine⟨.inl ⟨rfl,_,SqL.of e1⟩,_,rfl,_,_,_,rfl,rfl,e1,jL (by rw[<- x.len];lia),_,hV c t,w,rfl,?_,(by have:=m5 c t;lia),KT.upd e1 (λ_ z=>(nomatch z)) _ _ (kt _ _ h)⟩;have:=A.ext bj m e1 (zs:=[ki]) (ws:=[.ref hb]) (.cons ⟨hb,rfl,kt _ _ h⟩ .nil);have e2:es++(zs.take (i+1)).map (λo=>(ki,o))=(es++(zs.take i).map λo=>(ki,o))++[(ki,t)]:=by rw[P0,j,Qo,Qm];rfl
  rw[e2,Ba];exact this
 .subst r;rw[<- n.len,Qk]at G;exact k x5 H' c d G (by rw[<- n.len]at g;exact g)
def Kh(X:Cx):TS:=λD σ H=>d4 (zX X (ao 0)) (dZ X.K 2 (aW (aA 3) (aW (aA 4) dY))) (Kg X.K) (Gu X D) σ H
theorem OA(A:Am B am ks Z AA)(hz:ks.length<1000)(R:∀k,(Z k).length<=63)(hb:B bd=none)(G:Gr IsSet B H bd [] (gy []) BA)(hs:σ=yh am l bd none none none)
 (k:∀x3 x4 x5 H' d g,Gr IsSet B H' bd d (gy (h8 Z ks)) g->D.nx (yh am l bd x3 x4 x5) H'):Kh X D σ H:=by
 subst hs;have er:=G.s _ _ A.r;refine⟨_,rfl,am,_,_,rfl,.inl rfl,.inr ⟨er,λo W=>?_⟩⟩;have w:bd≠am:=λz=>by rw[z,A.r]at hb;cases hb
 have E:KT B (upd B am (.bP o (.dT (ks.map λk=>(k2 k,V.ref (AA k)))))):=.upd A.r λ_ z=>(nomatch z);have t:upd B am (.bP o (.dT (ks.map λk=>(k2 k,V.ref (AA k))))) am=some (.bP o (.dT (ks.map λk=>(k2 k,V.ref (AA k))))):=ag;have C:Kp am B (upd B am (.bP o (.dT (ks.map λk=>(k2 k,V.ref (AA k)))))):=λc u e n=>by rw[ai n];exact e
 have back:∀{H1},Same (upd B am (.bP o (.dT (ks.map λk=>(k2 k,V.ref (AA k)))))) H1->Same B (upd H1 am (.dT (ks.map λk=>(k2 k,V.ref (AA k))))):=λs=>ja A.r s;have S:upd B am (.bP o (.dT (ks.map λk=>(k2 k,V.ref (AA k))))) bd=none:=by rw[ai w];exact hb
 have M:Gr IsSet (upd B am (.bP o (.dT (ks.map λk=>(k2 k,V.ref (AA k)))))) (upd H am (.bP o (.dT (ks.map λk=>(k2 k,V.ref (AA k)))))) bd [] (gy (h8 Z (ks.take 0))) BA:=⟨λc u e=>by
  by_cases z:c=am
  .rw[z,ag]at e ⊢;exact e
  .rw[ai z]at e ⊢;exact G.s _ _ e,by rw[ai w];exact G.r,S,λk h=>(nomatch h),λk h=>(nomatch h),λk _=>rfl⟩
 generalize upd B am (.bP o (.dT (ks.map λk=>(k2 k,V.ref (AA k)))))=Y at E t C back S M;generalize upd H am (.bP o (.dT (ks.map λk=>(k2 k,V.ref (AA k)))))=H1 at M;refine qh (n:=(ks.map λk=>(k2 k,V.ref (AA k))).length) (λi m H'=>∃x3 x4 x5 d g,m=yh am l bd x3 x4 x5/\Gr IsSet Y H' bd d (gy (h8 Z (ks.take i))) g/\d.length<=(h8 Z (ks.take i)).length) ⟨none,none,none,[],BA,rfl,M,Pq _⟩ (λi m H' ⟨_,_,_,_,_,_,G,_⟩ J=>⟨G.s _ _ t,J⟩) (λm H' ⟨_,_,_,_,_,_,G,_⟩=>⟨G.s _ _ t,Pq _⟩) (λi m H' x H'' D' J q y k'=>?_) λm H' q=>?_
 .obtain⟨x3,x4,x5,d,g,rfl,G,T⟩:=q;obtain⟨p,b,kk,v,hp,rfl,N,rfl,e⟩:=y;rw[Ps]at J;have L:ks[i]?=some ks[i]:=Px J;rw[PR,L]at e;generalize ks[i]=ki at L e;cases e;obtain⟨ws,e1,al⟩:=A.v ki (PY L);have e1:=C _ _ e1 λz=>by rw[z,A.r]at e1;cases e1
  have al:=al.mono (bj E);have s2:=aw (o:=.tup [.ref b,.ref (AA ki)]) hp;have el:=wv R (ks.take i);have lt:=QG i ks;have z:=R ki;have U:ks.take (i+1)=ks.take i++[ki]:=by rw[P0,L];rfl
  refine yR ag (Oz (l:=l) (am:=am) (x5:=x5) (ki:=ki) (es:=h8 Z (ks.take i)) (zs:=Z ki) (G.more bj s2) T (by lia) e1 al (s2 _ _ N) rfl λx5 H3 I O G3 h3=>k' _ _ ⟨_,_,_,I,O,rfl,(by rw[U,sD];exact G3),by rw[U,sD,PJ,Ps];exact h3⟩)
 .obtain⟨x3,x4,x5,d,g,rfl,G,T⟩:=q;rw[Ps,Qk]at G;have P:=G.s _ _ t;have nl:∀{c b},H' c=some (.lst b)->c≠am:=λe z=>by rw[z,P]at e;cases e
  refine .inr ⟨am,o,_,P,True.intro,W,k _ _ _ _ d g ⟨back G.s,by rw[ai w];exact G.r,hb,λj hj=>?_,G.i,G.z⟩⟩;obtain⟨n1,vs,e1,al⟩:=G.v j hj;refine⟨?_,vs,by rw[ai (nl e1)];exact e1,al.mono (bj (.upd P λ_ z=>(nomatch z)))⟩;cases e:B (g j)with
  |none=>rfl
  |some u=>rw[C _ _ e (nl e1)]at n1;cases n1
end
structure KS where
 N:aE->Int
 ended:List aE
 bR:List aE
def fI(S:KS)(h:aE):KS:=⟨hJ S.N h (S.N h-1),if S.N h-1=0 then S.ended++[h]else S.ended,if S.N h-1=0 then S.bR++[h]else S.bR⟩
inductive KL(bf:aE->List aE):Nat->KS->KS->Prop
 |done {n:Nat} {S:KS} (h:S.bR=[]):KL bf n S S
 |step {n:Nat} {N:aE->Int} {ended bR:List aE} {last:aE} {S':KS} (f1:ended.length+(bf last).length<100000) (f2:bR.length+(bf last).length<100000) (r:KL bf n ((bf last).foldl fI ⟨N,ended,bR⟩) S'):KL bf (n+1) ⟨N,ended,bR++[last]⟩ S'
def Bb(S:KS)(h:aE):(fI S h).ended.length<=S.ended.length+1/\(fI S h).bR.length<=S.bR.length+1:=by unfold fI;dsimp only;split<;>simp
def Bc:∀(l:List aE)(S:KS),(l.foldl fI S).ended.length<=S.ended.length+l.length/\(l.foldl fI S).bR.length<=S.bR.length+l.length:=by
 intro l;induction l with
 |nil=>exact λS=>⟨Pq _,Pq _⟩
 |cons x l a=>intro S;have h1:=Bb S x;have h2:=a (fI S x);rw[RI,P8];lia
section
variable{X:Cx}{K:Uy}{H H':Hp}{am q d l bd el dl:Addr}{ks bks:List aE}{Z bf:aE->List aE}{AA BA:aE->Addr}{N:aE->Int}{f:aE->V}{D:Ends}{σ:L2.St}{k:aE}{Q:VK}{S:KS}
def qp(X:Cx)(scope:Scope)(tg a:Expr)(tN capN:List Str)(caps:List Nat)(b:List Expr)(i:Nat)(c:TI):TS:=λD σ H=>c σ H (cw X scope tg tN capN caps a b σ λe _ H'=>D.nx (σ.set i (some (.ref e))) H')
def FH:TT:=bQ (bv tQ (eU (ao 1) (ao 0)) (tC (.int 0)))
def Ki(X:Cx)(scope:Scope)(tg a:Expr)(tN capN:List Str)(caps:List Nat)(b:List Expr):TS:=λD σ H=>qp X scope tg a tN capN caps b 6 (wq X (ao 0)) (Gu X D) σ H
theorem ww{P:aE->Bool}{Fin:Addr->List V->Hp->Prop}(h1:tN.length=1)(t:jz σ caps=cap)(L:∀cl C v w fp,PG (aV X scope (tN++capN) cl C v w fp) tg (aA 0))(M:∀cl C v w fp,yQ (aV X scope (tN++capN) cl C v w fp) ifs tt)(O:∀cl C v w fp,PE (aV X scope (tN++capN) cl C v w fp) elt (ao 0))
 (G:H1 am=some (.bP o u)) (hz:ks.length<1000) (R:∀k∈ks,∀b H',Same H1 H'->H' b=some (.tup ((k2 k).map kV))->∀Q:Bool->Hp->Prop,Q (P k) H'->tt (some (.ref b)::cap) H' Q)
 (k:∀g a H',H1 g=none->Same H1 H'->H' g=some (.lst a)->aN (IsSet H') (ks.filter P) a->Fin g a H'):cw X scope tg tN capN caps elt ifs σ Fin (MC am o u (ks.map λk=>(k2 k,f k))) H1:=by
 refine jG (n:=ks.length) L M O (λg i a H'=>Same H1 H'/\H' g=some (.lst a)/\aN (IsSet H') ((ks.take i).filter P) a/\H1 g=none) (λg p=>⟨aw p,ag,.nil,p⟩) (λh=>h.2.1) (λg i a H' ⟨m,_⟩ B=>⟨m _ _ G,by rw[Ps];exact B⟩) (λg a H' ⟨m,_⟩=>⟨m _ _ G,by rw[Ps];exact Pq _⟩) (λg i a H' T r U B ⟨m,p,s,E⟩ y x=>?_) λg a H' p ⟨m,F,s,_⟩=>k g a H' p m F (by rw[Qk]at s;exact s);obtain⟨rfl,b,W,Y,e,rfl,hb⟩:=y;have A:ks[i]?=some ks[i]:=Px B;rw[PR,A]at e;generalize ks[i]=ki at A e;cases e;rw[h1]at x;obtain⟨u0,rfl⟩:=RC.mp x;rw[t];have I:ks.take (i+1)=ks.take i++[ki]:=by rw[P0,A];rfl
 have fl:=Rv P (ks.take i);have lt:=QG i ks;refine⟨λj J=>?_,R ki (PY A) b r m hb _ (ub (λc=>⟨_,rfl,p,jL (by rw[<- s.len];lia),λc u e=>?_,ag,?_,E⟩) λc=>⟨m,p,?_,E⟩)⟩
 .rw[h1]at J;obtain⟨j,rfl⟩:=QJ J;rfl
 .rw[ai (ax e E)];exact m _ _ e
 .have kt:KT r (upd r g (.lst (a++[.ref b]))):=.upd p λ_ z=>(nomatch z);rw[I,QK,QX,PN c];exact(s.mono (bj kt)).snoc ⟨b,rfl,kt _ _ hb⟩
 .rw[I,QK,QX,PK c,List.filter_nil,QR];exact s
theorem OB{scope:Scope}{tg a:Expr}(h1:tN.length=1)(y:caps=[1])(B:∀cl C g h fp,PG (aV X scope (tN++capN) cl C g h fp) tg (aA 0))(E:∀cl C g h fp,yQ (aV X scope (tN++capN) cl C g h fp) ifs FH)(F:∀cl C g h fp,PE (aV X scope (tN++capN) cl C g h fp) a (ao 0))
 (A:Am H am ks Z AA) (hz:ks.length<1000) (G:H l=some (.dT (ks.map λk=>(k2 k,V.int (N k))))) (nl:l≠am) (h0:σ[0]?=some (some (.ref am))) (t:σ[1]?=some (some (.ref l))) (k:∀e x H',Same H H'->H e=none->H' e=some (.lst x)->aN (IsSet H') (ks.filter λk=>decide (N k=0)) x->D.nx (σ.set 6 (some (.ref e))) H'):Ki X scope tg a tN capN caps ifs D σ H:=by
 refine⟨_,h0,am,_,_,rfl,.inl rfl,A.r,λo I=>?_⟩;have i:upd H am (.bP o (.dT (ks.map λk=>(k2 k,V.ref (AA k))))) am=some (.bP o (.dT (ks.map λk=>(k2 k,V.ref (AA k))))):=ag;have kp:Kp am H (upd H am (.bP o (.dT (ks.map λk=>(k2 k,V.ref (AA k)))))):=λc u e n=>by rw[ai n];exact e
 have back:∀{H1},Same (upd H am (.bP o (.dT (ks.map λk=>(k2 k,V.ref (AA k)))))) H1->Same H (upd H1 am (.dT (ks.map λk=>(k2 k,V.ref (AA k))))):=λs=>ja A.r s;generalize upd H am (.bP o (.dT (ks.map λk=>(k2 k,V.ref (AA k)))))=H1 at i kp back;refine ww (cap:=[some (.ref l)]) h1 (by rw[y];show[σ[1]?.join]=_;rw[t];rfl) B E F i hz (P:=λk=>decide (N k=0)) (λk J b H' j hb Q q=>Reads.Cb (.tz (f:=λk=>.int (N k)) (.va rfl) (.va rfl) (.inl (j _ _ (kp _ _ G nl))) J hb) .k _ ⟨_,rfl,q⟩) λv w H' p j L al=>.inr ⟨am,o,_,j _ _ i,True.intro,I,?_⟩;have m:v≠am:=λz=>by rw[z,i]at p;cases p
 refine k v w _ (back j) ?_ (by rw[ai m];exact L) (al.mono (bj (.upd (j _ _ i) λ_ z=>(nomatch z))));cases e:H v with
 |none=>rfl
 |some u=>rw[kp _ _ e m]at p;cases p
structure tG(HM H:Hp) (l el dl:Addr) (ks:List aE) (S:KS):Prop where
 f:∀c u,HM c=some u->c≠l->c≠el->c≠dl->H c=some u
 l:H l=some (.dT (ks.map λk=>(k2 k,V.int (S.N k))))
 e:∃ev,H el=some (.lst ev)/\aN (IsSet H) S.ended ev
 d:∃dv,H dl=some (.lst dv)/\aN (IsSet H) S.bR dv
structure Lw(HM:Hp) (am l bd el dl:Addr) (ks bks:List aE) (bf:aE->List aE) (BA:aE->Addr):Prop where
 b:HM bd=some (.dT (bks.map λk=>(k2 k,.ref (BA k))))
 v:∀k∈bks,∃vs,HM (BA k)=some (.lst vs)/\aN (IsSet HM) (bf k) vs/\BA k≠el/\BA k≠dl
 z:∀k,k∉bks->bf k=[]
 i:∀k,∀h∈bf k,h∈ks
 n1:bd≠l
 n2:el≠dl
 kt:∀c w,HM c=some (.tup w)->c≠l/\c≠el/\c≠dl
 d:∃x,HM l=some (.dT x)
 e:∃x,HM el=some (.lst x)
 q:∃x,HM dl=some (.lst x)
def nZ(am l bd el dl:Addr)(x3 x4 x5 x8:Option V):L2.St:=[some (.ref am),some (.ref l),some (.ref bd),x3,x4,x5,some (.ref el),some (.ref dl),x8]
def Kj:R2:=yN λi j=>.int (i-j)
def MV(K:Uy):TS:=dD (bQ (bv tQ (eU (ao 1) (ao 3)) (tC (.int 0)))) (aJ (cj (qZ K "list" dG (ao 6) (au (ao 3) aF))) (cj (qZ K "list" dG (ao 7) (au (ao 3) aF)))) cb
def Kk(K:Uy):TS:=aJ (lW (ao 1) (ao 3) (bv Kj (eU (ao 1) (ao 3)) (tC (.int 1)))) (MV K)
theorem OC(M:Lw HM am l bd el dl ks bks bf BA)(C:tG HM H l el dl ks S)(E:h∈ks)(hb:HM b=some (.tup ((k2 h).map kV)))(hz:ks.length<1000)(J:S.ended.length<200000)(L:S.bR.length<200000)(hs:σ=nZ am l bd el dl (some (.ref b)) x4 x5 x8)(k:∀H',tG HM H' l el dl ks (fI S h)->D.nx (nZ am l bd el dl (some (.ref b)) x4 x5 x8) H'):Kk K D σ H:=by
 subst hs;obtain⟨fr,s,⟨w,i,r⟩,⟨dv,hd,ad⟩⟩:=C;obtain⟨F,t2,G⟩:=M.kt _ _ hb;have a:=fr _ _ hb F t2 G;have x:el≠l:=λz=>by rw[z,s]at i;cases i
 have y:dl≠l:=λz=>by rw[z,s]at hd;cases hd
 refine Reads.op (z:=.int (S.N h-1)) (.tz (f:=λk=>.int (S.N k)) (.va rfl) (.va rfl) (.inl s) E a) .k (λ_ q=>⟨_,_,rfl,rfl,q⟩) _ ⟨_,rfl,_,rfl,l,_,rfl,DPut.t s (k:=k2 h) a (jL (by rw[Ps];lia)),?_⟩;rw[Ke E];have I:(ks.map λj=>(k2 j,hJ (λk=>V.int (S.N k)) h (.int (S.N h-1)) j))=ks.map λj=>(k2 j,V.int (hJ S.N h (S.N h-1) j)):=QL λj _=>by
  by_cases e:j=h
  .rw[e,cC,cC]
  .rw[cz e,cz e]
 rw[I];have kt:KT H (upd H l (.dT (ks.map λj=>(k2 j,V.int (hJ S.N h (S.N h-1) j))))):=.upd s λ_ z=>(nomatch z);have o:upd H l (.dT (ks.map λj=>(k2 j,V.int (hJ S.N h (S.N h-1) j)))) l=some (.dT (ks.map λj=>(k2 j,V.int (hJ S.N h (S.N h-1) j)))):=ag;have kp:Kp l H (upd H l (.dT (ks.map λj=>(k2 j,V.int (hJ S.N h (S.N h-1) j))))):=λc u e n=>by rw[ai n];exact e
 have i:=kp _ _ i x;have hd:=kp _ _ hd y;have r:=r.mono (bj kt);have ad:=ad.mono (bj kt);have a:=kt _ _ a;have fr:∀c u,HM c=some u->c≠l->c≠el->c≠dl->upd H l (.dT (ks.map λj=>(k2 j,V.int (hJ S.N h (S.N h-1) j)))) c=some u:=λc u e n1 n2 B=>kp _ _ (fr c u e n1 n2 B) n1;generalize upd H l (.dT (ks.map λj=>(k2 j,V.int (hJ S.N h (S.N h-1) j))))=H1 at o i hd r ad a fr;refine gw (.Cb (m:=S.N h-1) (n:=0) (λQ q=>Reads.tz (f:=λk=>.int (hJ S.N h (S.N h-1) k)) (.va rfl) (.va rfl) (.inl o) E a Q (by rw[cC];exact q)) .k) (λc=>?_) λc=>?_
 .have c:=Qa c;refine⟨_,rfl,.inl ⟨rfl,_,SqL.of i⟩,_,rfl,el,w,_,rfl,rfl,i,jL (by rw[<- r.len];lia),?_⟩;have A:KT H1 (upd H1 el (.lst (w++[.ref b]))):=.upd i λ_ z=>(nomatch z);have p:upd H1 el (.lst (w++[.ref b])) dl=some (.lst dv):=by rw[ai (QQ M.n2)];exact hd
  refine⟨_,rfl,.inl ⟨rfl,_,SqL.of p⟩,_,rfl,dl,dv,_,rfl,rfl,p,jL (by rw[<- ad.len];lia),k _ ⟨λc u e n1 n2 B=>?_,?_,⟨w++[.ref b],?_,?_⟩,⟨dv++[.ref b],ag,?_⟩⟩⟩
  .rw[ai B,ai n2];exact fr c u e n1 n2 B
  .rw[ai (QQ y),ai (QQ x)];exact o
  .rw[ai M.n2,ag]
  .have g:=A.trans (KT.upd (v:=.lst (dv++[.ref b])) p λ_ z=>(nomatch z));unfold fI;dsimp only;rw[PN c];exact(r.mono (bj g)).snoc ⟨b,rfl,g _ _ a⟩
  .have g:=A.trans (KT.upd (v:=.lst (dv++[.ref b])) p λ_ z=>(nomatch z));unfold fI;dsimp only;rw[PN c];exact(ad.mono (bj g)).snoc ⟨b,rfl,g _ _ a⟩
 .have c:¬S.N h-1=0:=λz=>c (P3 z);refine k _ ⟨fr,o,⟨w,i,?_⟩,⟨dv,hd,?_⟩⟩
  .unfold fI;dsimp only;rw[PK c];exact r
  .unfold fI;dsimp only;rw[PK c];exact ad
end
def Be(m:h∈gy (h8 Z ks) k):h∈ks:=by obtain⟨e,a,rfl⟩:=Pt.mp m;obtain⟨x,b,a⟩:=QY.mp (P_.mp a).1;obtain⟨o,_,rfl⟩:=Pt.mp a;exact b
section
variable{K:Uy}{H H' HM:Hp}{a am q d l bd el dl:Addr}{ks bks:List aE}{Z bf:aE->List aE}{AA BA:aE->Addr}{N:aE->Int}{f:aE->V}{D:Ends}{σ:L2.St}{S S':KS}
def Kl(K:Uy):TS:=d4 (ce K (dI (ao 2) (ao 8) (eJ aF))) (aA 3) (Kk K)
theorem tG.Pc(M:Lw HM am l bd el dl ks bks bf BA)(C:tG HM H l el dl ks S):H bd=some (.dT (bks.map λk=>(k2 k,.ref (BA k)))):=by obtain⟨_,e⟩:=M.e;obtain⟨_,q⟩:=M.q;exact C.f _ _ M.b M.n1 (λz=>by rw[<- z,M.b]at e;cases e) λz=>by rw[<- z,M.b]at q;cases q
def tG.more(C:tG HM H l el dl ks S)(s:Same H H'):tG HM H' l el dl ks S:=⟨λc u e n1 n2 b=>s _ _ (C.f c u e n1 n2 b),s _ _ C.l,let ⟨v,e,al⟩:=C.e;⟨v,s _ _ e,al.mono (bj (.of s))⟩,let ⟨v,e,al⟩:=C.d;⟨v,s _ _ e,al.mono (bj (.of s))⟩⟩
theorem OD(M:Lw HM am l bd el dl ks bks bf BA)(C:tG HM H l el dl ks S)(hb:H b=some (.tup ((k2 last).map kV)))(hz:ks.length<1000)(B:S.ended.length+(bf last).length<100000)(E:S.bR.length+(bf last).length<100000)(hs:σ=nZ am l bd el dl x3 x4 x5 (some (.ref b)))
 (k:∀x3 H',tG HM H' l el dl ks ((bf last).foldl fI S)->D.nx (nZ am l bd el dl x3 x4 x5 (some (.ref b))) H'):Kl K D σ H:=by
 subst hs;have s:=C.Pc M;refine dC ?_;refine⟨_,rfl,bd,rfl,.inr ⟨_,.inl s⟩,_,rfl,PQ _,λq x=>?_⟩;have s1:=aw (o:=.lst []) x;refine⟨_,DGet.t (k:=k2 last) (s1 _ _ s) (s1 _ _ hb),?_⟩;rw[gf];have j:=C.more s1;have g:upd H q (.lst []) q=some (.lst []):=ag;generalize upd H q (.lst [])=H1 at j g;by_cases m:last∈bks
 .rw[PN m];obtain⟨ws,e1,al,n1,n2⟩:=M.v last m;have nl:BA last≠l:=λz=>by obtain⟨_,e⟩:=M.d;rw[z,e]at e1;cases e1
  have u:∀{H' S},tG HM H' l el dl ks S->H' (BA last)=some (.lst ws):=λC=>C.f _ _ e1 nl n1 n2;refine⟨BA last,rfl,⟨ws,SqL.of (u j)⟩,cf (K:=K) (a:=BA last) (xs:=ws) (λi c H'=>∃x3,c=nZ am l bd el dl x3 x4 x5 (some (.ref b))/\tG HM H' l el dl ks (((bf last).take i).foldl fI S)) ⟨x3,rfl,j⟩ (λi c H' _ ⟨_,_,C⟩=>SqL.of (u C)) (λi v c H' n ⟨x3,p,C⟩=>?_) λc H' ⟨x3,p,C⟩=>?_⟩
  .subst p;obtain⟨t,w,F,rfl,r⟩:=al.get n;have dl:=Bc ((bf last).take i) S;have lt:=QG i (bf last);refine OC (h:=t) M C (M.i last t (PY w)) r hz (by lia) (by lia) rfl λG y=>⟨_,rfl,?_⟩;rw[P0,w,RF];exact y
  .subst p;rw[<- al.len,Qk]at C;exact k x3 H' C
 .rw[PK m];refine⟨q,rfl,⟨_,SqL.of g⟩,cf (K:=K) (a:=q) (xs:=[]) (λi c H'=>c=nZ am l bd el dl x3 x4 x5 (some (.ref b))/\H'=H1) ⟨rfl,rfl⟩ (λi c H' _ ⟨_,e⟩=>by subst e;exact SqL.of g) (λi v c H' n=>by simp at n) λc H' ⟨e,A⟩=>?_⟩;subst e;subst A;rw[M.z last m]at k;exact k x3 H' j
def Km(K:Uy):TS:=lP (D_ K (ao 7)) (aJ (aZ (wY K "list" Gn (ao 7)) (aA 8)) (Kl K))
theorem OE(M:Lw HM am l bd el dl ks bks bf BA)(C:tG HM H l el dl ks S)(hz:ks.length<1000)(lp:KL bf n S S')(hs:σ=nZ am l bd el dl x3 x4 x5 x8)(k:∀x3 x8 H',tG HM H' l el dl ks S'->D.nx (nZ am l bd el dl x3 x4 x5 x8) H'):Km K D σ H:=by
 subst hs;refine⟨λm σ H=>∃x3 x8 S,σ=nZ am l bd el dl x3 x4 x5 x8/\tG HM H l el dl ks S/\KL bf m S S',⟨n,x3,x8,S,rfl,C,lp⟩,?_⟩;clear C lp;rintro m σ H ⟨x3,x8,S,rfl,C,lp⟩;obtain⟨dv,g,al⟩:=id C.d;refine⟨_,rfl,_,.inl ⟨_,SqL.of g,rfl⟩,?_⟩;cases lp with
 |done e=>rw[e]at al;cases al;exact d6 (k x3 x8 H C)
 |@step m N ended bR last _ p r lp=>
  obtain⟨zs,_,rfl,i,b,rfl,hb⟩:=(show aN (IsSet H) (bR++[last]) dv from al).BV;rw[PN (by simp)];refine⟨λh H'=>∃x3 x8,h=nZ am l bd el dl x3 x4 x5 x8/\tG HM H' l el dl ks ((bf last).foldl fI ⟨N,ended,bR⟩),λh H' ⟨x3,x8,e,C⟩=>⟨m,Rt _,x3,x8,_,e,C,lp⟩,_,rfl,.inl ⟨rfl,_,SqL.of g⟩,dl,zs++[.ref b],.ref b,rfl,rfl,g,by simp,?_⟩;rw[List.dropLast_concat];have kt:KT H (upd H dl (.lst zs)):=.upd g λ_ z=>(nomatch z);have j:l≠dl:=λz=>by rw[<- z,C.l]at g;cases g
  have s:tG HM (upd H dl (.lst zs)) l el dl ks ⟨N,ended,bR⟩:=⟨λc u e n1 n2 o=>by rw[ai o];exact C.f c u e n1 n2 o,by rw[ai j];exact C.l,let ⟨t,e,al⟩:=C.e;⟨t,by rw[ai M.n2];exact e,al.mono (bj kt)⟩,⟨zs,ag,i.mono (bj kt)⟩⟩;exact OD M s (kt _ _ hb) hz p r rfl λx3 w v=>⟨x3,_,rfl,v⟩
def sF(Z:aE->List aE)(ks:List aE):KS:=⟨lr Z,ks.filter λk=>decide (lr Z k=0),ks.filter λk=>decide (lr Z k=0)⟩
inductive yB:Sp
 |mk {H:Hp} {am:Addr} {ks:List aE} {Z:aE->List aE} {AA:aE->Addr} {n:Nat} {S':KS} {Q:VK} {E:XK} (A:Am H am ks Z AA) (nd:ks.Nodup) (hz:ks.length<1000) (hZ:∀k,(Z k).length<=63) (lp:KL (gy (h8 Z ks)) n (sF Z ks) S') (ne:S'.ended.Nodup) (le:S'.ended.length<1000) (k:∀d H',Same H H'->H d=none->H' d=some (.dT (S'.ended.map λk=>(k2 k,V.bl true)))->Q (.ref d) H'):yB [.ref am] H Q E
def Bf(h:yB vs H Q E):vs.length=1:=by cases h;rfl
structure Pa(X:Cx) (E2 Cs:Scope) (FT tq FW tf:Expr) (tN1 tN2 capN:List Str) (caps:List Nat) (ifs:List Expr):Prop where
 h1:tN1.length=2
 g1:∀cl C s3 H3 fp,PG (aV X E2 (tN1++[]) cl C s3 H3 fp) FT (dZ X.K 2 (aW (aA 0) (aW (aA 1) dY)))
 e1:∀cl C s3 H3 fp,PE (aV X E2 (tN1++[]) cl C s3 H3 fp) tq (FG X.K)
 h2:tN2.length=1
 c2:caps=[1]
 g2:∀cl C s3 H3 fp,PG (aV X Cs (tN2++capN) cl C s3 H3 fp) FW (aA 0)
 t2:∀cl C s3 H3 fp,yQ (aV X Cs (tN2++capN) cl C s3 H3 fp) ifs FH
 e2:∀cl C s3 H3 fp,PE (aV X Cs (tN2++capN) cl C s3 H3 fp) tf (ao 0)
def MW(K:Uy):TS:=aJ (aZ (fQ (m9 K) (au (ao 6) aF)) (aA 7)) (aJ (Km K) (cO (bO B9 [] E0 (au (ao 6) aF))))
def OF(X:Cx)(E2 Cs:Scope)(FT tq FW tf:Expr)(b c capN:List Str)(caps:List Nat)(e:List Expr):TS:=aJ (Kf X E2 FT tq b) (aJ (aZ eL (aA 2)) (aJ (Kh X) (aJ (Ki X Cs FW tf c capN caps e) (MW X.K))))
theorem Ee(c:Pa X E2 Cs FT tq FW tf tN1 tN2 capN caps ifs)(h:yB vs H Q E):OF X E2 Cs FT tq FW tf tN1 tN2 capN caps ifs {nx:=λ_ H'=>Q .bB H',rt:=Q} (br ["among","left","before","head","ahead","other","ended","due","last"] vs) H:=by
 obtain @⟨H,am,ks,Z,AA,n,S',Q,E,A,nd,hz,hZ,lp,ne,le,k⟩:=h;refine Oy c.h1 c.g1 c.e1 A nd hz rfl λl H1 s1 nl J bd i=>?_;have G0:Gr IsSet H1 (upd H1 bd (.dT [])) bd [] (gy []) (λ_=>0):=⟨aw i,ag,i,λk h=>(nomatch h),λk h=>(nomatch h),λk _=>rfl⟩;refine OA (l:=l) (A.more s1) hz hZ i G0 rfl λx3 x4 x5 H3 bks BA G=>?_;have L:l≠am:=λz=>by rw[z,A.r]at nl;cases nl
 refine OB c.h2 c.c2 c.g2 c.t2 c.e2 ((A.more s1).more G.s) hz (G.s _ _ J) L rfl rfl λel p Y O y t P=>⟨_,rfl,el,p,rfl,.inl (SqL.of t),λdl j=>?_⟩;have I:=aw (o:=.lst p) j;have b:upd Y dl (.lst p) dl=some (.lst p):=ag;have g:=I _ _ t;have R:el≠dl:=ax t j;generalize upd Y dl (.lst p)=H5 at I b g;have m:=O.trans I;have T:=s1.trans (G.s.trans m);have x:=m _ _ (G.s _ _ J);have nH:∀{c},H3 c=none->H c=none:=λh=>s1.free (G.s.free h);have U:H dl=none:=nH (O.free j);have M:Lw H5 am l bd el dl ks bks (gy (h8 Z ks)) BA:=⟨m _ _ G.r,λk hk=>let ⟨_,vs,e,al⟩:=G.v k hk;⟨vs,m _ _ e,al.mono (bj (.of m)),λz=>(by rw[z,y]at e;cases e),λz=>by rw[<- z,O _ _ e]at j;cases j⟩,G.z,λ_ _ h=>Be h,λz=>(by rw[z,J]at i;cases i),R,λc w e=>⟨λz=>(by rw[z,x]at e;cases e),λz=>(by rw[z,g]at e;cases e),λz=>(by rw[z,b]at e;cases e)⟩,⟨_,x⟩,⟨_,g⟩,⟨_,b⟩⟩;have B:=P.mono (bj (.of I));refine OE (x3:=x3) (x4:=x4) (x5:=x5) (x8:=none) (S:=sF Z ks) M ⟨λc u e _ _ _=>e,x,⟨p,g,B⟩,⟨p,b,B⟩⟩ hz lp rfl λx3 x8 H6 C=>?_;obtain⟨ev',V,W⟩:=C.e;have F:Same H H6:=λc u e=>C.f _ _ (T _ _ e) (λz=>by rw[z,nl]at e;cases e) (λz=>by rw[z,nH y]at e;cases e) λz=>by rw[z,U]at e;cases e
 exact⟨_,rfl,.mk (.inl V) W ne le λd H7 s7 nd hd=>k d H7 (F.trans s7) (F.free nd) hd⟩
end
def iP(es:List aE)(k:aE):Bool:=!decide (k∈es)
inductive Cz(Z:aE->List aE) (es ks:List aE):Nat->List aE->aE->List aE->aE->Prop
 |done {n:Nat} {w:List aE} {h:aE} (hm:h∈w):Cz Z es ks n w h w h
 |step {n:Nat} {w w':List aE} {h h' hF:aE} (hm:h∉w) (hk:h∈ks) (f:w.length<1000) (hx:((Z h).filter (iP es)).head?=some h') (r:Cz Z es ks n (w++[h]) h' w' hF):Cz Z es ks (n+1) w h w' hF
def Cz.last(r:Cz Z es ks n w h w' hF)(a:w.length<=1000):hF∈w'/\w'.length<=1000:=by
 induction r with
 |done hm=>exact⟨hm,a⟩
 |step _ _ f _ _ b=>exact b (by simp;lia)
section
variable{X:Cx}{H H' HM:Hp}{a am q p l ed wd ll b:Addr}{ks es w w':List aE}{Z:aE->List aE}{AA:aE->Addr}{D:Ends}{σ:L2.St}{vs tv:List V}{k h hF:aE}{Q:VK}{E:XK}{sP:Sp}
theorem Bg{Q:Bool->Hp->Prop}(c:H ed=some (.dT (es.map λk=>(k2 k,V.bl true))))(hb:H b=some (.tup ((k2 k).map kV)))(q:Q (iP es k) H):bQ (bv (rQ true) (ao 0) (ao 1)) (some (.ref b)::some (.ref ed)::cap) H Q:=by
 refine⟨_,rfl,_,rfl,ed,_,rfl,.inl (DGet.t (k:=k2 k) c hb),⟨_,rfl,?_⟩⟩;rw[j5];unfold iP at q;by_cases m:k∈es
 .rw[PN m];rw[P3 m]at q;exact q
 .rw[PK m];rw[QA m]at q;exact q
theorem Ef{P:aE->Bool}{Fin:Addr->List V->Hp->Prop}(h1:tN.length=1)(s:jz σ caps=cap)(J:∀cl C t v fp,PG (aV X scope (tN++capN) cl C t v fp) tg (aA 0))(L:∀cl C t v fp,yQ (aV X scope (tN++capN) cl C t v fp) ifs tt)(M:∀cl C t v fp,PE (aV X scope (tN++capN) cl C t v fp) elt (ao 0))
 (A:H1 l=some (.lst tv)) (al:aN (IsSet H1) zs tv) (hz:zs.length<1000) (N:∀k b H',Same H1 H'->H' b=some (.tup ((k2 k).map kV))->∀Q:Bool->Hp->Prop,Q (P k) H'->tt (some (.ref b)::cap) H' Q)
 (k:∀f d H',H1 f=none->Same H1 H'->H' f=some (.lst d)->aN (IsSet H') (zs.filter P) d->Fin f d H'):cw X scope tg tN capN caps elt ifs σ Fin (y8 X.K l) H1:=by
 have ln:=al.len;refine jG (n:=zs.length) J L M (λf i d H'=>Same H1 H'/\H' f=some (.lst d)/\aN (IsSet H') ((zs.take i).filter P) d/\H1 f=none) (λf m=>⟨aw m,ag,.nil,m⟩) (λh=>h.2.1) (λf i d H' ⟨g,_⟩ O=>⟨tv,tv[i]'(by lia),SqL.of (g _ _ A),Px _⟩) (λf d H' ⟨g,_⟩=>⟨tv,SqL.of (g _ _ A),by lia⟩) (λf i d H' S o T O ⟨g,m,r,B⟩ y x=>?_) λf d H' m ⟨g,F,r,_⟩=>k f d H' m g F (by rw[Qk]at r;exact r);obtain⟨rfl,y⟩:=y;obtain⟨ki,R,b,rfl,hb⟩:=al.get (y _ (SqL.of (g _ _ A)));have hb:=g _ _ hb;rw[h1]at x;obtain⟨U,rfl⟩:=RC.mp x;rw[s];have G:zs.take (i+1)=zs.take i++[ki]:=by rw[P0,R];rfl
 have fl:=Rv P (zs.take i);have lt:=QG i zs;refine⟨λj I=>?_,N ki b o g hb _ (ub (λc=>⟨_,rfl,m,jL (by rw[<- r.len];lia),λc u e=>?_,ag,?_,B⟩) λc=>⟨g,m,?_,B⟩)⟩
 .rw[h1]at I;obtain⟨j,rfl⟩:=QJ I;rfl
 .rw[ai (ax e B)];exact g _ _ e
 .have kt:KT o (upd o f (.lst (d++[.ref b]))):=.upd m λ_ z=>(nomatch z);rw[G,QK,QX,PN c];exact(r.mono (bj kt)).snoc ⟨b,rfl,kt _ _ hb⟩
 .rw[G,QK,QX,PK c,List.filter_nil,QR];exact r
def MX:TT:=bQ (bv (rQ true) (ao 0) (ao 1))
def Eg(v0 c:V)(am ed ll wd:Addr)(b:Addr):L2.St:=[some v0,some c,some (.ref am),some (.ref ed),some (.ref ll),some (.ref wd),some (.ref b),none]
def Kn(X:Cx)(scope:Scope)(tg c:Expr)(tN capN:List Str)(caps:List Nat)(d:List Expr):TS:=aZ (bv (pz X.K) (iH X scope tg tN capN caps c d (ce X.K (eU (ao 2) (ao 6)))) (tC (.int 0))) (aA 6)
def Ko(t:TS):TS:=lP (bQ (bv (rQ true) (ao 6) (ao 5))) (aJ (lW (ao 5) (ao 6) (tC (.bl true))) t)
structure LM(X:Cx) (scope:Scope) (tg elt:Expr) (tN capN:List Str) (caps:List Nat) (ifs:List Expr):Prop where
 h:tN.length=1
 c:caps=[3]
 g:∀cl C s3 H3 fp,PG (aV X scope (tN++capN) cl C s3 H3 fp) tg (aA 0)
 t:∀cl C s3 H3 fp,yQ (aV X scope (tN++capN) cl C s3 H3 fp) ifs MX
 e:∀cl C s3 H3 fp,PE (aV X scope (tN++capN) cl C s3 H3 fp) elt (ao 0)
theorem OG{scope:Scope}{tg o:Expr}{tN capN:List Str}(c:LM X scope tg o tN capN caps ifs)(A:Am HM am ks Z AA)(M:∀k,(Z k).length<=63)(N:HM ed=some (.dT (es.map λk=>(k2 k,V.bl true))))(F:am≠wd)(G:ed≠wd)(I:∀k∈ks,AA k≠wd)(O:∃x,HM wd=some (.dT x))(kp:Kp wd HM H)(f:H wd=some (.dT (w.map λk=>(k2 k,V.bl true))))(hb:H b=some (.tup ((k2 h).map kV)))(lp:Cz Z es ks n w h w' hF)(hs:σ=Eg v0 v1 am ed ll wd b)
 (k:∀b H',Kp wd HM H'->H' wd=some (.dT (w'.map λk=>(k2 k,V.bl true)))->H' b=some (.tup ((k2 hF).map kV))->D.nx (Eg v0 v1 am ed ll wd b) H'):Ko (Kn X scope tg o tN capN caps ifs) D σ H:=by
 subst hs;refine⟨λm σ H=>∃b w h,σ=Eg v0 v1 am ed ll wd b/\Kp wd HM H/\H wd=some (.dT (w.map λk=>(k2 k,V.bl true)))/\H b=some (.tup ((k2 h).map kV))/\Cz Z es ks m w h w' hF,⟨n,b,w,h,rfl,kp,f,hb,lp⟩,?_⟩;clear kp f hb lp;rintro m σ H ⟨b,w,h,rfl,kp,f,hb,lp⟩;refine⟨_,rfl,_,rfl,wd,_,rfl,.inl (DGet.t (k:=k2 h) f hb),⟨_,rfl,?_⟩⟩;rw[j5];cases lp with
 |done hm=>rw[PN hm];exact d6 (k b H kp f hb)
 |@step m _ _ _ h' _ hm J fz i lp=>
  rw[PK hm];refine hI ⟨λs H'=>∃b,s=Eg v0 v1 am ed ll wd b/\Kp wd HM H'/\H' wd=some (.dT ((w++[h]).map λk=>(k2 k,V.bl true)))/\H' b=some (.tup ((k2 h').map kV)),λs H' ⟨b,e,kp,f,hb⟩=>⟨m,Rt _,b,_,_,e,kp,f,hb,lp⟩,_,rfl,_,rfl,wd,_,rfl,DPut.t f (k:=k2 h) hb (jL (by rw[Ps];lia)),?_⟩;rw[dH _ (by rw[j5,PK hm])];have R:(w.map λk=>(k2 k,V.bl true))++[(k2 h,V.bl true)]=(w++[h]).map λk=>(k2 k,V.bl true):=by rw[Qo];rfl
  rw[R];have kt:KT H (upd H wd (.dT ((w++[h]).map λk=>(k2 k,V.bl true)))):=.upd f λ_ z=>(nomatch z);have d:Kp wd HM (upd H wd (.dT ((w++[h]).map λk=>(k2 k,V.bl true)))):=λc u e n=>by rw[ai n];exact kp _ _ e n
  have y:upd H wd (.dT ((w++[h]).map λk=>(k2 k,V.bl true))) wd=some (.dT ((w++[h]).map λk=>(k2 k,V.bl true))):=ag;have B:=kt _ _ hb;generalize upd H wd (.dT ((w++[h]).map λk=>(k2 k,V.bl true)))=H1 at d y B;obtain⟨ws,e1,al⟩:=A.v h J;have K:KT HM H1:=λc x e=>d _ _ e λz=>by obtain⟨_,h⟩:=O;rw[z,h]at e;cases e
  have e1:=d _ _ e1 (I h J);refine Reads.Ig (v:=.bB) (.va rfl) (.va rfl) (.inl (d _ _ A.r F)) J B _ ⟨AA h,rfl,⟨ws,SqL.of e1⟩,Ef (cap:=[some (.ref ed)]) (P:=iP es) (zs:=Z h) c.h (by rw[c.c];rfl) c.g c.t c.e e1 (al.mono (bj K)) (by have:=M h;lia) (λk b H' S hb Q q=>Bg (S _ _ (d _ _ N G)) hb q) λT U H2 nD s2 W al2=>?_⟩;cases C:(Z h).filter (iP es)with
  |nil=>rw[C]at i;cases i
  |cons x r=>
   rw[C]at i al2;cases i;cases al2 with
   |cons i _=>obtain⟨Y,rfl,L⟩:=i;exact⟨T,_,0,_,rfl,rfl,SqL.of W,cV (j:=0) rfl,Y,rfl,λc u e n=>s2 _ _ (d _ _ e n),s2 _ _ y,L⟩
def Eh(RL:List Sp.Rule)(As:List Sp.Arr)(c:Int)(aS:List Int):Prop:=∀Z ks,o9 RL As c aS Z ks->ks.Nodup/\ks.length<1000/\(∀k,(Z k).length<=63)/\∃n d,KL (gy (h8 Z ks)) n (sF Z ks) d/\d.ended.Nodup/\d.ended.length<1000/\∀h0 r,ks.filter (iP d.ended)=h0::r->∃n w hF,Cz Z d.ended ks n [] h0 w hF
inductive vi(RL:List Sp.Rule) (As:List Sp.Arr) (room:Int) (aS:List Int):Option (List aE)->Prop
 |no {Z:aE->List aE} {ks:List aE} {n:Nat} {S':KS} (g:o9 RL As room aS Z ks) (l:KL (gy (h8 Z ks)) n (sF Z ks) S') (e:ks.filter (iP S'.ended)=[]):vi RL As room aS none
 |yes {Z:aE->List aE} {ks r w:List aE} {n m j:Nat} {S':KS} {h0 hF:aE} (g:o9 RL As room aS Z ks) (l:KL (gy (h8 Z ks)) n (sF Z ks) S') (e:ks.filter (iP S'.ended)=h0::r) (q:Cz Z S'.ended ks m [] h0 w hF) (x:w[j]?=some hF):vi RL As room aS (some (w.drop j))
def OH(H H':Hp):Option (List aE)->V->Prop
 |none,v=>v=.bB
 |some zs,v=>∃l vs,v=.ref l/\H l=none/\H' l=some (.lst vs)/\aN (IsSet H') zs vs
inductive Cf(sP:Sp):Sp
 |mk {H:Hp} {RL:List Sp.Rule} {As:List Sp.Arr} {p sp q:Addr} {room:Int} {aS:List Int} {Q:VK} {E:XK} (i:BX sP H RL As p sp q room aS) (ok:yg RL As room aS) (rg:Eh RL As room aS) (k:∀o v H',Same H H'->OH H H' o v->vi RL As room aS o->Q v H'):Cf sP [.ref p,.ref sp] H Q E
theorem Bh(h:Cf sP vs H Q E):vs.length=2:=by cases h;rfl
def MY(K:Uy):TS:=cO (Gj (zi K) (ao 7) (kY (qZ K "list" Jp (ao 7) (au (ao 6) aF))) lB)
def MZ(K:Uy)(t:TS):TS:=aJ (Ko t) (aJ (aZ (fQ uY (au (ao 5) aF)) (aA 7)) (MY K))
def M0(K:Uy)(t:TS):TS:=aJ (dD (pb (D_ K (ao 4))) (cO (tC .bB)) cb) (aJ (aZ eL (aA 5)) (aJ (aZ (bv (pz K) (ao 4) (tC (.int 0))) (aA 6)) (MZ K t)))
def Kq(X:Cx)(scope:Scope)(tg c:Expr)(tN capN:List Str)(caps:List Nat)(d:List Expr):TS:=λD σ H=>qp X scope tg c tN capN caps d 4 (wq X (ao 2)) (Gu X D) σ H
def OI(X:Cx)(sP:Sp)(c d:TS):TS:=aJ (aZ (bO (vp sP) [] E0 (au (ao 0) (au (ao 1) aF))) (aA 2)) (aJ (aZ (bO yB [] E0 (au (ao 2) aF)) (aA 3)) (aJ c (M0 X.K d)))
theorem OJ(c:LM X scope tg elt tN capN caps ifs)(A:Am H am ks Z AA)(hz:ks.length<1000)(y:H ed=some (.dT (es.map λk=>(k2 k,V.bl true))))(na:ed≠am)(h2:σ[2]?=some (some (.ref am)))(h3:σ[3]?=some (some (.ref ed)))(k:∀e x H',Same H H'->H e=none->H' e=some (.lst x)->aN (IsSet H') (ks.filter (iP es)) x->D.nx (σ.set 4 (some (.ref e))) H'):Kq X scope tg elt tN capN caps ifs D σ H:=by
 refine⟨_,h2,am,_,_,rfl,.inl rfl,A.r,λo B=>?_⟩;have d:upd H am (.bP o (.dT (ks.map λk=>(k2 k,V.ref (AA k))))) am=some (.bP o (.dT (ks.map λk=>(k2 k,V.ref (AA k))))):=ag;have kp:Kp am H (upd H am (.bP o (.dT (ks.map λk=>(k2 k,V.ref (AA k)))))):=λc u e n=>by rw[ai n];exact e
 have back:∀{H1},Same (upd H am (.bP o (.dT (ks.map λk=>(k2 k,V.ref (AA k)))))) H1->Same H (upd H1 am (.dT (ks.map λk=>(k2 k,V.ref (AA k))))):=λs=>ja A.r s;generalize upd H am (.bP o (.dT (ks.map λk=>(k2 k,V.ref (AA k)))))=H1 at d kp back;refine ww (cap:=[some (.ref ed)]) c.h (by rw[c.c];show[σ[3]?.join]=_;rw[h3];rfl) c.g c.t c.e d hz (P:=iP es) (λk F b H' f hb Q q=>Bg (f _ _ (kp _ _ y na)) hb q) λm v H' j f C al=>.inr ⟨am,o,_,f _ _ d,True.intro,B,?_⟩;have i:m≠am:=λz=>by rw[z,d]at j;cases j
 refine k m v _ (back f) ?_ (by rw[ai i];exact C) (al.mono (bj (.upd (f _ _ d) λ_ z=>(nomatch z))));cases e:H m with
 |none=>rfl
 |some u=>rw[kp _ _ e i]at j;cases j
def NY(x y:aE):jp (pD x) (pD y)=decide (x=y):=by
 show(x.1==y.1&&(x.2==y.2&&true))=_;rw[Bool.and_true];by_cases e:x=y
 .rw[e,P3 rfl,BEq.rfl,BEq.rfl];rfl
 .rw[QA e,Bool.and_eq_false_iff];by_cases e1:x.1=y.1
  .exact .inr (Ru.mpr λe2=>e (TY e1 e2))
  .exact .inl (Ru.mpr e1)
theorem kM(xs:List V)(j:Nat):fB xs (some (j:Nat)) none=xs.drop j:=by
 unfold fB;have h1:HT.sIx xs.length 0 (some ((j:Nat):Int))=min j xs.length:=HT.sIx_nat xs.length 0 j;have h2:HT.sIx xs.length xs.length none=xs.length:=rfl;rw[h1,h2];by_cases h:j<=xs.length
 .rw[Nat.min_eq_left h,QW (by simp)]
 .rw[Nat.min_eq_right (by lia),List.drop_eq_nil_of_le (by lia),List.drop_eq_nil_of_le (by lia),List.take_nil]
theorem aN.drop{α c:Type}{R:α->c->Prop}{xs:List α}{d:List c}(h:aN R xs d):∀j,aN R (xs.drop j) (d.drop j):=by
 induction h with
 |nil=>intro j;rw[List.drop_nil,List.drop_nil];exact .nil
 |cons a t e=>
  intro j;cases j with
  |zero=>exact .cons a t
  |succ j=>exact e j
theorem Ei(c1:LM X E2 FT tq tN1 capN1 caps1 ifs1)(c2:LM X Cs FW tf tN2 capN2 caps2 ifs2)(h:Cf sP vs H Q E):OI X sP (Kq X E2 FT tq tN1 capN1 caps1 ifs1) (Kn X Cs FW tf tN2 capN2 caps2 ifs2) {nx:=λ_ H'=>Q .bB H',rt:=Q} (br ["house","standing","among","ended","left","walk","head","heads"] vs) H:=by
 obtain @⟨H,RL,As,p,sp,q,room,aS,Q,E,i,ok,rg,k⟩:=h;refine⟨_,rfl,_,rfl,.mk i ok λam Z AA ks H1 s1 nam A g=>?_⟩;obtain⟨nd,hz,hZ,n,S',lp,ne,le,wk⟩:=rg Z ks g;refine⟨_,rfl,.mk A nd hz hZ lp ne le λed H2 s2 J he=>?_⟩;have A2:=A.more s2;have S:ed≠am:=λz=>by rw[z,A.r]at J;cases J
 refine OJ c1 A2 hz he S rfl rfl λll ev T U nll K al=>?_;have B:=s1.trans (s2.trans U);refine⟨_,rfl,_,.inl ⟨_,SqL.of K,rfl⟩,?_⟩;cases d:ks.filter (iP S'.ended)with
 |nil=>rw[d]at al;cases al;exact hI (k none .bB T B rfl (.no g lp d))
 |cons h0 r=>
  rw[d]at al;cases al with
  |@cons _ v0 _ ev hv al=>
   obtain⟨b0,rfl,W⟩:=hv;refine d6 λwd f=>?_;have G:=aw (o:=.dT []) f;have J4:upd T wd (.dT []) wd=some (.dT (([]:List aE).map λk=>(k2 k,V.bl true))):=ag;obtain⟨m,w,hF,rl⟩:=wk h0 r d;have Y:=A2.more U;have L:=U _ _ he;have n1:am≠wd:=ax Y.r f;have n2:ed≠wd:=ax L f;have n3:∀k∈ks,AA k≠wd:=λk hk=>let ⟨_,e,_⟩:=Y.v k hk;ax e f;generalize upd T wd (.dT [])=H4 at G J4;refine⟨_,rfl,ll,_,0,_,rfl,rfl,SqL.of (G _ _ K),cV (j:=0) rfl,?_⟩;refine OG (HM:=H4) c2 (Y.more G) hZ (G _ _ L) n1 n2 n3 ⟨_,J4⟩ (λc u e _=>e) J4 (G _ _ W) rl rfl λb M kp N hb5=>?_;have O:Same H M:=λc u e=>kp _ _ (G _ _ (B _ _ e)) λz=>by rw[z,B.free f]at e;cases e
   refine⟨_,rfl,wd,_,rfl,.inl (.inl N),λC bs hhl s P=>?_⟩;have I:=aw (o:=.lst (bs.map V.ref)) hhl;have F:aN (IsSet (upd M C (.lst (bs.map V.ref)))) w (bs.map V.ref):=by
    generalize upd M C (.lst (bs.map V.ref))=H6 at I;rw[Ps]at s;clear rl N;induction w generalizing bs with
    |nil=>cases bs with
     |nil=>exact .nil
     |cons _ _=>cases s
    |cons x w ih=>cases bs with
     |nil=>cases s
     |cons y bs=>refine .cons ⟨y,rfl,I _ _ (P 0 _ y rfl rfl)⟩ (ih bs (by simpa using s) λi p b e1 e2=>P (i+1) p b (by simpa using e1) (by simpa using e2))
   have t:upd M C (.lst (bs.map V.ref)) C=some (.lst (bs.map V.ref)):=ag;obtain⟨hm,lw⟩:=rl.last (PQ _);obtain⟨j,hj⟩ : ∃j,(w.map pD).findIdx? (λe=>jp e (pD hF))=some j:=by
    cases e:(w.map pD).findIdx? (λe=>jp e (pD hF))with
    |some j=>exact⟨j,rfl⟩
    |none=>have:=List.findIdx?_eq_none_iff.mp e (pD hF) (Pt.mpr ⟨hF,hm,rfl⟩);rw[NY,P3 rfl]at this;cases this
   have hw:w[j]?=some hF:=by obtain⟨g1,g2,_⟩:=RW.mp hj;rw[List.getElem_map,NY]at g2;rw[Ps]at g1;rw[Px g1,Qa g2]
   generalize upd M C (.lst (bs.map V.ref))=H6 at I F t;have dp:=MM w;have dp:D.gn (w.map pD)+1<=50:=dp;refine⟨_,rfl,_,rfl,.inl ⟨rfl,_,SqL.of t⟩,_,rfl,C,_,w.map pD,pD hF,λ_=>True,λ_=>True,.ref b,j,rfl,rfl,.inl t,ML F,NT ⟨b,rfl,I _ _ hb5⟩,⟨by lia,Sy rfl⟩,hj,_,rfl,C,_,rfl,SqL.of t,λl R=>?_⟩;have s7:=aw (o:=.lst (fB (bs.map V.ref) (some (j:Nat)) none)) R;refine k (some (w.drop j)) _ _ (O.trans (I.trans s7)) ⟨l,_,rfl,(O.trans I).free R,ag,?_⟩ (.yes g lp d rl hw);rw[kM];rw[kM]at s7;exact(F.mono (bj (.of s7))).drop j
end
end L4
namespace L4
open PySem PySem.Spec PySem.Calls PyProof.Rows L2 L3 ST
section
variable{K:Uy}{Fw:List L3.D->Res R}{H:Hp}{q p:Addr}{D:Ends}{σ:L2.St}
def Kr(Fw:List L3.D->Res R):Prop:=∀x:Int,Fw [.int x]=.ok (.val (.bl true) true [])
theorem Reads.O8(ha:Reads ta σ H (.ref p))(hb:Reads tb σ H (.int i))(h:H p=some (.lst xs))(e:yO xs i=some v):Reads (bv (pz K) ta tb) σ H v:=ha.op hb λ_ q=>⟨p,xs,i,v,rfl,rfl,SqL.of h,e,q⟩
end
end L4
namespace L4
open PySem PySem.Spec PyProof.Rows L2 L3
structure Ii(ro sg:Int) (r:Sp.Rule):Prop where
 a:0<=r.1/\r.1<ro
 s:0<=r.2.1/\r.2.1<sg
 t:0<=r.2.2.1/\r.2.2.1<ro
 p:r.2.2.2.length<=2
 q:∀x∈r.2.2.2,0<=x/\x<sg
def Ks(K:Uy):V->Option Int->Option Int->Hp->VK->Prop:=λx lo b H Q=>∃a xs,x=.ref a/\SqT K H a xs/\(HT.sIx xs.length 0 lo=0->HT.sIx xs.length xs.length b=xs.length->Q x H)/\∀p,H p=none->Q (.ref p) (upd H p (.tup (fB xs lo b)))
section
variable{K:Uy}{H H':Hp}{D:Ends}{σ:L2.St}{vs:List V}{Q:VK}{E:XK}{ro sg:Int}
theorem Ej:I0 X (Ks X.K):=by
 intro ac s σ H x v c d lo b f Q I g hs pl i h;obtain⟨a,xs,e,j,h1,h2⟩:=h;by_cases w:HT.sIx xs.length 0 lo=0/\HT.sIx xs.length xs.length b=xs.length
 .exact Dw ac s σ H x v c d lo b f Q I g hs pl i ⟨a,xs,e,j,w,h1 w.1 w.2⟩
 .exact Gk ac s σ H x v c d lo b f Q I g hs pl i ⟨a,xs,e,j,w,h2⟩
def em{a b:Int}(h:0<b):0<=a%b/\a%b<b:=⟨Int.emod_nonneg _ (by lia),Int.emod_lt_of_pos _ h⟩
def Reads.mod(ha:Reads ta σ H (.int i))(hb:Reads tb σ H (.int j))(h:0<j):Reads (bv cK ta tb) σ H (.int (i%j)):=ha.op hb λ_ q=>⟨_,_,rfl,rfl,h,q⟩
def Reads.dv(ha:Reads ta σ H (.int i))(hb:Reads tb σ H (.int j))(h:0<j/\j<1073741824):Reads (bv jq ta tb) σ H (.int (i/j)):=ha.op hb λ_ q=>⟨_,_,rfl,rfl,h,q⟩
def jr:R2:=rI CMul λi j=>.int (i*j)
def Reads.mul(ha:Reads ta σ H (.int i))(hb:Reads tb σ H (.int j))(h:-(2^64)<j/\j<2^64):Reads (bv jr ta tb) σ H (.int (i*j)):=ha.op hb λ_ q=>⟨_,_,rfl,rfl,.inr h,q⟩
def Reads.ad(ha:Reads ta σ H (.int i))(hb:Reads tb σ H (.int j)):Reads (bv cY ta tb) σ H (.int (i+j)):=ha.op hb λ_ q=>⟨_,_,rfl,rfl,q⟩
def dW(h:Reads t σ H v)(k:D.nx (σ.set i (some v)) H):aZ t (aA i) D σ H:=h _ k
def Kt(h:te σ H λx H1=>tl σ H1 λl a=>th σ a λu b=>r x l u b Q):Gj r te tl th σ H Q:=h
theorem M3{Q:List V->Hp->Prop}(h:te σ H λv H1=>tr σ H1 λvs a=>Q (v::vs) a):au te tr σ H Q:=h
inductive Cc:Sp
 |mk {H:Hp} {c ro sg:Int} {b:Bool} {Q:VK} {E:XK} (h1:0<ro/\ro<1073741824) (h2:0<sg/\sg<1073741824) (k:∀p r H',Same H H'->IsRule H' r (.ref p)->Ii ro sg r->Q (.ref p) H'):Cc [.int c,.int ro,.int sg,.bl b] H Q E
def Bi(h:Cc vs H Q E):vs.length=4:=by cases h;rfl
def NZ(te:TE):TS:=cO (dc (au (ao 4) (au (ao 5) (au (ao 6) (au te aF)))))
def M4(K:Uy):TS:=NZ (Gj (Ks K) (dc (au (bv cK (ao 0) (ao 8)) (au (bv cK (bv jq (ao 0) (ao 8)) (ao 8)) aF))) lB (kY (ao 7)))
def Ku(K:Uy):TS:=aJ (dD (bQ (bv tQ (ao 8) (tC (.int 0)))) (NZ (dc aF)) cb) (M4 K)
def M5(K:Uy):TS:=aJ (dD (D_ K (ao 3)) (aZ (ao 5) (aA 8)) cb) (Ku K)
def LH(i j:Nat):TE:=bv cK (ao i) (ao j)
def LI(i j:Nat):TE:=bv jq (ao i) (ao j)
def M6(K:Uy):TS:=aJ (aZ (bv cK (ao 0) (tC (.int 3))) (aA 7)) (aJ (aZ (bv jq (ao 0) (tC (.int 3))) (aA 0)) (aJ (aZ (ao 2) (aA 8)) (M5 K)))
def OL(K:Uy):TS:=aJ (aZ (LH 0 1) (aA 4)) (aJ (aZ (LI 0 1) (aA 0)) (aJ (aZ (LH 0 2) (aA 5)) (aJ (aZ (LI 0 2) (aA 0)) (aJ (aZ (LH 0 1) (aA 6)) (aJ (aZ (LI 0 1) (aA 0)) (M6 K))))))
def N0{n a s t z w:Int}(ha:0<=a/\a<ro)(hs:0<=s/\s<sg)(u:0<=t/\t<ro)(y:0<=w/\w<=sg)(h2:sg<1073741824)(k:∀p r H',Same H H'->IsRule H' r (.ref p)->Ii ro sg r->Q (.ref p) H'):Ku K {nx:=λ_ H'=>Q .bB H',rt:=Q} [some (.int n),some (.int ro),some (.int sg),some b,some (.int a),some (.int s),some (.int t),some (.int z),some (.int w)] H:=by
 have d:∀{H1:Hp}{q:Addr}{put:List Int},Same H H1->H1 q=some (.tup (put.map .int))->put.length<=2->(∀x∈put,0<=x/\x<sg)->∀p,H1 p=none->Q (.ref p) (upd H1 p (.tup [.int a,.int s,.int t,.ref q])):=λ{H1 q put} s1 g h3 v p m=>k p (a,s,t,put) _ (s1.trans (aw m)) ⟨p,q,rfl,ag,aw m _ _ g⟩ ⟨ha,hs,u,h3,v⟩;refine gw (.Cb (.va rfl) .k) (λc=>?_) λc=>?_
 .refine⟨_,rfl,_,rfl,_,rfl,PQ _,λq g=>⟨by show 4<=_;rw[Qf];lia,d (put:=[]) (aw g) ag (PQ _) λ_ h=>nomatch h⟩⟩
 .have i:0<w:=by have:¬w=0:=λz=>c (P3 z);lia
  have A:=em (a:=n) i;have m2:=em (a:=n/w) i;have rd:ReadsA (au (LH 0 8) (au (bv cK (LI 0 8) (ao 8)) aF)) [some (.int n),some (.int ro),some (.int sg),some b,some (.int a),some (.int s),some (.int t),some (.int z),some (.int w)] H [.int (n%w),.int (n/w%w)]:=.c (.mod (.va rfl) (.va rfl) i) (.c (.mod (.dv (.va rfl) (.va rfl) ⟨i,by lia⟩) (.va rfl) i) .ni);refine⟨_,rfl,_,rfl,_,rfl,M3 (Kt (nX rd rfl λq g=>?_))⟩;have s1:=aw (o:=.tup [.int (n%w),.int (n/w%w)]) g;have f:upd H q (.tup [.int (n%w),.int (n/w%w)]) q=some (.tup ([n%w,n/w%w].map .int)):=ag;generalize upd H q (.tup [.int (n%w),.int (n/w%w)])=H1 at s1 f;have mem:∀x∈[n%w,n/w%w],0<=x/\x<sg:=λx j=>by
   rcases PB.mp j with e|e
   .rw[e];lia
   .rw[Py.mp e];lia
  refine⟨_,rfl,_,rfl,q,_,rfl,SqT.of f,λ_ _=>⟨by show 4<=_;rw[Qf];lia,d s1 f (Pq _) mem⟩,λq2 l=>⟨by show 4<=_;rw[Qf];lia,d (put:=([n%w,n/w%w].drop (HT.sIx 2 0 none)).take (HT.sIx 2 2 (some z)-HT.sIx 2 0 none)) (s1.trans (aw l)) ?_ ?_ λx j=>mem x (TU (Rp j))⟩⟩
  .rw[ag];unfold fB;rw[List.map_take,List.map_drop];rfl
  .rw[QN,SR];simp;lia
theorem Ek(h:Cc vs H Q E):OL K {nx:=λ_ H'=>Q .bB H',rt:=Q} (br ["_law_number","_law_rooms","_law_signs","_law_falls","_law_room","_law_sign","_law_to","_law_size","_law_below"] vs) H:=by
 obtain @⟨H,c,ro,sg,b,Q,E,h1,h2,k⟩:=h;refine dW (.mod (.va rfl) (.va rfl) h1.1) (dW (.dv (.va rfl) (.va rfl) h1) (dW (.mod (.va rfl) (.va rfl) h2.1) (dW (.dv (.va rfl) (.va rfl) h2) (dW (.mod (.va rfl) (.va rfl) h1.1) (dW (.dv (.va rfl) (.va rfl) h1) (dW (.mod (.va rfl) .k (by decide)) (dW (.dv (.va rfl) .k ⟨by decide,by decide⟩) (dW (.va rfl) ?_))))))));refine⟨_,rfl,b,rfl,?_⟩;have hs:=em (a:=c/ro) h2.1;cases b with
 |true=>exact hI (dW (.va rfl) (N0 (em h1.1) hs (em h1.1) (by lia) h2.2 k))
 |false=>exact d6 (N0 (em h1.1) hs (em h1.1) (by lia) h2.2 k)
end
section
variable{K:Uy}{mg:Str->Option UA}{Fm Fc:yS}{H H':Hp}{D:Ends}{σ:L2.St}{vs ws:List V}{Q:VK}{E:XK}{ro sg many:Int}{RL:List Sp.Rule}
inductive BW:Sp
 |mk {H:Hp} {c sg:Int} {Q:VK} {E:XK} (hs:0<sg) (k:∀l (aS:List Int) H',Same H H'->H l=none->H' l=some (.lst (aS.map .int))->aS.length<=5->(∀x∈aS,0<=x/\x<sg)->Q (.ref l) H'):BW [.int c,.int sg] H Q E
def Bj(h:BW vs H Q E):vs.length=2:=by cases h;rfl
def M7(K:Uy):TS:=aJ (aZ (bv cK (bv cY (bv cY (bv jr (ao 2) (tC (.int 48271))) (bv jr (ao 4) (ao 4))) (tC (.int 11))) (tC (.int 2147483647))) (aA 2)) (cj (qZ K "list" dG (ao 3) (au (bv cK (bv jq (ao 2) (tC (.int 7))) (ao 1)) aF)))
def OM(K:Uy):TS:=aJ (aZ (bv cK (bv jq (ao 0) (tC (.int 6))) (tC (.int 2147483647))) (aA 2)) (aJ (aZ (eJ aF) (aA 3)) (aJ (d4 (y_ (au (bv cK (ao 0) (tC (.int 6))) aF)) (aA 4) (M7 K)) (cO (ao 3))))
theorem El(h:BW vs H Q E):OM K {nx:=λ_ H'=>Q .bB H',rt:=Q} (br ["_law_cell","_law_signs","_law_number","_law_stack_here","_law_k"] vs) H:=by
 obtain @⟨H,c,sg,Q,E,hs,k⟩:=h;refine dW (.mod (.dv (.va rfl) .k ⟨by decide,by decide⟩) .k (by decide)) ⟨PQ _,λl g=>?_⟩;have q:=em (a:=c) (b:=6) (by decide);refine Reads.mod (.va rfl) .k (by decide) _ ⟨_,rfl,by lia,by lia,?_⟩;refine qh (n:=(c%6).toNat) (λi d H'=>∃(num:Int)(aS:List Int)(x4:Option V),d=[some (.int c),some (.int sg),some (.int num),some (.ref l),x4]/\Same H H'/\H' l=some (.lst (aS.map .int))/\aS.length=i/\∀x∈aS,0<=x/\x<sg) ⟨_,[],none,rfl,aw g,ag,rfl,λ_ h=>nomatch h⟩ (λi d H' p j=>j) (λd H' p=>Pq _) (λi d H' x m D' j p y o=>?_) λd H' p=>?_
 .obtain⟨num,aS,x4,rfl,s,f,ln,hb⟩:=p;obtain⟨rfl,rfl⟩:=y;rw[Int.zero_add];refine dW (.mod (.ad (.ad (.mul (.va rfl) .k ⟨by decide,by decide⟩) (.mul (.va (v:=.int (i:Nat)) rfl) (.va rfl) ⟨by lia,by lia⟩)) .k) .k (by decide)) ⟨_,rfl,.inl ⟨rfl,_,SqL.of f⟩,Reads.mod (.dv (.va rfl) .k ⟨by decide,by decide⟩) (.va rfl) hs _ ⟨l,_,_,rfl,rfl,f,jL (by rw[Ps];lia),o _ _ ⟨_,aS++[_],_,rfl,λc u e=>?_,by rw[ag,Qo];rfl,by rw[PJ,ln];rfl,λx hx=>?_⟩⟩⟩
  .rw[ai λz=>by rw[z,g]at e;cases e];exact s _ _ e
  .rcases PP.mp hx with hx|hx
   .exact hb x hx
   .rw[Py.mp hx];exact em hs
 .obtain⟨num,aS,x4,rfl,s,f,ln,hb⟩:=p;exact⟨_,rfl,k l aS H' s g f (by lia) hb⟩
structure E7(B H:Hp) (l:Addr) (ro sg:Int) (n:Nat) (RL:List Sp.Rule):Prop where
 s:Same B H
 l:∃ws,H l=some (.lst ws)/\aN (IsRule H) RL ws
 a:∀r∈RL,Ii ro sg r
 n:RL.length<=n
def E7.up{l:Addr}{n m:Nat}(h:E7 B H l ro sg n RL)(hm:n<=m):E7 B H l ro sg m RL:=⟨h.s,h.l,h.a,Qb h.n hm⟩
def Hq(K:Uy)(tn tb:TE):TS:=cj (qZ K "list" dG (ao 6) (au (bO Cc [] E0 (au tn (au (ao 1) (au (ao 2) (au tb aF))))) aF))
theorem N1(A:E7 B H l ro sg n RL)(nl:B l=none)(hz:n<1000)(h1:0<ro/\ro<1073741824)(h2:0<sg/\sg<1073741824)(f:σ[6]?=some (some (.ref l)))(e1:σ[1]?=some (some (.int ro)))(e2:σ[2]?=some (some (.int sg)))(g:Reads tn σ H (.int i))(hb:Reads tb σ H (.bl b))(k:∀H' r,Kp l H H'->E7 B H' l ro sg (n+1) (RL++[r])->D.nx σ H'):Hq K tn tb D σ H:=by
 obtain⟨s,⟨ws,d,al⟩,a,h⟩:=A;refine⟨_,f,.inl ⟨rfl,_,SqL.of d⟩,g _ ⟨_,e1,_,e2,hb _ (.mk h1 h2 λp r H1 s1 j rr=>?_)⟩⟩;have kt:KT H1 (upd H1 l (.lst (ws++[.ref p]))):=.upd (s1 _ _ d) λ_ z=>(nomatch z);refine⟨l,ws,_,rfl,rfl,s1 _ _ d,jL (by rw[<- al.len];lia),k _ r (λc u e n=>by rw[ai n];exact s1 _ _ e) ⟨λc u e=>?_,⟨_,ag,(al.mono (IsRule.keep ((KT.of s1).trans kt))).snoc (IsRule.keep kt _ _ j)⟩,λx hx=>?_,by rw[PJ,QM];lia⟩⟩
 .rw[ai λz=>by rw[z,nl]at e;cases e];exact s1 _ _ (s _ _ e)
 .rcases PP.mp hx with hx|hx
  .exact a x hx
  .rw[Py.mp hx];exact rr
inductive BZ(Fm Fc:yS):Sp
 |mk {H:Hp} {v0:V} {sc:List Int} {ro sg many x0 x1 y0:Int} {Q:VK} {E:XK} (is:Is H Tr (.lst (sc.map .int)) v0) (h1:0<ro/\ro<=8) (h2:0<sg/\sg<=14) (h3:ro*sg<=28) (hm:0<=many/\many<=12) (c0:Fc [.lst (sc.map .int),.int 0]=.ok (.val (.int x0) true [])) (m0:Fm [.int x0]=.ok (.val (.int y0) true [])) (c1:Fc [.lst (sc.map .int),.int 1]=.ok (.val (.int x1) true [])) (k:∀l ws RL H',Same H H'->H l=none->H' l=some (.lst ws)->aN (IsRule H') RL ws->(∀r∈RL,Ii ro sg r)->(RL.length:Int)<=ro*sg+12->Q (.ref l) H'):BZ Fm Fc [v0,.int ro,.int sg,.int many] H Q E
def Bk(h:BZ Fm Fc vs H Q E):vs.length=4:=by cases h;rfl
def Kv(tk:TE):TE:=IU (bv tQ (ao 4) (tC (.int 0))) (vz tk (bv Fv (bv cK (ao 8) (tC (.int 5))) (tC (.int 2))))
def M8(K:Uy)(tk:TE):TS:=aJ (aZ (Kv tk) (aA 9)) (Hq K (bv cK (bv jr (bv cY (bv cK (ao 8) (tC (.int 2147483647))) (tC (.int 5))) (tC (.int 69621))) (tC (.int 2147483647))) (yX (ao 9)))
def M9(K:Uy):TS:=aJ (aZ (bv cK (bv cY (bv cY (bv jr (ao 5) (ao 5)) (bv jr (tC (.int 48271)) (ao 5))) (ao 7)) (tC (.int 2147483647))) (aA 5)) (dD (bQ (bv Fv (bv cK (ao 5) (tC (.int 4))) (tC (.int 3)))) (Hq K (bv cY (bv jr (bv jr (bv jq (ao 5) (tC (.int 4))) (ao 1)) (ao 2)) (ao 7)) (bv G9 (ao 4) (tC (.int 0)))) cb)
def Kw(K:Uy)(tk:TE):TS:=aJ (d4 (y_ (au (bv jr (ao 1) (ao 2)) aF)) (aA 7) (M9 K)) (aJ (d4 (ce K (Gj (zi K) (ao 0) (kY (tC (.int 4))) (kY (bv cY (tC (.int 4)) (ao 3))))) (aA 8) (M8 K tk)) (cO (ao 6)))
def ON(K:Uy)(mg:Str->Option UA)(Fm Fc:yS)(a:Int)(tk:TE):TS:=aJ (aZ (bv cK (bv jq (D9 mg Fm Fc 0) (tC (.int 12))) (tC (.int a))) (aA 4)) (aJ (aZ (bv cY (bv cK (bO (nU mg 2 Fc) [] E0 (au (ao 0) (au (tC (.int 1)) aF))) (tC (.int 2147483647))) (tC (.int 48271))) (aA 5)) (aJ (aZ (eJ aF) (aA 6)) (Kw K tk)))
def sG(v0:V)(ro sg many kind num:Int)(l:Addr)(x7 x8 x9:Option V):L2.St:=[some v0,some (.int ro),some (.int sg),some (.int many),some (.int kind),some (.int num),some (.ref l),x7,x8,x9]
def M_(tk:TE):Prop:=∀v0 ro sg many kind num l x7 c x9 H,∃b,Reads tk (sG v0 ro sg many kind num l x7 (some (.int c)) x9) H (.bl b)
def Na:M_ (bv G9 (ao 4) (tC (.int 5))):=λ_ _ _ _ _ _ _ _ _ _ _=>⟨_,Reads.op (.va rfl) .k λ_ q=>⟨_,_,rfl,rfl,q⟩⟩
def Reads.O3{x7 x9:Option V}(e:M_ tk):∃b,Reads (Kv tk) (sG v0 ro sg many kind num l x7 (some (.int c)) x9) H (.bl b):=by
 have a:Reads (bv tQ (ao 4) (tC (.int 0))) (sG v0 ro sg many kind num l x7 (some (.int c)) x9) H (.bl (decide (kind=0))):=.Cb (.va rfl) .k;obtain⟨k,d⟩:=e v0 ro sg many kind num l x7 c x9 H;have f:Reads (bv Fv (bv cK (ao 8) (tC (.int 5))) (tC (.int 2))) (sG v0 ro sg many kind num l x7 (some (.int c)) x9) H (.bl (decide (c%5<2))):=Reads.op (.mod (.va rfl) .k (by decide)) .k λ_ q=>⟨_,_,rfl,rfl,q⟩;by_cases h0:kind=0
 .exact⟨true,λQ q=>a _ ⟨_,rfl,by rw[P3 h0];exact hI q⟩⟩
 .cases k with
  |true=>exact⟨_,λQ q=>a _ ⟨_,rfl,by rw[QA h0];exact d6 (d _ ⟨_,rfl,hI (f _ q)⟩)⟩⟩
  |false=>exact⟨false,λQ q=>a _ ⟨_,rfl,by rw[QA h0];exact d6 (d _ ⟨_,rfl,d6 q⟩)⟩⟩
def Bl(xs:List V)(a b:Int)(ha:0<=a)(hb:0<=b):(fB xs (some a) (some (a+b))).length<=b.toNat:=by
 unfold fB;rw[QN,SR];have e1:HT.sIx xs.length 0 (some a)=min a.toNat xs.length:=by have:=HT.sIx_nat xs.length 0 a.toNat;rw[T8 ha]at this;exact this
 have e2:HT.sIx xs.length xs.length (some (a+b))=min (a+b).toNat xs.length:=by have:=HT.sIx_nat xs.length xs.length (a+b).toNat;rw[T8 (by lia)]at this;exact this
 rw[e1,e2];refine Qb (Nat.min_le_left _ _) ?_;generalize xs.length=n;lia
theorem Em{g:Int}{tk:TE}(B:0<g)(X:M_ tk)(h:BZ Fm Fc vs H Q E):ON K mg Fm Fc g tk {nx:=λ_ H'=>Q .bB H',rt:=Q} (br ["_law_script","_law_rooms","_law_signs","_law_many","_law_kind","_law_number","_law_rules_here","_law_k","_law_cell","_law_free"] vs) H:=by
 obtain @⟨H,v0,sc,ro,sg,many,x0,x1,y0,Q,E,is,h1,h2,h3,hm,c0,m0,c1,k⟩:=h;have hp:0<ro*sg:=Int.mul_pos h1.1 h2.1;have M:0<ro/\ro<1073741824:=⟨h1.1,by lia⟩;have N:0<sg/\sg<1073741824:=⟨h2.1,by lia⟩;refine uZ (sd:=.lst (sc.map .int)) rfl is c0 m0 λH1 O=>⟨_,_,rfl,rfl,⟨by decide,by decide⟩,_,_,rfl,rfl,B,?_⟩;refine⟨_,rfl,AV (ds:=[.lst (sc.map .int),.int 1]) rfl ⟨_,_,rfl,D8 is O,_,_,rfl,rfl,rfl⟩ c1 λv P t2 e=>?_⟩;obtain rfl:v=.int x1:=e;refine⟨_,_,rfl,rfl,(by show(0:Int)<2147483647;decide),_,_,rfl,rfl,PQ _,λl R=>?_⟩;have s2:=O.trans t2;have nl:H l=none:=s2.free R;have S:E7 H (upd P l (.lst [])) l ro sg 0 []:=⟨s2.trans (aw R),⟨[],ag,.nil⟩,(λ_ h=>nomatch h),Pq _⟩;generalize upd P l (.lst [])=Y at S;show Kw K tk _ (sG v0 ro sg many (y0/12%g) (x1%2147483647+48271) l none none none) Y;have b1:=em (a:=x1) (b:=2147483647) (by decide);refine Reads.mul (.va rfl) (.va rfl) ⟨by lia,by lia⟩ _ ⟨_,rfl,by lia,by lia,?_⟩;refine qh (n:=(ro*sg).toNat) (λi d H'=>∃num RL x7,d=sG v0 ro sg many (y0/12%g) num l x7 none none/\E7 H H' l ro sg i RL/\0<=num/\num<4294967296) ⟨_,[],none,rfl,S,by lia,by lia⟩ (λi d H' p t=>t) (λd H' p=>Pq _) (λi d H' x Z D' t p y T=>?_) λd H' p=>?_
 .obtain⟨num,RL,x7,rfl,A,n0,n1⟩:=p;obtain⟨rfl,rfl⟩:=y;rw[Int.zero_add];have b2:=em (a:=num*num+48271*num+(i:Nat)) (b:=2147483647) (by decide);refine dW (.mod (.ad (.ad (.mul (.va rfl) (.va rfl) ⟨by lia,by lia⟩) (.mul .k (.va rfl) ⟨by lia,by lia⟩)) (.va (v:=.int (i:Nat)) rfl)) .k (by decide)) ?_;generalize(num*num+48271*num+(i:Nat))%2147483647=nm at b2;refine gw (te:=bv Fv (bv cK (ao 5) (tC (.int 4))) (tC (.int 3))) (c:=decide (nm%4<3)) (Reads.op (.mod (.va rfl) .k (by decide)) .k λ_ q=>⟨_,_,rfl,rfl,q⟩) (λ_=>?_) λ_=>T _ _ ⟨nm,RL,_,rfl,A.up (Ui _),by lia,by lia⟩;exact N1 (i:=nm/4*ro*sg+(i:Nat)) A nl (by lia) M N rfl rfl rfl (.ad (.mul (.mul (.dv (.va rfl) .k ⟨by decide,by decide⟩) (.va rfl) ⟨by lia,by lia⟩) (.va rfl) ⟨by lia,by lia⟩) (.va rfl)) (Reads.op (z:=.bl (decide (0<y0/12%g))) (.va rfl) .k λ_ q=>⟨_,_,rfl,rfl,q⟩) λH5 r _ C=>T _ _ ⟨nm,_,_,rfl,C,by lia,by lia⟩
 .obtain⟨num,RL,x7,rfl,A,n0,n1⟩:=p;obtain⟨la,m,e0,F,ia⟩:=wo (D8 is A.s);refine⟨_,rfl,_,rfl,_,rfl,_,_,rfl,rfl,_,rfl,la,m,e0,.inl F,λj u=>?_⟩;have w:=aw (o:=.lst (fB m (some 4) (some (4+many)))) u;have f:upd H' j (.lst (fB m (some 4) (some (4+many)))) j=some (.lst (fB m (some 4) (some (4+many)))):=ag;have dX:=Bl m 4 many (by decide) hm.1;have G:j≠l:=λz=>by obtain⟨ws,e,_⟩:=A.l;rw[<- z,u]at e;cases e
  have U:E7 H (upd H' j (.lst (fB m (some 4) (some (4+many))))) l ro sg (ro*sg).toNat RL:=⟨A.s.trans w,let ⟨ws,e,al⟩:=A.l;⟨ws,w _ _ e,al.mono (IsRule.keep (.of w))⟩,A.a,A.n⟩;have I:=J8 (ia.cut (some 4) (some (4+many))) w;generalize upd H' j (.lst (fB m (some 4) (some (4+many))))=H9 at f U I;have J:rP (sc.map L3.D.int) (some 4) (some (4+many))=(rP sc (some 4) (some (4+many))).map L3.D.int:=by unfold rP;rw[Ps,List.map_take,List.map_drop]
  rw[J]at I;have ei:=mV I;rw[ei]at f dX;generalize rP sc (some 4) (some (4+many))=V at f dX;have hn:=A.n;refine⟨j,rfl,⟨_,SqL.of f⟩,cf (K:=K) (a:=j) (xs:=V.map .int) (λi d H'=>∃RL x8 x9,d=sG v0 ro sg many (y0/12%g) num l x7 x8 x9/\E7 H H' l ro sg ((ro*sg).toNat+i) RL/\H' j=some (.lst (V.map .int))) ⟨RL,none,none,rfl,U,f⟩ (λi d H' _ ⟨_,_,_,_,_,h⟩=>SqL.of h) (λi v d H' t ⟨RL,x8,x9,L,A,W⟩=>?_) λd H' ⟨RL,x8,x9,L,A,W⟩=>?_⟩
  .subst L;rw[PR]at t;obtain⟨c,J,rfl⟩:=QV.mp t;have il:=(PF.mp J).1;rw[Ps]at dX;obtain⟨b,rb⟩:=Reads.O3 X (H:=H') (ro:=ro) (sg:=sg) (many:=many) (kind:=y0/12%g) (c:=c) (v0:=v0) (num:=num) (l:=l) (x7:=x7) (x9:=x9);refine rb _ ?_;refine N1 (σ:=sG v0 ro sg many (y0/12%g) num l x7 (some (.int c)) (some (.bl b))) A nl (by lia) M N rfl rfl rfl (.mod (.mul (.ad (.mod (.va rfl) .k (by decide)) .k) .k ⟨by decide,by decide⟩) .k (by decide)) (λQ q=>⟨_,rfl,_,rfl,q⟩) λH5 r kp C=>⟨_,_,_,rfl,C,kp _ _ W G⟩
  .subst L;obtain⟨ws,e,al⟩:=A.l;have h5:=A.n;rw[Ps]at dX h5;exact⟨_,rfl,k l ws RL H' A.s nl e al A.a (by lia)⟩
end
def LJ(RL:List Sp.Rule)(x y:Rw):Prop:=∃r∈RL,∃w,x=(r.1,r.2.1::w)/\y=(r.2.2.1,r.2.2.2++w)
def Eo(a:∀r∈RL,r.2.2.2.length<=2)(h:LJ RL x y):y.2.length<=x.2.length+1/\x.2.length<=y.2.length+1/\x.2≠[]:=by obtain⟨r,b,w,rfl,rfl⟩:=h;have:=a r b;refine⟨?_,?_,λz=>nomatch z⟩<;>simp<;>lia
section
variable{X:Cx}{K:Uy}{H H':Hp}{r:Addr}{σ:L2.St}{ws:List V}{RL:List Sp.Rule}
def Kx(K:Uy):TT:=F9 (bQ (bv tQ (tI K 0 0) (ao 1))) (bQ (bv tQ (tI K 0 1) (bv (pz K) (ao 2) (tC (.int 0)))))
def Ep{Fin:Addr->List V->Hp->Prop}(h1:tN.length=1)(p:jz σ caps=[some (.int room),some (.ref sl)])(J:∀cl C t x fp,PG (aV X scope (tN++capN) cl C t x fp) tg (aA 0))(L:∀cl C t x fp,yQ (aV X scope (tN++capN) cl C t x fp) ifs (Kx X.K))(M:∀cl C t x fp,PE (aV X scope (tN++capN) cl C t x fp) elt (ao 0))
 (D:Rd H1 l (.lst ws)) (al:aN (IsRule H1) RL ws) (hs:Rd H1 sl (.lst ((s::w).map .int))) (hz:RL.length<1000) (k:∀d a H',Same H1 H'->H1 d=none->H' d=some (.lst a)->aN (IsRule H') (RL.filter λr=>r.1==room&&r.2.1==s) a->Fin d a H'):cw X scope tg tN capN caps elt ifs σ Fin (y8 X.K l) H1:=by
 have ln:=al.len;refine jG (n:=RL.length) J L M (λd i a H'=>Same H1 H'/\H' d=some (.lst a)/\aN (IsRule H') ((RL.take i).filter λr=>r.1==room&&r.2.1==s) a/\H1 d=none) (λd m=>⟨aw m,ag,.nil,m⟩) (λh=>h.2.1) (λd i a H' ⟨f,_⟩ N=>⟨ws,ws[i]'(by lia),.inl (ba f D),Px _⟩) (λd a H' ⟨f,_⟩=>⟨ws,.inl (ba f D),by lia⟩) (λd i a H' P g Q N ⟨f,m,o,E⟩ y A=>?_) λd a H' m ⟨f,F,o,_⟩=>k d a H' f m F (by rw[Qk]at o;exact o);obtain⟨rfl,y⟩:=y;obtain⟨r,O,B⟩:=al.get (y _ (.inl (ba f D)));have B:=IsRule.keep (.of f) _ _ B;obtain⟨b,q,rfl,hb,R⟩:=id B;rw[h1]at A;obtain⟨S,rfl⟩:=RC.mp A;rw[p];have G:RL.take (i+1)=RL.take i++[r]:=by rw[P0,O];rfl
 have lt:=QG i RL;have no:(r.1==room&&r.2.1==s)=false->Same H1 g/\g d=some (.lst a)/\aN (IsRule g) ((RL.take (i+1)).filter λr=>r.1==room&&r.2.1==s) a/\H1 d=none:=λc=>⟨f,m,by rw[G,QK,QX,PK (by rw[c];decide),List.filter_nil,QR];exact o,E⟩;refine⟨λj I=>?_,Reads.Cb (.ix (.va rfl) hb (v:=.int r.1) rfl) (.va (v:=.int room) rfl) _ ⟨_,rfl,ub (λc1=>?_) λc1=>d6 (no ?_)⟩⟩
 .rw[h1]at I;obtain⟨j,rfl⟩:=QJ I;rfl
 .have c1:=Qa c1;refine Reads.Cb (.ix (.va rfl) hb (v:=.int r.2.1) rfl) (Reads.op (z:=.int s) (.va rfl) .k λ_ q=>⟨sl,_,0,_,rfl,rfl,.inl (ba f hs),cV (j:=0) rfl,q⟩) _ ⟨_,rfl,ub (λc2=>?_) λc2=>no ?_⟩
  .have c2:=Qa c2;have kt:KT g (upd g d (.lst (a++[.ref b]))):=.upd m λ_ z=>(nomatch z);refine⟨_,rfl,m,jL (by rw[<- o.len];exact QS (Rv _ _) (by lia)),λc u e=>?_,ag,?_,E⟩
   .rw[ai (ax e E)];exact f _ _ e
   .rw[G,QK,QX,PN (by rw[c1,c2,BEq.rfl,BEq.rfl];rfl)];exact(o.mono (IsRule.keep kt)).snoc (IsRule.keep kt _ _ B)
  .rw[Ru.mpr λz=>c2 (P3 z),SI]
 .rw[Ru.mpr λz=>c1 (P3 z),RY]
def Er(K:Uy)(i:Nat):TE:=fQ (fX K) (au (ao i) aF)
def Reads.N7(h:σ[i]?=some (some (.ref p)))(a:Rd H p (.lst xs)):Reads (bv G9 (Er K i) (tC (.int 0))) σ H (.bl (decide (0<((xs.length:Nat):Int)))):=Reads.op (.B5 (.va h) a) .k λ_ q=>⟨_,_,rfl,rfl,q⟩
end
def j6(c:X.calm=true)(S:cB X scope tN capN caps)(d:X.N.Nodup)(a:X.N[i]?=some y)(e:X.env.scope.names.lookup y=some .local)(f:PI X tg iter wi)
 (b:autoParam (swapsWith (.ListComp elt [⟨tg,iter,ifs,0⟩] scope pos) (some (.Name y py)) spos.line X.env=pure true) az) (hs:autoParam (∀x,foldedSetIterable iter X.env x=pure x) af):PS X (.Assign [.Name y py] (.ListComp elt [⟨tg,iter,ifs,0⟩] scope pos) spos) (qp X scope tg elt tN capN caps ifs i wi):=λac s σ H D I h=>z_ c S d a e b I f h hs
section
variable{X:Cx}{K:Uy}{mg:Str->Option UA}{Fr:yS}{H H':Hp}{vs:List V}{Q:VK}{E:XK}
def yi:∀(l a:List (List bI×V)),((a++l).map (·.1)).Nodup->eQ a l=a++l:=by
 intro l;induction l with
 |nil=>intro a _;rw[QR];rfl
 |cons x l b=>
  intro a nd;have c:¬(a.any λy=>decide (y.1=x.1))=true:=λh=>by obtain⟨y,d,e⟩:=List.any_eq_true.mp h;rw[Qo,PU]at nd;exact(Qj.mp nd).2.2 y.1 (Pt.mpr ⟨y,d,rfl⟩) x.1 (by simp) (Qa e)
  have:cg a x.1 x.2=a++[x]:=by unfold cg;rw[PK c]
  show eQ (cg a x.1 x.2) l=_;rw[this,b (a++[x]) (by rw[Qm];exact nd),Qm];rfl
theorem u7(h:Is H' (nl H H') (k9 t) v):∃d kvs u,v=.ref d/\H d=none/\H' d=some u/\(u=.dT kvs\/(u=.dK []/\kvs=[]))/\kvs.map (·.1)=(t.map (·.1)).map ak/\∀(i:Nat) k w,kvs[i]?=some (k,w)->∃p q ws,w=.ref p/\H' p=some (.tup (.int q::ws)):=by
 obtain⟨d,kvs,u,f,m,a,g,j⟩:=uV (As:=t.map (·.1)) (by unfold k9 at h;rw[QC];exact h);obtain⟨d',vs,e1,⟨n,_⟩,all⟩:=h;cases f.symm.trans e1;refine⟨d,kvs,u,f,m,a,g,j,λi k w c=>?_⟩;have s:vs[i]?=some w:=by
  rcases g with rfl|⟨rfl,rfl⟩
  .rcases n with⟨b,e|⟨o,e⟩,h1,h2⟩|⟨b,e|⟨o,e⟩,h1,h2⟩
   .rw[a]at e;cases e
   .rw[a]at e;cases e
   .rw[a]at e;cases e;rw[h2,PR,c];rfl
   .rw[a]at e;cases e
  .simp at c
 obtain⟨x,y⟩ : ∃x,t[i]?=some x:=⟨_,Px (by have:=Q1 List.length j;have:=(PF.mp c).1;simp at *;lia)⟩;obtain⟨C,l,z⟩:=all.get (i:=i) (d:=Hc x.2) (by rw[PR,y];rfl);rw[s]at l;cases l;obtain⟨p,ws,rfl,A,v0,r,rfl,B,_⟩:=z;obtain rfl:v0=.int x.2.1:=B;exact⟨p,_,r,rfl,A⟩
def IN(ro:Int):L3.D:=.tup [.int ro,.lst [],.lst []]
inductive ig(Fr:yS):Sp
 |mk {H:Hp} {p:Addr} {hD:L3.D} {ro:Int} {ws:List V} {t:Pz.TD} {Q:VK} {E:XK} (is:Is H Tr hD (.ref p)) (hp:H p=some (.tup (.int ro::ws))) (hF:Fr [hD,IN ro]=.ok (.BQ (k9 t))) (nd:(t.map (·.1)).Nodup) (hz:t.length<1000) (k:∀d kvs H',Same H H'->H d=none->H' d=some (.dT kvs)->kvs.map (·.1)=(t.map (·.1)).map ak->Q (.ref d) H'):ig Fr [.ref p] H Q E
def Bm(h:ig Fr vs H Q E):vs.length=1:=by cases h;rfl
def Nb(K:Uy):TE:=dc (au (ao 0) (au (tI K 1 0) aF))
def Nc(X:Cx)(scope:Scope)(tg a:Expr)(tN:List Str):TS:=cO (fQ jF (au (iH X scope tg tN [] [] a [] (zX X (ao 1))) aF))
def OO(X:Cx)(mg:Str->Option UA)(Fr:yS)(scope:Scope)(tg a:Expr)(tN:List Str):TS:=aJ (aZ (bO (nU mg 2 Fr) [] E0 (au (ao 0) (au (dc (au (tI X.K 0 0) (au (eJ aF) (au (eJ aF) aF)))) aF))) (aA 1)) (Nc X scope tg a tN)
def Ky{As:List Sp.Arr}(h:As.Nodup):(As.map ak).Nodup:=by unfold List.Nodup;rw[Q0];exact h.imp λh e=>h (uJ _ _ e)
def Es{scope:Scope}(h1:tN.length=2)(hg:∀cl C A J fp,PG (aV X scope (tN++[]) cl C A J fp) tg (dZ X.K 2 (aW (aA 0) (aW (aA 1) dY)))) (he:∀cl C A J fp,PE (aV X scope (tN++[]) cl C A J fp) elt (Nb X.K)) (h:ig Fr vs H Q E):OO X mg Fr scope tg elt tN {nx:=λ_ H'=>Q .bB H',rt:=Q} (br ["house","told"] vs) H:=by
 obtain @⟨H,p,D,ro,ws,t,Q,E,is,hp,hF,nd,hz,k⟩:=h;refine⟨_,rfl,Reads.ix (n:=0) (.va (i:=0) rfl) hp (v:=.int ro) (cV (j:=0) rfl) _ ⟨PQ _,λg T=>⟨PQ _,λm U=>⟨by show 3<=_;rw[Qf];lia,λq hq=>?_⟩⟩⟩⟩;have t1:=aw (o:=.lst []) T;have t2:=aw (o:=.lst []) U;have V:=aw (o:=.tup [.int ro,.ref g,.ref m]) hq;have a1:=V _ _ (t2 _ _ (ag:upd H g (.lst []) g=_));have a2:=V _ _ (ag:upd (upd H g (.lst [])) m (.lst []) m=_);have a3:upd (upd (upd H g (.lst [])) m (.lst [])) q (.tup [.int ro,.ref g,.ref m]) q=some (.tup [.int ro,.ref g,.ref m]):=ag;have r:=(t1.trans t2).trans V;generalize upd (upd (upd H g (.lst [])) m (.lst [])) q (.tup [.int ro,.ref g,.ref m])=J at r a1 a2 a3;refine⟨rfl,[D,IN ro],Tr,⟨_,_,rfl,D8 is r,_,_,rfl,⟨q,_,rfl,a3,_,_,rfl,rfl,_,_,rfl,⟨g,[],rfl,.inl ⟨a1,True.intro⟩,rfl⟩,_,_,rfl,⟨m,[],rfl,.inl ⟨a2,True.intro⟩,rfl⟩,rfl⟩,rfl⟩,?_⟩;rw[hF];intro v F W r4;have W:Same J F:=W;obtain⟨d,kvs,u,rfl,n4,e4,hu,Y,hv⟩:=u7 r4;have nw:nO u:=by rcases hu with rfl|⟨rfl,_⟩<;>exact True.intro
 have ln:kvs.length=t.length:=by have:=Q1 List.length Y;simpa using this
 refine⟨_,rfl,d,kvs,u,rfl,hu,.inr ⟨e4,λo ho=>?_⟩⟩;have Z:upd F d (.bP o u) d=some (.bP o u):=ag;have kp:Kp d F (upd F d (.bP o u)):=λc w e n=>by rw[ai n];exact e
 have kt:KT F (upd F d (.bP o u)):=.upd e4 λws z=>by subst z;exact nw
 generalize upd F d (.bP o u)=H5 at Z kp kt;have nd3:H d=none:=r.free n4;refine jG (n:=kvs.length) hg (λ_ _ _ _ _=>fU) he (λl i f H'=>Same H5 H'/\H' l=some (.lst f)/\(∃ps,i6 H' f ps/\ps.map (·.1)=(kvs.take i).map (·.1))/\f.length=i/\H5 l=none) (λl D=>⟨aw D,ag,⟨[],.nil,rfl⟩,rfl,D⟩) (λh=>h.2.1) (λl i f H' ⟨B,_⟩ hi=>⟨B _ _ Z,hi⟩) (λl f H' ⟨B,_⟩=>⟨B _ _ Z,Pq _⟩) (λl i f H' xv H'' ol hi ⟨B,D,⟨ps,pi,L⟩,al,nD⟩ y M=>?_) λl f H' D ⟨B,hD',⟨ps,pi,L⟩,_⟩=>?_
 .obtain⟨p5,b,kk,w,hp5,rfl,hb,rfl,e⟩:=y;obtain⟨pw,R,wr,rfl,G⟩:=hv i kk w e;rw[h1]at M;obtain⟨u0,u1,rfl⟩ : ∃x y,ol=[x,y]:=by
   match ol,M with
   |[x,y],_=>exact⟨x,y,rfl⟩
  have s2:Same H' (upd H' p5 (.tup [.ref b,.ref pw])):=aw hp5;have G:=s2 _ _ (B _ _ (kt _ _ G));refine yR ag ⟨λj hj=>?_,hI (nX (ws:=[.ref b,.int R]) (.c (.va rfl) (.c (.ix (.va rfl) G (cV (j:=0) rfl)) .ni)) rfl λN I=>?_)⟩
  .rw[h1]at hj;obtain⟨j,rfl⟩:=QJ hj;rfl
  .have s:=s2 _ _ D;generalize upd H' p5 (.tup [.ref b,.ref pw])=S at s2 I s;have np:l≠N:=ax s I;have A:Same S (upd S N (.tup [.ref b,.int R])):=aw I;have k3:KT S (upd (upd S N (.tup [.ref b,.int R])) l (.lst (f++[.ref N]))):=(KT.of A).trans (.upd (A _ _ s) λ_ z=>(nomatch z));refine⟨A _ _ s,jL (by lia),λc u e=>?_,ag,⟨ps++[(kk,.int R)],?_,?_⟩,by rw[PJ,al];rfl,nD⟩
   .rw[ai (ax e nD)];exact A _ _ (s2 _ _ (B _ _ e))
   .have O:=(KT.of s2).trans k3;exact Paired.snoc (Paired.imp' (λa b ⟨p,ka,e,e1,e2⟩=>⟨p,ka,e,O _ _ e1,O _ _ e2⟩) pi) ⟨N,b,rfl,by rw[ai (QQ np),ag],k3 _ _ (s2 _ _ hb)⟩
   .rw[P0,e,Qo,Qo,L];rfl
 .rw[Qk]at L;refine⟨l,f,ps,rfl,.inl hD',pi,λd2 P=>?_⟩;rw[yi ps [] (by rw[Sx,L,Y];exact Ky nd),Sx];have sH:Same H H':=λc w e=>B _ _ (kp _ _ (W _ _ (r _ _ e)) λz=>by rw[z,nd3]at e;cases e);exact k d2 ps _ (sH.trans (aw P)) (sH.free P) ag (by rw[L,Y])
theorem Hr(is:Is H Tr hD (.ref p))(a:H p=some (.tup (.int ro::ws)))(b:Fr [hD,IN ro]=.ok (.BQ (k9 t)))(nd:(t.map (·.1)).Nodup)(hz:t.length<1000):J0 (ig Fr) H (.ref p) (t.map (·.1)):=λH1 s1 Q k=>.mk (D8 is s1) (s1 _ _ a) b nd hz λd kvs H' s n e h=>k d kvs _ H' s n e (.inl rfl) h
end
structure Cd where
 (Fr Fm Fc:yS)
structure NI(Fr:yS) (rooms signs:Int) (RL:List Sp.Rule) (t:Pz.TD):Prop where
 p:Fr [jH rooms signs RL,IN rooms]=.ok (.BQ (k9 t))
 nd:(t.map (·.1)).Nodup
 z:t.length<1000
 n:RL.length<1000
 f:IM (Ls (t.map (·.1)) RL)
section
def Kz(K:Uy):TE:=Gj (zi K) (ao 0) (kY (bv cY (tC (.int 4)) (ao 4))) (kY (bv cY (tC (.int 64)) (ao 4)))
def Nd:TE:=bO BW [] E0 (au (bv jq (ao 6) (tC (.int 3))) (au (ao 3) aF))
end
section
variable{H H':Hp}{p d:Addr}{rooms signs:Int}{aS:List Int}{D:Ends}
theorem yj(rooms signs:Int)(RL:List Sp.Rule):(jH rooms signs RL).dep<=50:=by
 have:L3.D.gn (RL.map eF)<=4:=j4 λd hd=>by
  obtain⟨x,_,rfl⟩:=Pt.mp hd;have:L3.D.gn (x.2.2.2.map L3.D.int)<=1:=j4 λd hd=>by obtain⟨y,_,rfl⟩:=Pt.mp hd;exact PQ _
  show max 0 (max 0 (max 0 (max (L3.D.gn (x.2.2.2.map L3.D.int)+1) 0)))+1<=4;lia
 show max 0 (max 0 (max (L3.D.gn (RL.map eF)+1) 0))+1<=50;lia
structure qE(H:Hp) (room:Int) (aS:List Int) (p l:Addr):Prop where
 t:H p=some (.tup [.int room,.ref l])
 l:Rd H l (.lst (aS.map .int))
def qE.more{l:Addr}(h:qE H room aS p l)(s:Same H H'):qE H' room aS p l:=⟨s _ _ h.t,ba s h.l⟩
def qE.is{l:Addr}(h:qE H room aS p l):Is H Tr (.tup [.int room,.lst (aS.map .int)]) (.ref p):=⟨p,_,rfl,h.t,_,_,rfl,rfl,_,_,rfl,⟨l,_,rfl,h.l.imp (λe=>⟨e,True.intro⟩) (λ⟨o,e⟩=>⟨o,e,True.intro⟩),jA _⟩,rfl⟩
open Classical in
theorem Hu{α:Type}{l:List α}(h:l.length=12):∃c e f g i j k m n o a b,l=[c,e,f,g,i,j,k,m,n,o,a,b]:=by
 match l,h with
 |[c,e,f,g,i,j,k,m,n,o,a,b],_=>exact⟨_,_,_,_,_,_,_,_,_,_,_,_,rfl⟩
end
def FI(K:Uy):List V->Hp->VK->Prop:=λxs H Q=>∃p,xs=[.ref p]/\SqL K H p []/\Q (.bl true) H
def Nf:List L3.D->Res R
 |[_,.tup [_,.lst [],_]]=>.ok (.val .bB true [])
 |_=>.stuck
section
variable{X:Cx}{K:Uy}{mg:Str->Option UA}{H H':Hp}{σ:L2.St}{vs:List V}{Q:VK}{E E1:XK}
theorem yk(a:X.calm=true):bV X (.builtin "all") (FI X.K):=by
 intro ac s σ H xs us Q I r h;obtain⟨p,rfl,c,q⟩:=h;obtain⟨u,rfl,d⟩:=dU r;cases d;obtain⟨its,f,pl,hz⟩:=I.list c;cases its with
 |cons=>exact absurd f.length (by simp)
 |nil=>
 have g:X.A.in1.handled=none:=I.ok.hd a;obtain⟨o,j,_⟩:=pl.isList;refine call_all_walk (Tl pl.isList ?_);refine⟨s.heap.objs.size,_,_,_,_,_,λ_=>true,rfl,Walks.list g s.heap.objs.size p (P7 (PD j)) [].toArray,⟨⟨_,PH _ rfl,rfl,rfl⟩,pl.isList.at λo e=>Pp _ e⟩,λi v n t w k=>?_,λh' tk l=>⟨.bl true,H,?_,?_,q⟩⟩
 .simp at k
 rotate_left
 .rfl
 have m:L2.Inv X ac σ H { s with heap:=s.heap.push { cls:=.type "list_iterator",data:=.fields #[.ref p,.int 0 0] } }:=I.kept (t':=s.toks) λb o e=>Pp _ e;have fo:=I.tp (H':=H) (Pq s.heap.objs.size) (I.aT.fresh (Pq _));exact m.turned (t':=tk) (it:=s.heap.objs.size) (λb o hb e=>l b o (by simpa using hb) e) fo.1 fo.2.1 fo.2.2.2.1 fo.2.2.2.2.1 fo.2.2.2.2.2
inductive BS:Sp
 |mk {H:Hp} {v a b:V} {q l:Addr} {Q:VK} {E:XK} (hq:H q=some (.tup [a,.ref l,b])) (hl:Rd H l (.lst [])) (k:∀H',Same H H'->Q (.bl true) H')   : BS [v,.ref q] H Q E
def Bn(h:BS vs H Q E):vs.length=2:=by cases h;rfl
def OP(X:Cx)(scope:Scope)(tg a:Expr)(tN capN:List Str)(caps:List Nat):TS:=cO (fQ (FI X.K) (au (iH X scope tg tN capN caps a [] (ce X.K (tI X.K 1 1))) aF))
def Et(h:BS vs H Q E):OP X scope tg elt tN capN caps {nx:=λ_ H'=>Q .bB H',rt:=Q} (br ["house","machine"] vs) H:=by obtain @⟨H,v,a,b,q,l,Q,E,hq,hl,k⟩:=h;refine Reads.ix (n:=1) (.va (i:=1) rfl) hq (v:=.ref l) (cV (j:=1) rfl) _ ⟨l,rfl,⟨_,.inl hl⟩,λe f cl C g fp=>⟨λ_ _ _ _=>False,_,λ_ _ _=>False,λi m c H'=>c=[]/\Same H H'/\H' e=some (.lst []),λ_ _ _ _ _ _ _ _ _ h=>h.elim,fU,λ_ _ _ _ _ _ h=>h.elim,⟨0,rfl,aw f,ag⟩,?_⟩⟩;rintro i m c H' ⟨rfl,s,d⟩;exact⟨d,.inl ⟨⟨[],.inl (ba s hl),PQ _⟩,e,rfl,SqL.of d,k _ s⟩⟩
def KA:TS:=λ_ _ _=>False
def Hv:PSs X b KA:=λ_ _ _ _ _ _ h=>h.elim
def OQ(E:XK):TS:=dD (pb (tB (bO BS [] E (au (ao 0) (au (ao 1) aF))))) KA cb
def Eu(h:nU mg 2 Nf vs H Q E):OQ E1 {nx:=λ_ H'=>Q .bB H',rt:=Q} (br ["house","machine"] vs) H:=by
 obtain⟨d,ds,Ma,is,a⟩:=h;unfold Nf at a;split at a
 .obtain⟨v0,e,rfl,f,g,i,rfl,⟨q,ws,rfl,b,j,k,rfl,m,n,p,rfl,⟨l,xs,rfl,c,ex⟩,r,t2,rfl,t,rfl⟩,rfl⟩:=is;obtain rfl:xs=[]:=ex;exact⟨_,rfl,_,rfl,.mk b (c.imp (·.1) λ⟨o,h⟩=>⟨o,h.1⟩) λH' s=>⟨true,rfl,d6 (a _ _ s rfl)⟩⟩
 .exact a.elim
end
def KB:List L3.D->Res R
 |[.lst ds,.int k]=>if k<0 then .stuck else match(ds[k.toNat]?).getD (.int 0)with
  |.int x=>.ok (.val (.int x) true [])
  |_=>.stuck
 |_=>.stuck
def Ng:List L3.D->Res R
 |[.int c]=>.ok (.val (.int ((c%2147483647+11)*48271%2147483647)) true [])
 |_=>.stuck
def Nh:List L3.D->Res R
 |[.int _]=>.ok (.val (.bl true) true [])
 |_=>.stuck
section
variable{K:Uy}{mg:Str->Option UA}{H H':Hp}{vs:List V}{Q:VK}{E:XK}
def OR(K:Uy):TS:=aJ (dD (bQ (bv Fv (ao 1) (fQ (fX K) (au (ao 0) aF)))) (cO (bv (pz K) (ao 0) (ao 1))) cb) (cO (tC (.int 0)))
def Ew(h:nU mg 2 KB vs H Q E):OR K {nx:=λ_ H'=>Q .bB H',rt:=Q} (br ["_law_script","_law_k"] vs) H:=by
 obtain⟨l,ds,Ma,is,b⟩:=h;unfold KB at b;split at b
 case h_2=>exact b.elim
 rename_i ds k;split at b
 .exact b.elim
 rename_i m;obtain⟨v0,n,rfl,⟨a,ws,rfl,d,f⟩,g,p,rfl,e1,rfl⟩:=is;obtain rfl:g=.int k:=e1;have d:Rd H a (.lst ws):=d.imp (·.1) λ⟨o,h⟩=>⟨o,h.1⟩;obtain⟨k,rfl⟩:=Q8 (by lia:0<=k);split at b
 case h_2=>exact b.elim
 rename_i x ex;have ln:=f.length;refine gw (Reads.op (.va rfl) (.B5 (.va rfl) d) λ_ q=>⟨_,_,rfl,rfl,q⟩) (λc=>?_) λc=>?_
 .have c:k<ds.length:=by have:=Qa c;lia
  have i:ds[k]?=some (.int x):=by rw[show(((k:Nat):Int).toNat)=k from rfl,Px c]at ex;rw[Px c];exact Q1 some ex
  obtain⟨w,j,f⟩:=f.get i;obtain rfl:w=.int x:=f;exact Reads.O_ (.va rfl) (.va rfl) d j rfl _ (b _ _ (λ_ _ e=>e) rfl)
 .have c:ds.length<=k:=by have:¬((k:Nat):Int)<ws.length:=λz=>c (P3 z);lia
  rw[show(((k:Nat):Int).toNat)=k from rfl,Rx c]at ex;cases ex;exact b _ _ (λ_ _ e=>e) rfl
def OS:TS:=cO (bv cK (bv jr (bv cY (bv cK (ao 0) (tC (.int 2147483647))) (tC (.int 11))) (tC (.int 48271))) (tC (.int 2147483647)))
def Ex(h:nU mg 1 Ng vs H Q E):OS {nx:=λ_ H'=>Q .bB H',rt:=Q} (br ["_law_cell"] vs) H:=by
 obtain⟨c,ds,Ma,is,a⟩:=h;unfold Ng at a;split at a
 case h_2=>exact a.elim
 obtain⟨v0,d,rfl,b,rfl⟩:=is;cases b;exact Reads.mod (.mul (.ad (.mod (.va rfl) .k (by decide)) .k) .k (by decide)) .k (by decide) _ (a _ _ (λ_ _ e=>e) rfl)
def OT(K:Uy):TS:=cO (vz (D5 K "int" (ao 0)) (yX (D5 K "bool" (ao 0))))
def Ey(h:nU mg 1 Nh vs H Q E):OT K {nx:=λ_ H'=>Q .bB H',rt:=Q} (br ["_law_found"] vs) H:=by
 obtain⟨c,ds,Ma,is,a⟩:=h;unfold Nh at a;split at a
 case h_2=>exact a.elim
 rename_i x;obtain⟨v0,d,rfl,b,rfl⟩:=is;cases b;exact Reads.NF (dd:=.int x) (.va rfl) (.inl (.int x)) Ab _ ⟨true,rfl,hI (Reads.NF (dd:=.int x) (.va rfl) (.inl (.int x)) xA _ ⟨false,rfl,a _ _ (λ_ _ e=>e) rfl⟩)⟩
end
section
def Ni(te:TE)(n:Int):TE:=bv cK te (tC (.int n))
def N2(n:Int):TE:=bv jq (ao 1) (tC (.int n))
end
section
variable{K:Uy}{H H':Hp}{C:Addr}{vs:List V}{Q:VK}{E:XK}{f:aE->V}
theorem o7:∀{w:List aE}{bs:List Addr},bs.length=w.length->(∀(i:Nat) p b,(w.map λk=>(k2 k,f k))[i]?=some p->bs[i]?=some b->H b=some (.tup (p.1.map kV)))->aN (IsSet H) w (bs.map V.ref)
 |[],[],_,_=>.nil
 |[],_::_,h,_=>nomatch h
 |_::_,[],h,_=>nomatch h
 |x::w,y::bs,h,e=>.cons ⟨y,rfl,e 0 _ y rfl rfl⟩ (o7 (by simpa using h) λi p b e1 e2=>e (i+1) p b (by simpa using e1) (by simpa using e2))
inductive yz(C:Addr):Sp
 |mk {H:Hp} {am:Addr} {ks:List aE} {Z:aE->List aE} {AA:aE->Addr} {n:Nat} {S':KS} {Q:VK} {E:XK} (A:Am H am ks Z AA) (nd:ks.Nodup) (hz:ks.length<1000) (hZ:∀k,(Z k).length<=63) (lp:KL (gy (h8 Z ks)) n (sF Z ks) S') (ne:S'.ended.Nodup) (le:S'.ended.length<1000)
  (k:¬S'.ended.length<ks.length->∀l ev H',Same H H'->H l=none->H' l=some (.lst ev)->aN (IsSet H') S'.ended ev->Q (.ref l) H') (x:S'.ended.length<ks.length->∀H',Same H H'->E (.ref C) none H'):yz C [.ref am] H Q E
def Bo(h:yz C vs H Q E):vs.length=1:=by cases h;rfl
def OU(K:Uy)(C:Addr)(E:XK)(m:Str):TS:=aJ (aZ (fQ uY (au (bO yB [] E0 (au (ao 0) aF)) aF)) (aA 1)) (aJ (dD (bQ (bv Fv (fQ (fX K) (au (ao 1) aF)) (fQ AG (au (ao 0) aF)))) (zz (au (tC (.str m)) aF) (λH=>E (.ref C) none H)) cb) (cO (ao 1)))
def Ez{m:Str}(h:yz C vs H Q E):OU K C E m {nx:=λ_ H'=>Q .bB H',rt:=Q} (br ["among","ended"] vs) H:=by obtain @⟨H,am,ks,Z,AA,n,S',Q,E,A,nd,hz,hZ,lp,ne,le,k,x⟩:=h;refine⟨_,rfl,.mk A nd hz hZ lp ne le λg H1 s1 i j=>⟨g,_,rfl,.inl (.inl j),λl bs d hb b=>?_⟩⟩;have s2:=aw (o:=.lst (bs.map V.ref)) d;have a:upd H1 l (.lst (bs.map V.ref)) l=some (.lst (bs.map V.ref)):=ag;rw[Ps]at hb;have al:=o7 hb b;generalize upd H1 l (.lst (bs.map V.ref))=e at s2 a;refine⟨_,rfl,l,_,rfl,.inl (SqL.of a),_,rfl,am,_,rfl,.inl (.inl (s2 _ _ (s1 _ _ A.r))),_,_,rfl,rfl,_,rfl,?_⟩;rw[Ps,Ps,hb];have t:=s1.trans s2;refine ub (λc=>⟨by show 1<=_;rw[Qf];lia,x (by have:=Qa c;lia) e t⟩) λc=>⟨_,rfl,k (λz=>c (P3 (by lia))) l _ e t (s1.free d) a (al.mono (bj (.of s2)))⟩
end
section
variable{prog:Uz}{w:World}{A:UB}{R:Result->Ux->Prop}{I S:Addr}{fp wr:List Addr}{n:Nat}{P:Nat->UA->Prop}{St:Nat->Heap->Prop}{bt:Nat->Nat->Bool}{dv:UA}
def Bp(P:Nat->UA->Prop)(bt:Nat->Nat->Bool)(b:Array UA)(j:Nat):Prop:=(b=#[]/\j=0)\/∃v i,b=#[v,v]/\j=i+1/\P (argBest bt i) v
def EA(W:Walks prog w A.in1 I fp wr n P St)(m:CmpOf prog w A.in1 .Gt P bt)(p:S∉fp) :
 ∀(k j:Nat)(s:Ux)(b:Array UA)(c:Nat),n-j=k->j<=n->St j s.heap->Bp P bt b j->s.heap.get? S=some { cls:=.type "list",dict:=none,data:=.seq b c,slots:=#[] }->
  (∀v h' tk,(n=0/\v=dv\/∃i,n=i+1/\P (argBest bt i) v)->(∀a o,a∉wr->a≠S->s.heap.get? a=some o->h'.get? a=some o)->R (.ok (.ret v)) {s with heap:=h',toks:=tk})->
  codeAny (model prog w) A (.builtin "max.loop" ⟨[.ref I,.none,.ref S],[("default",dv)]⟩) R s:=by
 have q:S∉wr:=λh=>p (W.sub _ h);have nm:(toString "max"++toString ".loop" : String)="max.loop":=by decide
 intro k;induction k with
 |zero=>
  intro j s b c G H l hb r y;obtain rfl:j=n:=by lia
  refine Rg F.entry_max_loop ?_;rw[Rn Si _];refine KE (Tw r rfl (KE (Uc (W.done s _ _ l λh' tk f=>?_))));rcases hb with⟨rfl,rfl⟩|⟨v,i,rfl,rfl,C⟩
  .refine KE (S3 (Po (y dv h' tk (.inl ⟨rfl,rfl⟩) λa o ha _ e=>f a o ha e)))
  .refine KE (Te (f S _ q r) rfl (KE (Tt (Po ?_))));exact y v _ tk (.inr ⟨i,rfl,C⟩) λa o ha d e=>(Rb _ _ (QQ d)).trans (f a o ha e)
 |succ k J=>
  intro j s b c G H l hb r y;have t:j<n:=by lia
  refine Rg F.entry_max_loop ?_;rw[Rn Si _];refine KE (Tw r rfl (KE (Uc (W.item j s _ _ t l λv h' tk hP u f=>?_))));have g:=f S _ q r;have up:∀{B:Array UA}{D:Nat}{h2:Heap},(∀a o,a≠S->h'.get? a=some o->h2.get? a=some o)->h2.get? S=some { cls:=.type "list",dict:=none,data:=.seq B D,slots:=#[] }->Bp P bt B (j+1)->
   codeAny (model prog w) A (.builtin "max.loop" ⟨[.ref I,.none,.ref S],[("default",dv)]⟩) R {s with heap:=h2,toks:=tk}:=λ{B D h2} k2 e2 K=>
   J (j+1) _ B D (by lia) t (W.frame _ _ _ u λa ha o e=>k2 a o (λz=>p (z▸ha)) e) K e2 λL h3 Ml C k3=>y L h3 Ml C λa o ha d e=>k3 a o ha d (k2 a o d (f a o ha e))
  rcases hb with⟨rfl,rfl⟩|⟨E,i,rfl,rfl,x⟩
  .show wpAny _ A.in1 (updateSeq S (λ_=>#[v,v]) >>= _) _ _ _;refine KE ?_;refine Te g rfl ?_;rw[nm];exact Po ⟨RN Si _,up (λa o d e=>(Rb _ _ (QQ d)).trans e) (QI _ g rfl) (.inr ⟨v,0,rfl,rfl,hP⟩)⟩
  .show wpAny _ A.in1 (tryCatch (holding [v,v] (richCompare .Gt v E >>= _)) _ >>= _) _ _ _;refine KE (Uc (Qz (KE (m (i+1) (argBest bt i) v E _ _ _ hP x ?_))));refine KE (Qz (RD ?_));refine KE (Tt (Po ?_));cases hb:bt (i+1) (argBest bt i)with
   |true=>simp only[Sb];refine KE ?_;refine Te g rfl (KE (Tt ?_));rw[nm];exact Po ⟨RN Si _,up (λa o d e=>(Rb _ _ (QQ d)).trans e) (QI _ g rfl) (.inr ⟨v,i+1,rfl,rfl,by simp only[argBest,hb,Sb];exact hP⟩)⟩
   |false=>simp only[PZ,Q5];refine KE (Tt ?_);rw[nm];exact Po ⟨RN Si _,up (λa o _ e=>e) g (.inr ⟨E,i+1,rfl,rfl,by simp only[argBest,hb,PZ,Q5];exact x⟩)⟩
def yl{E:UA->Ux->Prop}{s:Ux}{l:Addr}{xs:Array (Int×Tok)}{Q:UA->Ux->Prop}(d:A.in1.handled=none)(g:s.heap.IsList l (intItems xs))
 (h:∀v h' tk,(xs.size=0/\v=dv\/∃i,xs.size=i+1/\∃t,v=.int (numAt xs (argBest (λi j=>decide (numAt xs i>numAt xs j)) i)) t)->(∀b o,s.heap.get? b=some o->h'.get? b=some o)->Q v {s with heap:=h',toks:=tk}) :
 wpAny (model prog w) A (call (.builtin "max") [.ref l] [("default",dv)]) Q E s:=by
 have nm:(toString "max"++toString ".loop" : String)="max.loop":=by decide
 refine kmk_tree F.kind_max F.plain_max F.entry_max (by unfold argsOk;kernel_rfl) ?_;show wpAny _ A.in1 (Builtin.Builtins.bindParams "max" ["key","default"] 0 ⟨[],[("default",dv)]⟩ >>= _) _ _ s;refine KE (Ul (show Builtin.Builtins.bindParams "max" ["key","default"] 0 ⟨[],[("default",dv)]⟩=pure [none,some dv]from rfl) ?_);refine KE (Po (KE (iter_intList g λf e st c a=>?_)));subst e;refine KE (QD ?_);rw[nm];refine Po ⟨RN Si _,EA (Walks.list (A:=A.in1) d _ l a (intItems xs)) (CmpOf.ints_gt (numAt xs) λ_ _=>intItems_at) (λhm=>RM _ (c _ hm)) _ 0 _ #[] _ rfl (PQ _) (Walks.frame (Walks.list (prog:=prog) (w:=w) (A:=A.in1) d _ l a (intItems xs)) _ _ _ st λb _ o e=>Pp _ e) (.inl ⟨rfl,rfl⟩) (PH _ rfl) λv h' tk k m=>?_⟩;refine h v h' tk ?_ (old_kept λb o hb e=>m b o hb (P7 (PD e)) (Pp _ e));rcases k with⟨e,rfl⟩|⟨i,e,p⟩
 .exact .inl ⟨by simpa[intItems]using e,rfl⟩
 .exact .inr ⟨i,by simpa[intItems]using e,intItems_at p⟩
end
def u9(ns:List Int)(d m:Int):Prop:=(ns=[]/\m=d)\/(m∈ns/\∀n∈ns,n<=m)
theorem sI(f:Nat->Int):∀i,argBest (λa b=>decide (f a>f b)) i<=i/\∀j,j<=i->f j<=f (argBest (λa b=>decide (f a>f b)) i)
 |0=>⟨Pq _,λj d=>by rw[Nat.le_zero.mp d];exact SY _⟩
 |i+1=>by
  obtain⟨h1,h2⟩:=sI f i;unfold argBest;by_cases c:f (i+1)>f (argBest (λa b=>decide (f a>f b)) i)
  .rw[PN (P3 c)];refine⟨Pq _,λj d=>?_⟩;by_cases e:j=i+1
   .rw[e];exact SY _
   .have:=h2 j (by lia);lia
  .rw[PK (by simpa using c)];refine⟨by lia,λj d=>?_⟩;by_cases e:j=i+1
   .rw[e];lia
   .exact h2 j (by lia)
section
variable{X:Cx}{e:Expr}{t:TA}{p pos cp kp:Pos}
def FJ(K:Uy)(d:Int)(t:TA):TE:=λσ H Q=>t σ H λvs H1=>∃l ns,vs=[.ref l]/\SqL K H1 l (ns.map V.int)/\∀m,u9 ns d m->Q (.int m) H1
theorem KC{ps:List (Int×Tok)}{i:Nat}(e:ps.toArray.size=i+1)(d:Int):u9 (ps.map (·.1)) d (numAt ps.toArray (argBest (λi j=>decide (numAt ps.toArray i>numAt ps.toArray j)) i)):=by
 obtain⟨h1,h2⟩:=sI (numAt ps.toArray) i;have hs:ps.length=i+1:=by simpa using e
 have at':∀j,j<ps.length->(ps.map (·.1))[j]?=some (numAt ps.toArray j):=λj a=>by unfold numAt;rw[PR,List.getElem?_toArray,Px a];rfl
 refine .inr ⟨PY (at' _ (by lia)),λn b=>?_⟩;obtain⟨j,a⟩:=PX.mp b;have c:j<ps.length:=by have:=(PF.mp a).1;simpa using this
 rw[at' j c]at a;cases a;exact h2 j (by lia)
def EB{d:Int}{j:_}(g:X.calm=true)(k:Gl X "max") (hm:X.mg "max"=none) (c:bootBuiltins "max"=some (.builtin "max")) (ha:L2.PA X [e] t)
 (m:autoParam (backTo pos (starEach [e] X.env)=(false,eval e X.env)::backTo pos (starEach [] X.env)) az) (f:autoParam ((backTo pos (starEach [e] X.env)).any (·.1)=false) az) :
 PE X (.Call (.Name "max" p) [e] [⟨some "default",.Constant (.int d) j cp,kp⟩] pos) (FJ X.K d t):=by
 intro ac s σ H Q I h;refine RJ (kA I k hm c ?_ (by decide) (by decide));refine callWith_kw (cD (ha pos ac s σ H _ I h) λus s1 ⟨vs,H1,n,o,l,ns,e,r,q⟩=>?_) m f rfl rfl;subst e;obtain⟨u,rfl,w⟩:=dU o;cases w;refine kws_cons (cD (ay ac s1 σ H1 (λv a=>v=.int d/\a=H1) n ⟨rfl,rfl⟩) λu2 s2 ⟨D,a,b,x,e2,y⟩=>kws_nil ?_);subst e2;subst y;obtain⟨t2,rfl⟩:=x;obtain⟨its,z,pl,hz⟩:=b.list r;obtain⟨ps,rfl,ep⟩:=jy z;have A:s2.heap.IsList l (intItems ps.toArray):=by
  have:intItems ps.toArray=(ps.map (λp=>Value.int p.1 p.2)).toArray:=by simp[intItems]
  rw[this];exact pl.isList
 subst ep;refine yl (b.ok.hd g) A λv h' tk c kp=>?_;rcases c with⟨B,rfl⟩|⟨i,C,E,rfl⟩
 .exact⟨.int d,a,b.kept (t':=tk) kp,⟨_,rfl⟩,q d (.inl ⟨by rw[show ps=[] by simpa using B];rfl,rfl⟩)⟩
 .exact⟨.int _,a,b.kept (t':=tk) kp,⟨_,rfl⟩,q _ (KC C d)⟩
end
structure vk(Z:aE->List aE) (e:List aE) (T:aE->Int):Prop where
 m:∀k∈e,u9 ((Z k).map λo=>T o+1) 0 (T k)
 n:∀k∈e,0<=T k
 c:∀k∈e,∀o∈Z k,o∈e
def vk.snoc{Z:aE->List aE}{e:List aE}{T:aE->Int}{x:aE}{m:Int}(t:vk Z e T)(d:x∉e)(hz:∀o∈Z x,o∈e)(hm:u9 ((Z x).map λo=>T o+1) 0 m):vk Z (e++[x]) (hJ T x m):=by
 have eT:∀o∈e,hJ T x m o=T o:=λo a=>cz λz=>d (z▸a);have b:∀l:List aE,(∀o∈l,o∈e)->(l.map λo=>hJ T x m o+1)=l.map λo=>T o+1:=λl f=>QL λo a=>by rw[eT o (f o a)]
 refine⟨λk hk=>?_,λk hk=>?_,λk hk o a=>?_⟩<;>rcases PP.mp hk with hk|hk
 .rw[b _ (t.c k hk),eT k hk];exact t.m k hk
 .rw[Py.mp hk,b _ hz,cC];exact hm
 .rw[eT k hk];exact t.n k hk
 .rw[Py.mp hk,cC];rcases hm with⟨_,rfl⟩|⟨hm,_⟩
  .exact SY _
  .obtain⟨o,a,rfl⟩:=Pt.mp hm;have:=t.n o (hz o a);lia
 .exact Qd _ (t.c k hk o a)
 .exact Qd _ (hz o (by rw[<- Py.mp hk];exact a))
def KD(RL:List Sp.Rule)(As:List Sp.Arr)(a:Int)(aS:List Int):Prop:=∀Z ks n c,o9 RL As a aS Z ks->KL (gy (h8 Z ks)) n (sF Z ks) c->(∀pre x b,c.ended=pre++x::b->∀y∈Z x,y∈pre)/\∀x∈c.ended,x∈ks
inductive ji(RL:List Sp.Rule) (As:List Sp.Arr) (room:Int) (aS:List Int) (T:aE->Int):List aE->Prop
 |mk {Z:aE->List aE} {ks:List aE} {n:Nat} {S':KS} (g:o9 RL As room aS Z ks) (l:KL (gy (h8 Z ks)) n (sF Z ks) S') (f:¬S'.ended.length<ks.length) (t:vk Z S'.ended T):ji RL As room aS T S'.ended
inductive yI(RL:List Sp.Rule) (As:List Sp.Arr) (room:Int) (aS:List Int):Prop
 |mk {Z:aE->List aE} {ks:List aE} {n:Nat} {S':KS} (g:o9 RL As room aS Z ks) (l:KL (gy (h8 Z ks)) n (sF Z ks) S') (f:S'.ended.length<ks.length):yI RL As room aS
abbrev wx(T:aE->Int)(e:List aE):HO:=.dT (e.map λk=>(k2 k,V.int (T k)))
section
variable{X:Cx}{sP:Sp}{C:Addr}{H H':Hp}{σ:L2.St}{vs:List V}{Q:VK}{E:XK}
inductive yE(sP:Sp) (C:Addr):Sp
 |mk {H:Hp} {RL:List Sp.Rule} {As:List Sp.Arr} {p sp q:Addr} {room:Int} {aS:List Int} {Q:VK} {E:XK} (i:BX sP H RL As p sp q room aS) (ok:yg RL As room aS) (rg:Eh RL As room aS) (ti:KD RL As room aS)
  (k:∀d e T H',Same H H'->H d=none->H' d=some (wx T e)->e.length<1000->ji RL As room aS T e->Q (.ref d) H') (x:yI RL As room aS->∀H',Same H H'->E (.ref C) none H'):yE sP C [.ref p,.ref sp] H Q E
def Bq(h:yE sP C vs H Q E):vs.length=2:=by cases h;rfl
def KF:TE:=bv cY (eU (ao 1) (ao 0)) (tC (.int 1))
def Nj(X:Cx)(scope:Scope)(tg a:Expr)(tN capN:List Str)(caps:List Nat):TS:=lW (ao 3) (ao 4) (FJ X.K 0 (au (iH X scope tg tN capN caps a [] (ce X.K (eU (ao 2) (ao 4)))) aF))
def OV(X:Cx)(sP:Sp)(C:Addr)(E:XK)(t2:TS):TS:=aJ (aZ (bO (vp sP) [] E0 (au (ao 0) (au (ao 1) aF))) (aA 2)) (aJ (aZ eL (aA 3)) (aJ (d4 (ce X.K (bO (yz C) [] E (au (ao 2) aF))) (aA 4) t2) (cO (ao 3))))
def EC{scope:Scope}{tg m:Expr}{tN capN:List Str}{caps:List Nat}{l td:Addr}{zs e:List aE}{T:aE->Int}{p:List V}{Fin:Addr->List V->Hp->Prop}(h1:tN.length=1)(q:jz σ caps=[some (.ref td)])(F:∀cl C v w fp,PG (aV X scope (tN++capN) cl C v w fp) tg (aA 0))(G:∀cl C v w fp,PE (aV X scope (tN++capN) cl C v w fp) m KF)
 (x:H l=some (.lst p)) (al:aN (IsSet H) zs p) (hz:zs.length<1000) (I:H td=some (wx T e)) (sub:∀o∈zs,o∈e) (k:∀d H',Same H H'->H' d=some (.lst (zs.map λo=>.int (T o+1)))->Fin d (zs.map λo=>.int (T o+1)) H'):cw X scope tg tN capN caps m [] σ Fin (y8 X.K l) H:=by
 have ln:=al.len;refine jG (n:=zs.length) F (λ_ _ _ _ _=>fU) G (λd i a H'=>Same H H'/\H' d=some (.lst a)/\a=((zs.take i).map λo=>V.int (T o+1))/\H d=none) (λd r=>⟨aw r,ag,rfl,r⟩) (λh=>h.2.1) (λd i a H' ⟨g,_⟩ J=>⟨p,p[i]'(by lia),SqL.of (g _ _ x),Px _⟩) (λd a H' ⟨g,_⟩=>⟨p,SqL.of (g _ _ x),by lia⟩) (λd i a H' M L N J ⟨g,r,s,A⟩ y t=>?_) λd a H' r ⟨g,z,s,_⟩=>?_
 .obtain⟨rfl,y⟩:=y;obtain⟨o,B,b,rfl,hb⟩:=al.get (y _ (SqL.of (g _ _ x)));rw[h1]at t;obtain⟨O,rfl⟩:=RC.mp t;rw[q];have lt:=QG i zs;refine⟨λj D=>?_,hI (Reads.ad (.tz (f:=λk=>V.int (T k)) (.va rfl) (.va rfl) (.inl (g _ _ I)) (sub o (PY B)) (g _ _ hb)) .k _ ⟨r,jL (by rw[s,Ps];lia),λc u e=>?_,ag,?_,A⟩)⟩
  .rw[h1]at D;obtain⟨j,rfl⟩:=QJ D;rfl
  .rw[ai (ax e A)];exact g _ _ e
  .rw[P0,B,Qo,s];rfl
 .rw[Qk]at s;subst s;exact k d H' g z
def ED{scope:Scope}{tg J:Expr}{tN capN:List Str}{caps:List Nat}(h1:tN.length=1)(hc:caps=[3])(hg:∀cl C f s fp,PG (aV X scope (tN++capN) cl C f s fp) tg (aA 0)) (he:∀cl C f s fp,PE (aV X scope (tN++capN) cl C f s fp) J KF) (h:yE sP C vs H Q E):OV X sP C E (Nj X scope tg J tN capN caps) {nx:=λ_ H'=>Q .bB H',rt:=Q} (br ["house","standing","among","told","head"] vs) H:=by
 obtain @⟨H,RL,As,p,sp,q,room,aS,Q,E,i,ok,rg,ti,k,x⟩:=h;refine⟨_,rfl,_,rfl,.mk i ok λam Z AA ks H1 s1 nam A g=>?_⟩;obtain⟨nd,hz,hZ,n,d,lp,ne,le,_⟩:=rg Z ks g;obtain⟨ord,sub⟩:=ti Z ks n d g lp;refine λtd B=>?_;have s2:=aw (o:=.dT []) B;have F:upd H1 td (.dT []) td=some (.dT []):=ag;have S:am≠td:=ax A.r B;generalize upd H1 td (.dT [])=H2 at s2 F;have L:=s1.trans s2;refine dC (tl:=bO (yz C) [] E (au (ao 2) aF)) ⟨_,rfl,.mk (A.more s2) nd hz hZ lp ne le (λU l ev s f nl hl al=>?_) λU s f=>x ⟨g,lp,U⟩ s (L.trans f)⟩;have A3:=(A.more s2).more f;have G:=f _ _ F;have W:l≠td:=λz=>by rw[z,F]at nl;cases nl
 have M:∀{H'},Kp td s H'->KT s H':=λkp c w e=>kp _ _ e λz=>by rw[z,G]at e;cases e
 refine⟨l,rfl,⟨ev,SqL.of hl⟩,?_⟩;refine cf (K:=X.K) (a:=l) (xs:=ev) (λi D H'=>∃x4 T,D=[some (.ref p),some (.ref sp),some (.ref am),some (.ref td),x4]/\Kp td s H'/\H' td=some (wx T (d.ended.take i))/\vk Z (d.ended.take i) T) ⟨none,λ_=>0,rfl,λc u e _=>e,G,⟨(λ_ h=>nomatch h),(λ_ h=>nomatch h),λ_ h=>nomatch h⟩⟩ (λi D H' _ ⟨_,_,_,kp,_⟩=>SqL.of (kp _ _ hl W)) (λi v D H' hi ⟨x4,T,Y,kp,N,t⟩=>?_) λD H' ⟨x4,T,Y,kp,N,t⟩=>?_
 .subst Y;obtain⟨y,hy,b,rfl,hb⟩:=al.get hi;have hb:=M kp _ _ hb;have hil:=(PF.mp hy).1;have et:d.ended.take (i+1)=d.ended.take i++[y]:=by rw[P0,hy];rfl
  have es:d.ended=d.ended.take i++y::d.ended.drop (i+1):=by have:=Q2 (i+1) d.ended;rw[et,Qm]at this;exact this.symm
  have O:=sub y (PY hy);have I:y∉d.ended.take i:=λz=>by rw[es,Qj]at ne;exact ne.2.2 y z y Pu rfl
  have P:=ord _ y _ es;obtain⟨ws,e1,al1⟩:=A3.v y O;have R:AA y≠td:=λz=>by rw[z,G]at e1;cases e1
  have lt:=QG i d.ended;refine Reads.Ig (v:=.bB) (.va rfl) (.va rfl) (.inl (kp _ _ A3.r S)) O hb _ ⟨AA y,rfl,⟨ws,SqL.of (kp _ _ e1 R)⟩,EC h1 (by rw[hc];rfl) hg he (kp _ _ e1 R) (al1.mono (bj (M kp))) (by have:=hZ y;lia) N P λDl H4 s4 hD=>?_⟩;refine⟨Dl,(Z y).map λo=>T o+1,rfl,SqL.of (by rw[QC];exact hD),λm hm=>⟨_,rfl,_,rfl,td,_,rfl,DPut.t (s4 _ _ N) (k:=k2 y) (s4 _ _ hb) (jL (by rw[Ps];lia)),?_⟩⟩;rw[dH _ (by rw[j5,PK I])];refine⟨_,hJ T y m,rfl,λc u e n=>?_,?_,by rw[et];exact t.snoc I P hm⟩
  .rw[ai n];exact s4 _ _ (kp _ _ e n)
  .rw[ag,et];congr 2;rw[Qo];congr 1
   .exact QL λj hj=>by rw[cz λz:j=y=>I (z▸hj)]
   .show _=[(k2 y,V.int (hJ T y m y))];rw[cC]
 .subst Y;rw[<- al.len,Qk]at N t;exact⟨_,rfl,k td _ T H' (λc u e=>kp _ _ (f _ _ (L _ _ e)) λz=>by rw[z,s1.free B]at e;cases e) (s1.free B) N le ⟨g,lp,U,t⟩⟩
end
end L4
namespace L2
open PySem PySem.Spec PyProof.Rows
section
variable{prog:Uz}{w:World}{A:UB}{E:UA->Ux->Prop}{s:Ux}{o:Addr}
def Br{h:Int}:∀{l:List DictEntry},(l.map (·.hash)).Nodup->(l.filter (·.hash==h)).length<=1:=by
 intro l;induction l with
 |nil=>intro _;exact PQ _
 |cons x l a=>
  intro nd;obtain⟨n1,n2⟩:=Qu.mp nd;rw[QX];split
  .rename_i e;have:l.filter (·.hash==h)=[]:=List.filter_eq_nil_iff.mpr λy b z=>n1 (Pt.mpr ⟨y,b,(eq_of_beq z).trans (eq_of_beq e).symm⟩);rw[this];exact Pq _
  .exact a n2
def ym{id:String}{ob:Obj}{es:Array DictEntry}{ep:Nat}{Q:Array DictEntry->Ux->Prop}(d:s.heap.get? o=some ob)(hd:ob.data=.dict es ep)(f:∀e∈es.toList,∃a,e.key=.ref a/\s.TypeIs (.ref a) "tuple") (nd:(es.toList.map (·.hash)).Nodup) (h:Q es s):wpAny (model prog w) A (Builtin.Dict.entriesForEmpty id o) Q E s:=by
 unfold Builtin.Dict.entriesForEmpty;refine KE (QE d hd (KE ?_));rw[<- Ub];refine SU _ (λrest _ b=>b=s/\∀e∈rest,e∈es.toList) _ ?_ ?_ _ _ ⟨rfl,λ_ h=>h⟩
 .rintro e rest q b ⟨rfl,c⟩;obtain⟨a,g,i⟩:=f e (c e Pu);rw[g];unfold Builtin.Dict.quietEq;refine KE (KE (S8 i F.slot_tuple_eq.lookup (Po ?_)));rw[PN (by decide),PK ?_]
  .exact Po ⟨rfl,λe j=>c e (Pw _ j)⟩
  .have:=Br (h:=e.hash) nd;rw[<- QP,Array.toList_filter];lia
 .rintro q b ⟨rfl,_⟩;exact Po h
theorem qq{nm:String}{d:Addr}{xs:List (List bI×Addr×UA)}{Q:Unit->Ux->Prop}(l:d≠o)(m:(o==sysModules)=false)(hd:s.heap.DictOfH (tK prog w) d [])(hm:s.heap.DictOfH (tK prog w) o xs)(nd:(xs.map λx=>(tK prog w).hash x.1).Nodup)(hz:xs.length<=sizeLine)
 (t:∀h',h'.DictOfH (tK prog w) d xs->Heap.SameBut d s.heap h'->Q () {s with heap:=h'}):wpAny (model prog w) A (Builtin.Dict.mergeDict nm d o) Q E s:=by
 obtain⟨od,n,v,h,p,f,j,_,_⟩:=id hd;obtain⟨G,g,z,i,B,c,b,k,q⟩:=id hm;have h0:n=#[]:=by rw[RO]at j;exact Array.toList_inj.mp j
 subst h0;have r:∀e∈g.toList,∃a,e.key=.ref a/\s.TypeIs (.ref a) "tuple":=λe u=>by rw[b]at u;obtain⟨x,C,rfl⟩:=Pt.mp u;exact⟨x.2.1,rfl,(k x C).typeIs⟩
 unfold Builtin.Dict.mergeDict;rw[PK (by simpa using l)];unfold Builtin.Dict.showsAll;rw[PK (by rw[m];exact Qg)];refine KE (Po (KE (QE i c ?_)));cases xs with
 |nil=>
  have h1:g=#[]:=by rw[RO]at b;exact Array.toList_inj.mp b
  subst h1;dsimp only;rw[PK (by simp)];refine KE (RT i c (KE (QE i c (KE ?_))));rw[SF];exact Po (Po (t _ hd (Heap.SameBut.refl _ _)))
 |cons x xs=>
  have D:(decide (g.size<=8)&&g.all λe=>(keyPart e.key).isSome)=false:=by rw[Bool.and_eq_false_iff];right;rw[<- Array.all_toList,b,PU,T3];rfl
  dsimp only;rw[D,PN (by rfl)];refine KE (QE h f ?_);rw[PN (by rfl)];have hsz:=RQ b;refine KE (ym i c r (by rw[b,QC];exact nd) ?_);rw[PN (by rw[Array.isEmpty,hsz];simp)];refine KE (wpAny_updateDictKeysTo h f (Po (t _ ⟨_,g,_,QI _ h (SV (Ro f _)),p.mapDictKeys _,Ro f _,b,λy F=>?_,q⟩ (Qi ..))) (by rw[hsz];lia));exact(tK prog w).keeps (k y F) h f (Qi ..)
theorem u_{xs:List (List bI×Addr×UA)}{Q:UA->Ux->Prop}(f:(o==sysModules)=false)(k:s.heap.DictOfH (tK prog w) o xs)(nd:(xs.map λx=>(tK prog w).hash x.1).Nodup)(hsz:xs.length<=sizeLine)
 (h:∀h',h'.DictOfH (tK prog w) s.heap.objs.size xs->Heap.SameBut s.heap.objs.size (s.heap.push { cls:=.type "dict",data:=.dict #[] }) h'->Q (.ref s.heap.objs.size) {s with heap:=h'}) :
 wpAny (model prog w) A (call (.type "dict") [.ref o]) Q E s:=by
 refine callType_codes (Q₁:=λobj d=>obj=.ref s.heap.objs.size/\d={ s with heap:=s.heap.push { cls:=.type "dict",data:=.dict #[] } }) F.kt_called_dict (F.kt_typeCall_dict_1 _) F.entry_dict_init (kt_code_dict_new _ ⟨rfl,rfl⟩) ?_;rintro obj d ⟨rfl,rfl⟩;have a:(s.heap.push { cls:=.type "dict",data:=.dict #[] }).DictOfH (tK prog w) s.heap.objs.size []:=Heap.DictOfH.new s.heap;have c:(s.heap.push { cls:=.type "dict",data:=.dict #[] }).DictOfH (tK prog w) o xs:=let ⟨ob,es,ep,h1,h2,h3,l,m,n⟩:=k;⟨ob,es,ep,Pp _ h1,h2,h3,l,λx p=>gE (m x p) λb u e=>Pp _ e,n⟩;have g:s.heap.objs.size≠o:=by obtain⟨_,_,_,q,_⟩:=k;exact λe=>absurd (PD q) (by rw[e];exact RM _)
 refine⟨a.typeIs,F.args_dict_init_2 _ _,?_⟩;unfold Builtin.«dict.__init__»;refine KE ?_;unfold Builtin.Dict.selfAndRest;refine KE (Rh a.typeIs ?_);show wpAny _ _ (pure (s.heap.objs.size,[Value.ref o])) _ _ _;refine Po ?_;show wpAny _ _ (Builtin.Dict.updateFrom "dict.__init__" s.heap.objs.size (.ref o) [] .none) _ _ _;unfold Builtin.Dict.updateFrom;refine KE (R9 c.typeIs ?_);rw[PK (by decide)];refine KE ?_;unfold Builtin.Dict.merge;refine KE ?_;unfold Builtin.Dict.readDirectly;refine KE (Se c.typeIs isSubtype_dict_dict ?_);simp only[Ry,PZ,Q5];refine KE (S8 c.typeIs F.slot_dict_iter.lookup (Po ?_));simp only[Us,Sb];refine KE (Po (qq g f a c nd hsz λh' i j=>?_));show wpAny _ _ (Builtin.Dict.addKeywords s.heap.objs.size [] >>= _) _ _ _;exact KE (Po (Po ⟨rfl,h h' i j⟩))
def EE{H:Hp}{kvs:List (List bI×V)}{xs:List (List bI×Addr×UA)}(h:KT H kvs xs):kvs.map (·.1)=xs.map (·.1):=by
 induction h with
 |nil=>rfl
 |cons h _ a=>rw[PU,PU,h.1,a]
end
def FL(X:Cx):List V->Hp->VK->Prop:=λvs H Q=>∃d kvs,vs=[.ref d]/\Rd H d (.dT kvs)/\(kvs.map λx=>(tK X.prog X.w).hash x.1).Nodup/\∀p,H p=none->Q (.ref p) (upd H p (.dT kvs))
def yn{X:Cx}:bV X (.type "dict") (FL X):=by
 intro ac s σ H vs us Q I r h;obtain⟨d,kvs,rfl,hd,nd,q⟩:=h;obtain⟨u,rfl,ru⟩:=dU r;obtain rfl:u=Value.ref d:=ru;obtain⟨z,j,xs,c,D⟩:=gq I.aT hd;have g:=EE c;have i:H s.heap.objs.size=none:=I.aT.fresh (Pq _);have e2:∀{α:Type}(f:List bI->α)(l:List (List bI×Addr×UA)),(l.map λx=>f x.1)=(l.map (·.1)).map f:=λf l=>by rw[QC];rfl
 have e1:∀{α:Type}(f:List bI->α)(l:List (List bI×V)),(l.map λx=>f x.1)=(l.map (·.1)).map f:=λf l=>by rw[QC];rfl
 refine u_ j D (by rw[e2,<- g,<- e1];exact nd) (by have:=Q1 List.length g;simp at this;lia) λh' k hs=>?_;have kp:∀b o,s.heap.get? b=some o->h'.get? b=some o:=λb o e=>(hs.2 b (P7 (PD e))).trans (Pp _ e);obtain⟨o,es,ep,h1,h2,h3,m,_,n⟩:=k;exact⟨.ref s.heap.objs.size,_,I.laid (a:=s.heap.objs.size) (o:=.dT kvs) (t':=s.toks) kp (Pq _) ⟨z,Ru.mpr (QQ (P7 I.big)),xs,c.keeps λb p e=>by rw[ai (ax e i)];exact e,o,es,ep,h1,h2,h3,m,n⟩,rfl,q _ i⟩
end L2
namespace L4
open PySem PySem.Spec PyProof.Rows L2 L3
def hP(k:aE):Int:=reduceHash (Builtin.Tuple.tupleHashOf [hashInt k.1,hashInt k.2])
def Hx{P:Uz}{w:World}(k:aE):(tK P w).hash (k2 k)=hP k:=rfl
def bx3:List aE:=[(0,0),(0,1),(0,2),(0,3),(1,0),(1,1),(1,2),(1,3),(2,0),(2,1),(2,2),(2,3)]
def KG:(bx3.map hP).Nodup:=by decide +kernel
def Hy{α c:Type}{f:α->c}:∀{l:List α},(l.map f).Nodup->∀x∈l,∀y∈l,f x=f y->x=y:=by
 intro l;induction l with
 |nil=>exact λ_ x b=>nomatch b
 |cons a l d=>
  intro nd x b y g e;obtain⟨n1,n2⟩:=Qu.mp nd;rcases PB.mp b with rfl|h1<;>rcases PB.mp g with rfl|h2
  .rfl
  .exact absurd (Pt.mpr ⟨y,h2,e.symm⟩) n1
  .exact absurd (Pt.mpr ⟨x,h1,e⟩) n1
  .exact d n2 x h1 y h2 e
def EF{P:Uz}{w:World}{ks:List aE}{f:aE->V}(nd:ks.Nodup)(hb:∀k∈ks,k∈bx3):((ks.map λk=>(k2 k,f k)).map λx=>(tK P w).hash x.1).Nodup:=by
 have e:((ks.map λk=>(k2 k,f k)).map λx=>(tK P w).hash x.1)=ks.map hP:=by
  induction ks with
  |nil=>rfl
  |cons k ks a=>rw[PU,PU,PU,a (Qu.mp nd).2 λk b=>hb k (Pw _ b)];exact Q1 (·:: ks.map hP) (Hx k)
 rw[e];unfold List.Nodup;rw[Q0];exact Rc (λ{x y} c d h e=>h (Hy KG x (hb x c) y (hb y d) e)) nd
def EG{x:aE}(h1:0<=x.1/\x.1<3)(h2:0<=x.2/\x.2<4):x∈bx3:=by
 obtain⟨a,b⟩:=x;dsimp only at h1 h2;have ha:a=0\/a=1\/a=2:=by lia
 have hb:b=0\/b=1\/b=2\/b=3:=by lia
 rcases ha with rfl|rfl|rfl<;>rcases hb with rfl|rfl|rfl|rfl<;>decide
def FM:List V->Hp->VK->Prop:=λxs H Q=>∃i j,xs=[.int i,.int j]/\Q (.int (if j>i then j else i)) H
structure vt(Z:aE->List aE) (e hs:List aE) (T:aE->Int):Prop where
 l:e.length=hs.length
 s:∀h∈hs,h∈e
 t:vk Z e T
structure yF(T:aE->Int) (zs:List aE) (m:Int):Prop where
 p:0<=m
 g:∀o∈zs,T o+1<=m
 e:m=0\/∃o∈zs,m=T o+1
def yF.snoc{T:aE->Int}{zs:List aE}{m:Int}{o:aE}(h:yF T zs m):yF T (zs++[o]) (if 1+T o>m then 1+T o else m):=by
 obtain⟨p,g,e⟩:=h;split
 .refine⟨by lia,λx hx=>?_,.inr ⟨o,by simp,by lia⟩⟩;rcases PP.mp hx with hx|hx
  .have:=g x hx;lia
  .rw[Py.mp hx];lia
 .refine⟨p,λx hx=>?_,e.imp id λ⟨x,hx,e⟩=>⟨x,Qd _ hx,e⟩⟩;rcases PP.mp hx with hx|hx
  .exact g x hx
  .rw[Py.mp hx];lia
def yF.is{T:aE->Int}{zs:List aE}{m t:Int}(h:yF T zs m)(hm:u9 (zs.map λo=>T o+1) 0 t)(c:∀o∈zs,0<=T o):t=m:=by
 obtain⟨p,g,e⟩:=h;rcases hm with⟨z,rfl⟩|⟨hm,d⟩
 .rcases e with e|⟨o,a,_⟩
  .exact e.symm
  .rw[T7.mp z]at a;cases a
 .obtain⟨o,a,rfl⟩:=Pt.mp hm;have:=g o a;have:=c o a;rcases e with e|⟨x,b,rfl⟩
  .lia
  .have:=d _ (Pt.mpr ⟨x,b,rfl⟩);lia
section
variable{X:Cx}{K:Uy}{mg:Str->Option UA}{Fw:List L3.D->Res R}{B H H':Hp}{fd hl d b:Addr}{ks e hs:List aE}{Z:aE->List aE}{T:aE->Int}{LA:aE->Addr}{D:Ends}{σ:L2.St}{vs hv:List V}{x:aE}{Q:VK}{E:XK}
def yo(a:X.calm=true):bV X (.builtin "max") FM:=wQ a
inductive Ca:Sp
 |mk {B H:Hp} {fd hl d:Addr} {hv:List V} {e hs ks:List aE} {Z:aE->List aE} {LA:aE->Addr} {T:aE->Int} {Q:VK} {E:XK} (hf:H fd=some (wx T e)) (hh:H hl=some (.lst hv)) (ah:aN (IsSet H) hs hv) (g:Gr IsSet B H d ks Z LA) (o:vt Z e hs T) (k:∀H',Same H H'->Q (.bl true) H'):Ca [.ref fd,.ref hl,.ref d] H Q E
def Bs(h:Ca vs H Q E):vs.length=3:=by cases h;rfl
def Nk(K:Uy):TT:=IJ (pb (tB (D5 K "dict" (ao 0)))) (bQ (bv LX (fQ AG (au (ao 0) aF)) (fQ (fX K) (au (ao 1) aF))))
def Nl(mg:Str->Option UA)(Fw:List L3.D->Res R):TT:=IJ (bQ (bv (rQ true) (ao 3) (ao 0))) (pb (tB (bO (nU mg 1 Fw) [] E0 (au (eU (ao 0) (ao 3)) aF))))
def Nm:TS:=aJ (dD (bQ (bv (rQ true) (ao 5) (ao 0))) D7 cb) (aZ (fQ FM (au (ao 4) (au (bv cY (tC (.int 1)) (eU (ao 0) (ao 5))) aF))) (aA 4))
def KH(K:Uy):TS:=aJ (d4 (ce K (dI (ao 2) (ao 3) (eJ aF))) (aA 5) Nm) (dD (bQ (bv LX (eU (ao 0) (ao 3)) (ao 4))) D7 cb)
def Nn(K:Uy):TS:=aJ (d4 (ce K (ao 1)) (aA 3) (aJ (aZ (tC (.int 0)) (aA 4)) (KH K))) (cO (tC (.bl true)))
def OW(K:Uy)(mg:Str->Option UA)(Fw:List L3.D->Res R):TS:=aJ (dD (Nk K) D7 cb) (aJ (d4 (ce K (ao 1)) (aA 3) (dD (Nl mg Fw) D7 cb)) (Nn K))
theorem KI{ta tb:TE}{Q:Bool->Hp->Prop}(ha:Reads ta σ H (.ref b))(hb:Reads tb σ H (.ref fd))(a:H fd=some (wx T e))(c:H b=some (.tup ((k2 x).map kV)))(m:x∈e)(q:Q false H):bQ (bv (rQ true) ta tb) σ H Q:=by refine ha _ (hb _ ⟨fd,_,rfl,.inl (DGet.t (k:=k2 x) a c),⟨_,rfl,?_⟩⟩);rw[j5,PN m];exact q
def Reads.Im{ta tb:TE}(ha:Reads ta σ H (.ref fd))(hb:Reads tb σ H (.ref b))(a:H fd=some (wx T e))(c:H b=some (.tup ((k2 x).map kV)))(m:x∈e):Reads (eU ta tb) σ H (.int (T x)):=.tz (f:=λk=>V.int (T k)) ha hb (.inl a) m c
def Bt(fd hl d:Addr)(x3 x4 x5:Option V):L2.St:=[some (.ref fd),some (.ref hl),some (.ref d),x3,x4,x5]
def OX{x5:Option V}(C:H fd=some (wx T e))(g:Gr IsSet B H d ks Z LA)(t:vk Z e T)(u:x∈e)(hb:H b=some (.tup ((k2 x).map kV)))(k:∀x4 x5 H',Same H H'->D.nx (Bt fd hl d (some (.ref b)) x4 x5) H'):KH K D (Bt fd hl d (some (.ref b)) (some (.int 0)) x5) H:=by
 refine dC ⟨_,rfl,d,rfl,.inr ⟨_,.inl g.r⟩,_,rfl,PQ _,λq2 f=>⟨_,DGet.t (k:=k2 x) (aw f _ _ g.r) (aw f _ _ hb),?_⟩⟩;have p:=aw (o:=.lst []) f;obtain⟨pp,z,e1,e2,q⟩:=qk g f x;rw[e1];have q:=q.mono (bj (.of p));generalize upd H q2 (.lst [])=H1 at p e2 q;refine⟨pp,rfl,⟨z,SqL.of e2⟩,?_⟩;have l:=p _ _ C;refine cf (K:=K) (a:=pp) (xs:=z) (λi j H'=>Same H1 H'/\∃m x5,j=Bt fd hl d (some (.ref b)) (some (.int m)) x5/\yF T ((Z x).take i) m) ⟨λ_ _ e=>e,0,x5,rfl,SY _,(λ_ h=>nomatch h),.inl rfl⟩ (λi j H' _ ⟨s,_⟩=>SqL.of (s _ _ e2)) (λi v j H' F ⟨s,m,x5,es,du⟩=>?_) λj H' ⟨s,m,x5,es,du⟩=>?_
 .subst es;obtain⟨o,w,c,rfl,y⟩:=q.get F;have y:=s _ _ y;have A:=t.c x u o (PY w);refine KI (x:=o) (.va rfl) (.va rfl) (s _ _ l) y A (d6 ?_);refine⟨_,rfl,Reads.ad .k (.Im (x:=o) (.va rfl) (.va rfl) (s _ _ l) y A) _ ⟨_,_,rfl,s,_,_,rfl,?_⟩⟩;rw[P0,w];exact du.snoc
 .subst es;rw[<- q.len,Qk]at du;have em:=du.is (t.m x u) λo w=>t.n o (t.c x u o w);refine Reads.Im (.va rfl) (.va rfl) (s _ _ l) (s _ _ (p _ _ hb)) u _ ⟨_,rfl,rfl,_,rfl,?_⟩;rw[em,P3 rfl];exact d6 (k _ _ H' (p.trans s))
theorem EH(p:Kr Fw)(h:Ca vs H Q E):OW K mg Fw {nx:=λ_ H'=>Q .bB H',rt:=Q} (br ["_law_found","_law_heads","_law_led","_law_head","_law_due","_law_other"] vs) H:=by
 obtain @⟨B,H,fd,hl,d,hv,e,hs,ks,Z,LA,T,Q,E,hf,hh,ah,g,o,k⟩:=h;have ln:=ah.len;have lo:=o.l;refine Reads.NF (.va rfl) (dd:=.qM [] []) (.inr ⟨rfl,fd,rfl,.inr ⟨_,.inl hf⟩⟩) xB _ ⟨_,rfl,d6 ⟨_,rfl,fd,_,rfl,.inl (.inl hf),Reads.B5 (.va rfl) (.inl hh) _ ⟨rfl,_,rfl,?_⟩⟩⟩;rw[Ps,lo,ln,P3 rfl];refine d6 ⟨_,rfl,hl,rfl,⟨hv,SqL.of hh⟩,?_⟩;refine cf (K:=K) (a:=hl) (xs:=hv) (λi f H'=>Same H H'/\∃x3,f=Bt fd hl d x3 none none) ⟨λ_ _ e=>e,none,rfl⟩ (λi f H' _ ⟨s,_⟩=>SqL.of (s _ _ hh)) (λi v f H' j ⟨s,x3,es⟩=>?_) λf H' ⟨s,x3,es⟩=>?_
 .subst es;obtain⟨x,m,b,rfl,hb⟩:=ah.get j;have n:=o.s x (PY m);refine KI (x:=x) (.va rfl) (.va rfl) (s _ _ hf) (s _ _ hb) n (d6 ?_);exact Hj (ds:=[.int (T x)]) (.c (.Im (x:=x) (.va rfl) (.va rfl) (s _ _ hf) (s _ _ hb) n) .ni) rfl ⟨_,_,rfl,rfl,rfl⟩ (p _) λu q=>⟨_,rfl,d6 ⟨s.trans q,_,rfl⟩⟩
 .subst es;refine⟨_,rfl,hl,rfl,⟨hv,SqL.of (s _ _ hh)⟩,?_⟩;refine cf (K:=K) (a:=hl) (xs:=hv) (λi f H'=>Same H H'/\∃x3 x4 x5,f=Bt fd hl d x3 x4 x5) ⟨s,x3,none,none,rfl⟩ (λi f H' _ ⟨s,_⟩=>SqL.of (s _ _ hh)) (λi v f H' j ⟨s,x3,x4,x5,es⟩=>?_) λf H' ⟨s,x3,x4,x5,es⟩=>k H' s;subst es;obtain⟨x,m,b,rfl,hb⟩:=ah.get j;exact OX (s _ _ hf) (g.more bj s) o.t (o.s x (PY m)) (s _ _ hb) λx4 x5 w r=>⟨s.trans r,_,_,_,rfl⟩
end
structure qH(RL:List Sp.Rule) (e:List aE) (T:aE->Int) (Cv:Rw->Prop):Prop where
 s:∀x y,Cv x->LJ RL x y->Cv y
 h:∀a s w,Cv (a,s::w)->(a,s)∈e
 f:∀a s t p l,(a,s,t,p::l)∈RL->(a,s)∈e->(t,p)∈e/\T (t,p)<T (a,s)
section
variable{X:Cx}{K:Uy}{H H':Hp}{fd l sp cl sl fl:Addr}{e:List aE}{T:aE->Int}{Cv:Rw->Prop}{D:Ends}{σ:L2.St}{vs ws fv:List V}{Q:VK}{E:XK}{RL fs:List Sp.Rule}{room c s:Int}{w:List Int}{k:aE}
inductive B4:Sp
 |mk {H:Hp} {l sp sl fd cl:Addr} {ws:List V} {RL:List Sp.Rule} {room:Int} {aS cells:List Int} {e:List aE} {T:aE->Int} {Cv:Rw->Prop} {Q:VK} {E:XK} (hl:Rd H l (.lst ws)) (its:aN (IsRule H) RL ws) (hp:H sp=some (.tup [.int room,.ref sl])) (hs:Rd H sl (.lst (aS.map .int))) (hf:H fd=some (wx T e)) (hc:Rd H cl (.lst (cells.map .int))) (z1:RL.length<1000) (z2:aS.length<=5) (z3:cells.length<=100) (hu:∀r∈RL,r.2.2.2.length<=2) (o:qH RL e T Cv) (c0:Cv (room,aS)) (k:∀H',Same H H'->Q (.bl true) H'):B4 [.ref l,.ref sp,.ref fd,.ref cl] H Q E
def Bu(h:B4 vs H Q E):vs.length=4:=by cases h;rfl
def Np(K:Uy):TE:=dc (au (ao 4) (au (bv (pz K) (ao 5) (tC (.int 0))) aF))
def KJ(K:Uy):TT:=F9 (bQ (bv G9 (fQ (fX K) (au (tI K 8 3) aF)) (tC (.int 0)))) (pb (bQ (bv Fv (dI (ao 2) (Np K) (ao 9)) (ao 9))))
def KM(K:Uy):TS:=aJ (aZ (bv Gp (fQ (m9 K) (au (tI K 8 3) aF)) (Gj (zi K) (ao 5) (kY (tC (.int 1))) lB)) (aA 5)) (dD (KJ K) D7 cb)
def Nq(K:Uy):TS:=aJ (aZ (eU (ao 2) (Np K)) (aA 9)) (aJ (aZ (tI K 8 2) (aA 4)) (KM K))
def Hz(K:Uy):TS:=dD (bQ (bv G9 (Er K 7) (tC (.int 0)))) (aJ (aZ (bv (pz K) (ao 7) (bv cK (ao 6) (Er K 7))) (aA 8)) (Nq K)) cb
def Nr(K:Uy)(a:TS):TS:=aJ (aZ (eJ aF) (aA 7)) (aJ (dD (bQ (bv G9 (Er K 5) (tC (.int 0)))) a cb) (Hz K))
def OY(K:Uy)(a:TS):TS:=aJ (aZ (ao 1) (dZ K 2 (aW (aA 4) (aW (aA 5) dY)))) (aJ (d4 (ce K (ao 3)) (aA 6) (Nr K a)) (cO (tC (.bl true))))
def m_(l sp fd cl:Addr)(room:Int)(sl:Addr)(x6 x7 x8 x9:Option V):L2.St:=[some (.ref l),some (.ref sp),some (.ref fd),some (.ref cl),some (.int room),some (.ref sl),x6,x7,x8,x9]
theorem FN(a:σ[4]?=some (some (.int room)))(d:σ[5]?=some (some (.ref sl)))(hs:Rd H sl (.lst ((s::w).map .int)))(k:∀b H',Same H H'->H' b=some (.tup ((k2 (room,s)).map kV))->Q (.ref b) H'):Np K σ H Q:=nX (ws:=[.int room,.int s]) (.c (.va a) (.c (.op (z:=.int s) (.va d) .k λ_ q=>⟨sl,_,0,_,rfl,rfl,.inl hs,cV (j:=0) rfl,q⟩) .ni)) rfl λb hb=>k b _ (aw hb) ag
theorem OZ{x8 x9:Option V}(J:H fl=some (.lst fv))(W:aN (IsRule H) fs fv)(m:∀q∈fs,q∈RL/\q.1=room/\q.2.1=s)(hs:fs≠[]->Rd H sl (.lst ((s::w).map .int)))(zw:w.length<1000)(hp:∀r∈RL,r.2.2.2.length<=2)(L:H fd=some (wx T e))(o:qH RL e T Cv)(cv:fs≠[]->Cv (room,s::w))
 (kn:∀x8 x9,D.nx (m_ l sp fd cl room sl (some (.int c)) (some (.ref fl)) x8 x9) H) (ks:∀y A x8 x9 H',fs≠[]->LJ RL (room,s::w) y->Same H H'->H' A=some (.lst (y.2.map .int))->D.nx (m_ l sp fd cl y.1 A (some (.int c)) (some (.ref fl)) x8 x9) H'):Hz K D (m_ l sp fd cl room sl (some (.int c)) (some (.ref fl)) x8 x9) H:=by
 refine gw (Reads.N7 rfl (.inl J)) (λc1=>?_) λ_=>kn _ _;have c1:=Qa c1;have ln:=W.len;have b:=em (a:=c) c1;obtain⟨j,hj⟩ : ∃j:Nat,c%((fv.length:Nat):Int)=(j:Nat):=⟨_,(T8 b.1).symm⟩;have jl:j<fv.length:=by lia
 have M:fv[j]?=some fv[j]:=Px jl;obtain⟨q,eq,p,u,ep,d,Y⟩:=W.get M;rw[ep]at M;have B:=m q (PY eq);have ne:fs≠[]:=λz=>by rw[z]at eq;cases eq
 have hs:=hs ne;have hpq:=hp q B.1;have me:=o.h _ _ _ (cv ne);refine dW (Reads.O8 (.va rfl) (.mod (.va (v:=.int c) rfl) (.B5 (.va rfl) (.inl J)) c1) J (by rw[hj];exact cV M)) ?_;refine⟨_,rfl,FN (σ:=m_ l sp fd cl room sl (some (.int c)) (some (.ref fl)) (some (.ref p)) x9) rfl rfl hs λb N i hb=>⟨fd,_,rfl,.inr ⟨_,k2 (room,s),b,.inl (i _ _ L),rfl,hb,by rw[j5,PN me]⟩,?_⟩⟩;refine dW (.ix (.va rfl) (i _ _ d) (v:=.int q.2.2.1) rfl) ?_;show KM K D (m_ l sp fd cl q.2.2.1 sl (some (.int c)) (some (.ref fl)) (some (.ref p)) (some (.int (T (room,s))))) N;have hs:=ba i hs;refine Reads.ix (n:=3) (.va rfl) (i _ _ d) (v:=.ref u) rfl _ ⟨u,_,rfl,.inr (SqT.of (i _ _ Y)),λG O=>?_⟩;have P:=aw (o:=.lst (q.2.2.2.map .int)) O;have h1:upd N G (.lst (q.2.2.2.map .int)) G=some (.lst (q.2.2.2.map .int)):=ag;generalize upd N G (.lst (q.2.2.2.map .int))=H1 at P h1;refine⟨_,rfl,_,rfl,sl,_,rfl,.inl (ba P hs),λI R=>?_⟩;have ec:fB ((s::w).map V.int) (some 1) none=w.map .int:=kM _ 1;rw[ec];have t2:=aw (o:=.lst (w.map .int)) R;have h2:upd H1 I (.lst (w.map .int)) I=some (.lst (w.map .int)):=ag;have C:=t2 _ _ h1;generalize upd H1 I (.lst (w.map .int))=Z at t2 h2 C;refine⟨G,I,_,_,rfl,rfl,C,h2,Re (jL (by simp;lia)),λg S=>?_⟩;have t3:=aw (o:=.lst (q.2.2.2.map V.int++w.map .int)) S;have h3:upd Z g (.lst (q.2.2.2.map V.int++w.map .int)) g=some (.lst ((q.2.2.2++w).map .int)):=by rw[ag,Qo]
 generalize upd Z g (.lst (q.2.2.2.map V.int++w.map .int))=H3 at t3 h3;have t:=((i.trans P).trans t2).trans t3;have F:∀{H'},Same H3 H'->D.nx (m_ l sp fd cl q.2.2.1 g (some (.int c)) (some (.ref fl)) (some (.ref p)) (some (.int (T (room,s))))) H':=λt'=>ks (q.2.2.1,q.2.2.2++w) g _ _ _ ne ⟨q,B.1,w,by rw[B.2.1,B.2.2],rfl⟩ (t.trans t') (t' _ _ h3);show dD (KJ K) D7 cb D (m_ l sp fd cl q.2.2.1 g (some (.int c)) (some (.ref fl)) (some (.ref p)) (some (.int (T (room,s))))) H3;refine Reads.op (z:=.bl (decide (0<((q.2.2.2.length:Nat):Int)))) (.len (.ix (n:=3) (.va rfl) (t _ _ d) (v:=.ref u) rfl) (by have:=t _ _ Y;exact this)) .k (λ_ q=>⟨_,_,rfl,rfl,by rw[Ps];exact q⟩) _ ⟨_,rfl,ub (λc2=>?_) λ_=>d6 (F λ_ _ e=>e)⟩;obtain⟨q0,q1,q2,put⟩:=q;obtain⟨r1,r2,r3⟩:=B;dsimp only at r2 r3;subst r2;subst r3;cases put with
 |nil=>exact absurd (Qa c2) (by simp)
 |cons x r=>obtain⟨m2,lt⟩:=o.f _ _ _ _ _ r1 me;refine⟨_,rfl,fd,rfl,.inr ⟨_,.inl (t _ _ L)⟩,FN (σ:=m_ l sp fd cl q2 g (some (.int c)) (some (.ref fl)) (some (.ref p)) (some (.int (T (q0,q1))))) (s:=x) (w:=r++w) rfl rfl (.inl h3) λb4 H4 t4 U=>⟨_,rfl,_,DGet.t (k:=k2 (q2,x)) (t4 _ _ (t _ _ L)) U,?_⟩⟩;rw[j5,PN m2];refine⟨_,rfl,_,_,rfl,rfl,_,rfl,?_⟩;rw[P3 lt];exact d6 (F t4)
structure Pb(X:Cx) (scope:Scope) (tg elt:Expr) (tN capN:List Str) (caps:List Nat) (ifs:List Expr):Prop where
 h:tN.length=1
 c:caps=[4,5]
 g:∀cl C s3 H3 fp,PG (aV X scope (tN++capN) cl C s3 H3 fp) tg (aA 0)
 t:∀cl C s3 H3 fp,yQ (aV X scope (tN++capN) cl C s3 H3 fp) ifs (Kx X.K)
 e:∀cl C s3 H3 fp,PE (aV X scope (tN++capN) cl C s3 H3 fp) elt (ao 0)
theorem EI{scope:Scope}{tg F:Expr}{tN capN:List Str}{caps:List Nat}{G:List Expr}(C:Pb X scope tg F tN capN caps G)(h:B4 vs H Q E):OY X.K (qp X scope tg F tN capN caps G 7 (ce X.K (ao 0))) {nx:=λ_ H'=>Q .bB H',rt:=Q} (br ["_law_rules_here","_law_standing","_law_found","_law_cells","_law_room","_law_stack_here","_law_cell","_law_fits","_law_rule_here","_law_ahead"] vs) H:=by
 obtain @⟨H,l,sp,sl,fd,cl,ws,RL,room,aS,cells,e,T,Cv,Q,E,hl,its,hp,hs,hf,hc,z1,z2,z3,hu,o,c0,k⟩:=h;refine⟨_,rfl,yR hp ⟨_,rfl,cl,rfl,⟨_,.inl hc⟩,?_⟩⟩;refine cf (K:=X.K) (a:=cl) (xs:=cells.map .int) (λi f H'=>Same H H'/\∃(x:Rw)(b:Addr),(∃x6 x7 x8 x9,f=m_ l sp fd cl x.1 b x6 x7 x8 x9)/\Rd H' b (.lst (x.2.map .int))/\Cv x/\x.2.length<=5+i) ⟨λ_ _ e=>e,(room,aS),sl,⟨none,none,none,none,rfl⟩,hs,c0,z2⟩ (λi f H' _ ⟨s,_⟩=>.inl (ba s hc)) (λi v f H' P q=>?_) λf H' q=>k H' q.1;obtain⟨A,⟨d,st⟩,b,⟨x6,x7,x8,x9,rfl⟩,j,M,n2⟩:=q;dsimp only at j n2;rw[PR]at P;obtain⟨c,S,rfl⟩:=QV.mp P;have il:=(PF.mp S).1;refine⟨PQ _,λfl p=>?_⟩;have n:=aw (o:=.lst []) p;have I:upd H' fl (.lst []) fl=some (.lst []):=ag;generalize upd H' fl (.lst [])=H3 at n I;have J:∀{D':Ends}{B:Hp}{fl x8 x9}{fv:List V}{fs:List Sp.Rule}{s:Int}{w:List Int},D'.nx=(λf H'=>Same H H'/\∃(x:Rw)(b:Addr),(∃x6 x7 x8 x9,f=m_ l sp fd cl x.1 b x6 x7 x8 x9)/\Rd H' b (.lst (x.2.map .int))/\Cv x/\x.2.length<=5+(i+1))->Same H' B->B fl=some (.lst fv)->aN (IsRule B) fs fv->(∀q∈fs,q∈RL/\q.1=d/\q.2.1=s)->(fs≠[]->st=s::w)->w.length<1000->Hz X.K D' (m_ l sp fd cl d b (some (.int c)) (some (.ref fl)) x8 x9) B:=λ{D' B fl x8 x9 fv fs s w} R r p N L u U=>by
  refine OZ (RL:=RL) (s:=s) (w:=w) p N L (λz=>by rw[<- u z];exact ba r j) U hu ((A.trans r) _ _ hf) o (λz=>by rw[<- u z];exact M) (λx8 x9=>?_) λy O x8 x9 H5 ne m W Y=>?_
  .rw[R];exact⟨A.trans r,(d,st),b,⟨_,_,_,_,rfl⟩,ba r j,M,by dsimp only;lia⟩
  .rw[R];rw[<- u ne]at m;have Z:=(Eo hu m).1;dsimp only at Z;exact⟨(A.trans r).trans W,y,O,⟨_,_,_,_,rfl⟩,.inl Y,o.s _ _ M m,by lia⟩
 refine gw (Reads.N7 rfl (ba n j)) (λc1=>?_) λc1=>?_
 .cases st with
  |nil=>exact absurd (Qa c1) (by simp)
  |cons s w=>refine⟨_,rfl,l,rfl,⟨ws,.inl (ba (A.trans n) hl)⟩,Ep (s:=s) (w:=w) C.h (by rw[C.c];rfl) C.g C.t C.e (ba (A.trans n) hl) (its.mono (IsRule.keep (.of (A.trans n)))) (ba n j) z1 λDl acc B r nD hD N=>J (D':=_) (s:=s) (w:=w) rfl (n.trans r) hD N (λq hq=>?_) (λ_=>rfl) (by simp at n2;rw[Ps]at *;lia)⟩;have:=P_.mp hq;rw[Rj,Sz,Sz]at this;exact this
 .exact J (D':=_) (s:=0) (w:=[]) rfl n I .nil (λ_ h=>nomatch h) (λz=>absurd rfl z) (by simp)
end
structure N3(F:Cd) (sc:List Int) (rooms signs many x0 x1 y0 x2 place:Int) (S:List Sp.Rule->List Sp.Arr->Int->List Int->Prop):Prop where
 h1:0<rooms/\rooms<=8
 h2:0<signs/\signs<=14
 h3:rooms*signs<=28
 hm:0<=many/\many<=12
 z:sc.length<=63
 c0:F.Fc [.lst (sc.map .int),.int 0]=.ok (.val (.int x0) true [])
 m0:F.Fm [.int x0]=.ok (.val (.int y0) true [])
 c1:F.Fc [.lst (sc.map .int),.int 1]=.ok (.val (.int x1) true [])
 c2:F.Fc [.lst (sc.map .int),.int 2]=.ok (.val (.int x2) true [])
 m2:F.Fm [.int x2]=.ok (.val (.int place) true [])
 k:∀RL:List Sp.Rule,(∀r∈RL,Ii rooms signs r)->(RL.length:Int)<=rooms*signs+12->∃t,NI F.Fr rooms signs RL t/\∀aS:List Int,aS.length<=5->(∀x∈aS,0<=x/\x<signs)->S RL (t.map (·.1)) (place%rooms) aS
structure CC(Fr:yS) (H0 H:Hp) (sc:List Int) (v0:V) (rooms signs room:Int) (RL:List Sp.Rule) (t:Pz.TD) (aS:List Int) (rl p7 l7 p l p9 l9:Addr) (ws wh:List V):Prop where
 s:Same H0 H
 i:Is H Tr (.lst (sc.map .int)) v0
 rl:H rl=some (.lst ws)
 it:aN (IsRule H) RL ws
 rr:∀r∈RL,Ii rooms signs r
 pr:NI Fr rooms signs RL t
 hs:qK H rooms signs RL p l wh
 s7:qE H room aS p7 l7
 s9:qE H room aS p9 l9
 z:aS.length<=5
section
variable{X:Cx}{mg:Str->Option UA}{F:Cd}{H0 H H':Hp}{p d rl:Addr}{σ:L2.St}{ws:List V}{Q:VK}{rooms signs many:Int}{sc:List Int}{x0 x1 y0 x2 place:Int}{aS:List Int}{D:Ends}{S:List Sp.Rule->List Sp.Arr->Int->List Int->Prop}
def FO(v0:V)(s1:Option V)(rooms signs many place:Int)(rl a p b:Addr)(rest:L2.St):L2.St:=some v0::s1::some (.int rooms)::some (.int signs)::some (.int many)::some (.ref rl)::some (.int place)::some (.ref a)::some (.ref p)::some (.ref b)::rest
def KN(X:Cx)(tl:TS):TS:=aJ (aZ (dc (au (tI X.K 7 0) (au (fQ (m9 X.K) (au (tI X.K 7 1) aF)) aF))) (aA 9)) tl
def HA(X:Cx)(tl:TS):TS:=aJ (aZ (Hk (NV X.K)) (aA 8)) (KN X tl)
def KO(X:Cx)(tl:TS):TS:=aJ (aZ (dc (au (bv cK (ao 6) (ao 2)) (au Nd aF))) (aA 7)) (HA X tl)
def KP(X:Cx)(mg:Str->Option UA)(F:Cd)(tl:TS):TS:=aJ (aZ (D9 mg F.Fm F.Fc 2) (aA 6)) (KO X tl)
def KQ(X:Cx)(mg:Str->Option UA)(F:Cd)(tl:TS):TS:=aJ (aZ (bO (BZ F.Fm F.Fc) [] E0 (au (ao 0) (au (ao 2) (au (ao 3) (au (ao 4) aF))))) (aA 5)) (KP X mg F tl)
theorem Nt{tl:TS}{v0:V}{s1 x5 x6 x7 x8 x9:Option V}{rest:L2.St}(R:N3 F sc rooms signs many x0 x1 y0 x2 place S)(is:Is H Tr (.lst (sc.map .int)) v0)(hs:σ=some v0::s1::some (.int rooms)::some (.int signs)::some (.int many)::x5::x6::x7::x8::x9::rest)
 (k:∀H' RL t aS rl a c p l e b ws s,CC F.Fr H H' sc v0 rooms signs (place%rooms) RL t aS rl a c p l e b ws s->S RL (t.map (·.1)) (place%rooms) aS->tl D (FO v0 s1 rooms signs many place rl a p e rest) H'):KQ X mg F tl D σ H:=by
 subst hs;refine⟨_,rfl,_,rfl,_,rfl,_,rfl,.mk is R.h1 R.h2 R.h3 R.hm R.c0 R.m0 R.c1 λrl ws RL H0 M W g its j u=>?_⟩;obtain⟨t,P,w⟩:=R.k RL j u;have Y:IsAll H0 Tr (RL.map eF) ws:=AU its λx _ v h=>FE h;have m:=D8 is M;show KP X mg F tl D (some v0::s1::some (.int rooms)::some (.int signs)::some (.int many)::some (.ref rl)::x6::x7::x8::x9::rest) H0;refine uZ (sd:=.lst (sc.map .int)) rfl m R.c2 R.m2 λH1 Z=>?_;show KO X tl D (some v0::s1::some (.int rooms)::some (.int signs)::some (.int many)::some (.ref rl)::some (.int place)::x7::x8::x9::rest) H1;refine⟨_,rfl,_,rfl,_,_,rfl,rfl,R.h1.1,_,rfl,_,_,rfl,rfl,⟨by decide,by decide⟩,_,rfl,.mk R.h2.1 λc aS y t2 nl7 z N b7=>⟨by show 2<=_;rw[Qf];lia,λa A=>?_⟩⟩;have T:=w aS N b7;have B:=aw (o:=.tup [.int (place%rooms),.ref c]) A;have C:qE (upd y a (.tup [.int (place%rooms),.ref c])) (place%rooms) aS a c:=⟨ag,.inl (B _ _ z)⟩;show HA X tl D (some v0::s1::some (.int rooms)::some (.int signs)::some (.int many)::some (.ref rl)::some (.int place)::some (.ref a)::x8::x9::rest) (upd y a (.tup [.int (place%rooms),.ref c]));generalize upd y a (.tup [.int (place%rooms),.ref c])=H3 at B C;have E:=(Z.trans t2).trans B
 delta HA aJ aZ
 dsimp only;refine Hl (σ:=some v0::s1::some (.int rooms)::some (.int signs)::some (.int many)::some (.ref rl)::some (.int place)::some (.ref a)::x8::x9::rest) rfl rfl (J9 (K:=X.K) rfl (.inl (E _ _ g)) (J8 Y E)) λp l s q G np nl h4=>?_;have I:=C.more G;show KN X tl D (some v0::s1::some (.int rooms)::some (.int signs)::some (.int many)::some (.ref rl)::some (.int place)::some (.ref a)::some (.ref p)::x9::rest) q;refine Reads.ix (K:=X.K) (n:=0) (.va (i:=7) rfl) I.t (v:=.int (place%rooms)) rfl _ (Reads.ix (K:=X.K) (n:=1) (.va (i:=7) rfl) I.t (v:=.ref c) rfl _ ⟨c,aS.map .int,rfl,.inl (.inl I.l),λb J=>⟨by show 2<=_;rw[Qf];lia,λe L=>?_⟩⟩);have t5:=aw (o:=.lst (aS.map .int)) J;have O:=aw (o:=.tup [.int (place%rooms),.ref b]) L;have U:qE (upd (upd q b (.lst (aS.map .int))) e (.tup [.int (place%rooms),.ref b])) (place%rooms) aS e b:=⟨ag,.inl (O _ _ ag)⟩;have f:=t5.trans O;show tl D (FO v0 s1 rooms signs many place rl a p e rest) (upd (upd q b (.lst (aS.map .int))) e (.tup [.int (place%rooms),.ref b]));generalize upd (upd q b (.lst (aS.map .int))) e (.tup [.int (place%rooms),.ref b])=H5 at f U;have r:=(E.trans G).trans f;exact k H5 RL t aS rl a c p l e b ws s ⟨M.trans r,D8 m r,r _ _ g,its.mono (IsRule.keep (.of r)),j,P,h4.more f,C.more (G.trans f),U,N⟩ T
variable{Fr:yS}{room:Int}{v0:V}{RL:List Sp.Rule}{t:Pz.TD}{p7 l7 l p9 l9:Addr}{wh:List V}
theorem CC.more(a:CC Fr H0 H sc v0 rooms signs room RL t aS rl p7 l7 p l p9 l9 ws wh)(s:Same H H'):CC Fr H0 H' sc v0 rooms signs room RL t aS rl p7 l7 p l p9 l9 ws wh:=⟨a.s.trans s,D8 a.i s,s _ _ a.rl,a.it.mono (IsRule.keep (.of s)),a.rr,a.pr,a.hs.more s,a.s7.more s,a.s9.more s,a.z⟩
def CC.pp(a:CC Fr H0 H sc v0 rooms signs room RL t aS rl p7 l7 p l p9 l9 ws wh):J0 (ig Fr) H (.ref p) (t.map (·.1)):=Hr a.hs.is a.hs.t a.pr.p a.pr.nd a.pr.z
def CC.sa(a:CC Fr H0 H sc v0 rooms signs room RL t aS rl p7 l7 p l p9 l9 ws wh)(u:∃U,yH (bc (t.map (·.1))) U/\room∈U):BX (ig Fr) H RL (t.map (·.1)) p p9 l9 room aS:=⟨⟨l,wh,a.hs.at⟩,a.pp,by rw[Ps];exact a.pr.z,a.pr.n,a.pr.f,u,⟨a.s9.t,a.s9.l⟩,by have:=a.z;lia⟩
def KR:TT:=IJ (bQ (bv GL (ao 8) (Hk (ao 5)))) (bQ (bv GL (ao 9) (ao 7)))
theorem FP{Q:Bool->Hp->Prop}{s1:Option V}{rest:L2.St}(a:CC Fr H0 H sc v0 rooms signs room RL t aS rl p7 l7 p l p9 l9 ws wh)(k:∀H',Same H H'->Q false H'):KR (FO v0 s1 rooms signs many place rl p7 p p9 rest) H Q:=by
 refine⟨_,rfl,_,rfl,_,rfl,_,rfl,by show 3<=_;rw[Qf];lia,λq i=>?_⟩;have e:=aw (o:=.tup [.int rooms,.int signs,.ref rl]) i;have c:upd H q (.tup [.int rooms,.int signs,.ref rl]) q=some (.tup [.int rooms,.int signs,.ref rl]):=ag;generalize upd H q (.tup [.int rooms,.int signs,.ref rl])=g at e c;have A:=a.more e;have f:Is g Tr (.lst (RL.map eF)) (.ref rl):=⟨rl,ws,rfl,.inl ⟨A.rl,True.intro⟩,AU A.it λx _ v h=>FE h⟩;have dep:=yj rooms signs RL;refine⟨jH rooms signs RL,jH rooms signs RL,Tr,Tr,A.hs.is,⟨q,_,rfl,c,_,_,rfl,rfl,_,_,rfl,rfl,_,_,rfl,f,rfl⟩,⟨dep,dep⟩,_,rfl,?_⟩;rw[iF];have b:(L3.D.tup [.int room,.lst (aS.map .int)]).dep<=50:=by
  have:L3.D.gn (aS.map L3.D.int)<=1:=j4 λd hd=>by obtain⟨y,_,rfl⟩:=Pt.mp hd;exact PQ _
  show max 0 (max (L3.D.gn (aS.map L3.D.int)+1) 0)+1<=50;lia
 refine d6 ⟨_,rfl,_,rfl,.tup [.int room,.lst (aS.map .int)],.tup [.int room,.lst (aS.map .int)],Tr,Tr,A.s9.is,A.s7.is,⟨b,b⟩,_,rfl,?_⟩;rw[iF];exact k g e
def HB{s1:Option V}{rest:L2.St}(is:Is H Tr (.lst (sc.map .int)) v0)(z:sc.length<=63)(k:∀a (f:List Int) H',Same H H'->H' a=some (.lst (f.map .int))->f.length<=63->Q (.ref a) H'):Kz X.K (FO v0 s1 rooms signs many place rl p7 p p9 rest) H Q:=by
 obtain⟨la,b,i,c,g⟩:=wo is;refine⟨_,rfl,_,rfl,_,_,rfl,rfl,_,rfl,_,rfl,_,_,rfl,rfl,_,rfl,⟨la,b,i,.inl c,λa e=>?_⟩⟩;have cl:=iz b (some (4+many)) (some (64+many));have h:fB b (some (4+many)) (some (64+many))=(rP sc (some (4+many)) (some (64+many))).map .int:=by rw[mV g];unfold fB rP;rw[Ps,List.map_take,List.map_drop]
 have j:b.length=sc.length:=by rw[mV g,Ps]
 rw[h,Ps]at cl;exact k a _ _ (aw e) (by rw[ag,h]) (by lia)
end
structure N9(RL:List Sp.Rule) (As:List Sp.Arr) (room:Int) (aS:List Int):Prop where
 u:∃U,yH (bc As) U/\room∈U
 am:yg RL As room aS
 dX:∀Z ks,o9 RL As room aS Z ks->ks.length<=63
 rg:Eh RL As room aS
 ti:KD RL As room aS
 no:yI RL As room aS->vi RL As room aS none->False
 yes:∀{T e},ji RL As room aS T e->∀zs,vi RL As room aS (some zs)->False
 nn:∀{T e},ji RL As room aS T e->yI RL As room aS->False
 told:∀{T e},ji RL As room aS T e->∀Z ks Z2 hs,o9 RL As room aS Z ks->(∀k,ko (Ls As RL k) (Z2 k))->(∀x,x∈hs↔x∈ks)->hs.length=ks.length->vt Z2 e hs T
 Il:∀{T e},ji RL As room aS T e->∃Cv,qH RL e T Cv/\Cv (room,aS)
 bx:∀{T e},ji RL As room aS T e->e.Nodup/\∀x∈e,x∈bx3
 uq:∀{T e T2 e2},ji RL As room aS T e->ji RL As room aS T2 e2->e2.length=e.length/\∀k∈e2,k∈e/\T2 k=T k
def Bv(F:Cd)(ds:List L3.D):Prop:=∃b x0 x1 a c place,ds=[.lst (b.map .int)]/\N3 F b (1+a%3) (1+a/3%4) (a/96%13) x0 x1 a c place N9
open Classical in
def EJ(F:Cd)(ds:List L3.D):Res R:=if Bv F ds then .ok (.val (.bl true) true [])else .stuck
def EK{F:Cd}{ds:List L3.D}(h:Bv F ds):EJ F ds=.ok (.val (.bl true) true []):=PN h
def EL{T a:aE->Int}{e e2:List aE}(b:e2.length=e.length)(h:∀k∈e2,k∈e/\a k=T k):AD (e2.map λk=>(k2 k,V.int (a k))) (e.map λk=>(k2 k,V.int (T k)))=true:=by
 unfold AD;rw[Ps,Ps,b,BEq.rfl,Um,TJ];intro p c;obtain⟨k,d,rfl⟩:=Pt.mp c;obtain⟨m,g⟩:=h k d;have f:∀{l:List aE},k∈l->(l.map λk=>(k2 k,V.int (T k))).find? (λy=>decide (y.1=k2 k))=some (k2 k,V.int (T k)):=λ{l} hm=>by
  induction l with
  |nil=>cases hm
  |cons x l i=>
   rw[PU,Q9];by_cases e:x=k
   .rw[e,P3 rfl]
   .rw[QA λz=>e (iO _ _ z)];exact i ((PB.mp hm).resolve_left λz=>e z.symm)
 unfold DR;dsimp only;rw[f m,g];exact P3 rfl
def wy{T:aE->Int}{e:List aE}:uR (e.map λk=>(k2 k,V.int (T k))):=λp a=>by obtain⟨k,_,rfl⟩:=Pt.mp a;exact⟨_,rfl⟩
section
variable(X:Cx)(F:Cd)(C:Addr)(E:XK)
def KU:TE:=bO (Cf (ig F.Fr)) [] E0 (au (ao 8) (au (ao 9) aF))
def Nu:TS:=aJ (aZ (fQ (FL X) (au (ao 11) aF)) (aA 12)) (aJ (cj (wY X.K "dict" FD (ao 11))) (cO (bv JS (bO (yE (ig F.Fr) C) [] E (au (ao 8) (au (ao 9) aF))) (ao 12))))
def Nv:TS:=aJ (dD (pb (tB (bO B4 [] E0 (au (ao 5) (au (ao 7) (au (ao 11) (au (Kz X.K) aF))))))) D7 cb) (Nu X F C E)
def Nw:TS:=aJ (dD (pb (tB (bO Ca [] E0 (au (ao 11) (au (bO (Ce (ig F.Fr)) [] E0 (au (ao 8) (au (ao 9) aF))) (au (bO (B6 (ig F.Fr)) [] E0 (au (ao 8) aF)) aF)))))) D7 cb) (Nv X F C E)
def Nx:TS:=aJ (dD (IJ (tB (ao 10)) (tB (yV (KU F)))) (cO (vz (ao 10) (yV (KU F)))) cb) (Nw X F C E)
def HC:TS:=aJ (dD KR D7 cb) (Nx X F C E)
def Ny(X:Cx)(C:Addr)(sp:Sp)(a:TS):TS:=λD σ H=>au (ao 8) (au (ao 9) aF) σ H λvs H1=>sp (vs++[]) H1 (λv b=>D.nx (σ.set 11 (some v)) b) (L2.oG X C a D σ)
def KW:TS:=aJ (Ny X C (yE (ig F.Fr) C) (aZ (tC (.bl true)) (aA 10))) (HC X F C E)
def KY:TS:=aJ (aZ (tC (.bl false)) (aA 10)) (aJ (aZ eL (aA 11)) (KW X F C E))
end
section
variable{X:Cx}{mg:Str->Option UA}{F:Cd}{C:Addr}{H0 H H':Hp}{p rl p7 l7 l p9 l9:Addr}{vs ws wh:List V}{Q:VK}{E:XK}{rooms signs many place room:Int}{sc aS:List Int}{v0:V}{s1 x10 x11 x12:Option V}{RL:List Sp.Rule}{t:Pz.TD}{D:Ends}
def KZ(hx:excIn X.K C rh "ValueError.__new__"=true) (hm:(nM X.K C).contains (.ref C)=true) (a:CC F.Fr H0 H sc v0 rooms signs room RL t aS rl p7 l7 p l p9 l9 ws wh) (T:N9 RL (t.map (·.1)) room aS) (zs:sc.length<=63) (k:∀H',Same H H'->D.rt (.bl true) H'):KY X F C E D (FO v0 s1 rooms signs many place rl p7 p p9 [x10,x11,x12]) H:=by
 refine λtd V=>?_;have S:=aw (o:=.dT []) V;show KW X F C E D (FO v0 s1 rooms signs many place rl p7 p p9 [some (.bl false),some (.ref td),x12]) (upd H td (.dT []));generalize upd H td (.dT [])=H1 at S;have A:=a.more S;refine⟨_,rfl,_,rfl,.mk (A.sa T.u) T.am T.rg T.ti (λfd e I Y s2 nf hf ze to=>?_) λno Y s2=>⟨C,rfl,hx,hm,?_⟩⟩
 .show HC X F C E D (FO v0 s1 rooms signs many place rl p7 p p9 [some (.bl false),some (.ref fd),x12]) Y;refine FP (A.more s2) λH3 J=>d6 ?_;have L:=s2.trans J;refine⟨_,rfl,_,rfl,d6 ⟨_,rfl,_,rfl,.mk ((A.more L).sa T.u) T.am T.rg λo v H4 U io ro=>?_⟩⟩;cases o with
  |some zs=>exact(T.yes to zs ro).elim
  |none=>
   obtain rfl:v=.bB:=io;refine⟨_,rfl,d6 ?_⟩;have M:=L.trans U;refine⟨_,rfl,_,rfl,_,rfl,.mk ((A.more M).sa T.u) T.am T.dX λlh hv Z ks hs H5 s5 nh hh ah m lm g=>?_⟩;have N:=M.trans s5;have O:=A.more N;refine⟨_,rfl,.mk O.hs.at O.pp (by rw[Ps];exact O.pr.z) O.pr.n O.pr.f λd Z2 LA H6 g6=>?_⟩;have s26:=N.trans g6.g.s;have s6:=(J.trans (U.trans s5)).trans g6.g.s;refine .mk (s6 _ _ hf) (g6.g.s _ _ hh) (ah.mono (bj (.of g6.g.s))) g6.g (T.told to Z ks Z2 hs g g6.s m lm) λH7 s7=>⟨_,rfl,d6 ?_⟩;have x:=s26.trans s7;refine⟨_,rfl,_,rfl,_,rfl,HB (A.more x).i zs λlc cs H8 s8 hlc zc=>?_⟩;have y:=A.more (x.trans s8);obtain⟨Cv,fo,cv⟩:=T.Il to;have P:=(s6.trans s7).trans s8;refine .mk (.inl y.rl) y.it y.s7.t y.s7.l (P _ _ hf) (.inl hlc) y.pr.n y.z (by lia) (λr hr=>(y.rr r hr).p) fo cv λH9 s9=>⟨_,rfl,d6 ?_⟩;have b:=s9 _ _ (P _ _ hf);have s29:=(x.trans s8).trans s9;obtain⟨nde,be⟩:=T.bx to;refine⟨_,rfl,fd,_,rfl,.inl b,EF nde be,λq hq=>?_⟩;have h:=aw (o:=wx I e) hq;have j:upd H9 q (wx I e) q=some (wx I e):=ag;generalize upd H9 q (wx I e)=B at h j;have nqf:q≠fd:=λz=>by rw[z,b]at hq;cases hq
   refine⟨_,rfl,.inr (.inr (.inl ⟨rfl,.inr ⟨_,h _ _ b⟩⟩)),fd,_,rfl,rfl,h _ _ b,?_⟩;have G:Same H1 (upd B fd (.dT [])):=λc u e=>by rw[ai λz=>by rw[z,nf]at e;cases e];exact h _ _ (s29 _ _ e)
   have w:upd B fd (.dT []) q=some (wx I e):=by rw[ai nqf];exact j
   generalize upd B fd (.dT [])=H11 at G w;refine⟨_,rfl,_,rfl,.mk ((A.more G).sa T.u) T.am T.rg T.ti (λd2 e2 T2 H12 R nd2 hd2 z2 to2=>⟨_,rfl,d2,q,_,_,rfl,rfl,.inl (.inl hd2),.inl (.inl (R _ _ w)),wy,wy,?_⟩) λno _ _=>(T.nn to no).elim⟩;obtain⟨u1,u2⟩:=T.uq to to2;rw[EL u1 u2];exact k H12 (S.trans (G.trans R))
 .show HC X F C E D (FO v0 s1 rooms signs many place rl p7 p p9 [some (.bl true),some (.ref td),x12]) Y;refine FP (A.more s2) λH3 J=>d6 ?_;refine⟨_,rfl,_,rfl,hI (hI ⟨_,rfl,_,rfl,hI ⟨_,rfl,_,rfl,.mk ((A.more (s2.trans J)).sa T.u) T.am T.rg λo v H4 U io ro=>?_⟩⟩)⟩;cases o with
  |none=>exact(T.no no ro).elim
  |some zs=>obtain⟨lf,fv,rfl,_⟩:=io;exact k H4 (((S.trans s2).trans J).trans U)
def Nz(X:Cx)(mg:Str->Option UA)(F:Cd)(C:Addr)(E:XK):TS:=aJ (aZ (D9 mg F.Fm F.Fc 0) (aA 1)) (aJ (aZ (bv cY (tC (.int 1)) (Ni (ao 1) 3)) (aA 2)) (aJ (aZ (bv cY (tC (.int 1)) (Ni (N2 3) 4)) (aA 3)) (aJ (aZ (Ni (N2 96) 13) (aA 4)) (KQ X mg F (KY X F C E)))))
theorem Bw{N:List Str}(f:N.length=13)(i:excIn X.K C rh "ValueError.__new__"=true) (hm:(nM X.K C).contains (.ref C)=true) (h:nU mg 1 (EJ F) vs H Q E):Nz X mg F C E {nx:=λ_ H'=>Q .bB H',rt:=Q} (br N vs) H:=by
 obtain⟨q,ds,Ma,is,b⟩:=h;unfold EJ at b;by_cases d:Bv F ds
 case neg=>rw[PK d]at b;exact b.elim
 rw[PN d]at b;obtain⟨sc,x0,x1,r,u,place,rfl,R⟩:=d;obtain⟨v0,v,rfl,c,rfl⟩:=is;have c:=D8 c λ_ _ e=>e;obtain⟨a,N,rfl⟩ : ∃a j,N=a::j:=by cases N with|nil=>cases f|cons a N=>exact⟨a,N,rfl⟩
 obtain⟨w,x,y,A,B,G,I,J,L,M,m,n,rfl⟩:=Hu (show N.length=12 by simpa using f);refine uZ (sd:=.lst (sc.map .int)) rfl c R.c0 R.m0 λH1 g=>?_;exact dW (.ad .k (.mod (.va rfl) .k (by decide))) (dW (.ad .k (.mod (.dv (.va rfl) .k ⟨by decide,by decide⟩) .k (by decide))) (dW (.mod (.dv (.va rfl) .k ⟨by decide,by decide⟩) .k (by decide)) (Nt R (D8 c g) rfl λH' RL t aS rl p7 l7 p l p9 l9 ws wh a T=>KZ i hm a T R.z λo s=>b _ _ (g.trans (a.s.trans s)) rfl)))
end
end L4
namespace L3
open PySem L2
section
variable{env:En}{d:D}{al:List Nat}
def cU{α:Type}(a:α)(l:List α):yO (a::l) 0=some a:=by unfold yO Gm;rw[PN (by lia),PN (by simp)];rfl
def hJ{α:Type}(a b c:α)(l:List α):yO (a::b::c::l) 2=some c:=by unfold yO Gm;rw[PN (by lia),PN (by simp;lia)];rfl
def K1(n:Nat)(caps:List Nat)(b:D->Bool->En->Option En)(a:En->Res Bool)(c:En->Res R)(env:En)(s:Src):Res R:=if s.xs.length<=lim then
 (v5 (λd=>b d s.fr (Jk env n caps)) a c s.xs).N6.bind λrs=>.ok (NP (rs.map R.d) (Ji rs) (s.al++caps.filter (Fj env)))else .stuck
theorem HD(n:Nat)(caps:List Nat)(b:En->Res Src)(c:D->Bool->En->Option En)(a:En->Res Bool)(e:En->Res R)(env:En) :
 Jl n caps b c a e env=(b env).bind (K1 n caps c a e env):=(rfl)
end
def NA{α b:Type}(a:α)(k:α->Res b):(Res.ok a).bind k=k a:=(rfl)
end L3
local macro_rules|`(tactic| simp_arith[$as,*] $[$l:location]?)=>do
 let ls←("L3.Mb L3.Aa decide_true decide_false List.map_cons List.map_nil List.length_cons List.length_nil List.replicate List.cons_append List.nil_append List.append_nil Nat.reduceAdd Nat.max_self Nat.zero_max Nat.max_zero Nat.zero_add Nat.reduceSub List.getElem?_cons_zero List.getElem?_cons_succ Int.reduceLT Int.reduceLE Int.reduceNeg List.set_cons_zero List.set_cons_succ Nat.reduceLT Nat.reduceLeDiff L3.cU L3.hJ Int.reduceBEq Bool.not_not Nat.reduceEqDiff L3.HD Bool.and_true Bool.true_and Bool.and_false Bool.false_and Bool.and_self Bool.not_true Bool.not_false".splitOn " ").toArray.mapM λs=>`(Lean.Parser.Tactic.simpLemma| $(Lean.mkIdent s.toName):ident)
 `(tactic| simp only[$[$ls:simpLemma],*,$as,*] $[$l]?)
local macro_rules|`(tactic| simp_arith $[$l:location]?)=>`(tactic| simp_arith[L3.NA] $[$l]?)
namespace W
open PySem PySem.Spec PyProof.Rows L2 L3 L4
def top(i:Nat):Stmt:=PySem.Challenge.pw_callwalk_k45_tiers_fall.main.body.getD i (.Pass ⟨0,0,0,0⟩)
abbrev iQ:Stmt:=top 35
abbrev N__law_rule:List Str:=["_law_number","_law_rooms","_law_signs","_law_falls","_law_room","_law_sign","_law_to","_law_size","_law_below"]
abbrev fY:List Str:=N__law_rule.take 4
def sc__law_rule:aP N__law_rule fY (aC iQ):=bM
abbrev gM:Stmt:=top 34
abbrev qr:List Str:=["_law_cell"]
abbrev fg:List Str:=["_law_cell"]
def n5:aP qr fg (aC gM):=bM
def fh:List D->Res R:=L4.Ng
abbrev fJ:Stmt:=top 32
abbrev N__law_cell_at:List Str:=["_law_script","_law_k"]
abbrev dR:List Str:=N__law_cell_at.take 2
def lu:aP N__law_cell_at dR (aC fJ):=bM
def cA:List D->Res R:=L4.KB
abbrev gN:Stmt:=top 36
abbrev N__law_rules:List Str:=["_law_script","_law_rooms","_law_signs","_law_many","_law_kind","_law_number","_law_rules_here","_law_k","_law_cell","_law_free"]
abbrev fj:List Str:=N__law_rules.take 4
def sc__law_rules:aP N__law_rules fj (aC gN):=bM
abbrev gO:Stmt:=top 37
abbrev N__law_stack:List Str:=["_law_cell","_law_signs","_law_number","_law_stack_here","_law_k"]
abbrev fq:List Str:=N__law_stack.take 2
def sc__law_stack:aP N__law_stack fq (aC gO):=bM
abbrev gR:Stmt:=top 8
abbrev N_is_plain:List Str:=["house","machine"]
abbrev gS:List Str:=N_is_plain.take 2
def sJ:aP N_is_plain gS (aC gR):=bM
abbrev cH:Stmt:=top 9
abbrev h_:List Str:=["house","machine"]
abbrev b6:List Str:=["house","machine"]
def gT:aP h_ b6 (aC cH):=bM
def b8:List D->Res R:=L4.Nf
abbrev d7:Stmt:=top 13
abbrev kN:List Str:=["house","rules","number","rule"]
abbrev d8:List Str:=["house"]
def sc_rules_by_start:aP kN d8 (aC d7):=bM
abbrev nc:Stmt:=top 15
abbrev N_prices:List Str:=["house","machine","pricing","arrow","number","rule"]
abbrev j7:List Str:=N_prices.take 2
def sc_prices:aP N_prices j7 (aC nc):=bM
abbrev HE:Stmt:=e9 (top 11) 0
def K3:aP ["self"] ["self"] (aC HE):=bM
abbrev HF:Stmt:=e9 (top 11) 1
def K4:aP ["self","price","thing"] ["self","price","thing"] (aC HF):=bM
abbrev HG:Stmt:=e9 (top 11) 2
def K5:aP ["self"] ["self"] (aC HG):=bM
abbrev EM:Stmt:=e9 (top 11) 3
def sc_QT:aP ["self","pile","price","thing"] ["self"] (aC EM):=bM
abbrev HH:Stmt:=e9 (top 14) 0
def K6:aP ["self","house"] ["self","house"] (aC HH):=bM
abbrev HI:Stmt:=e9 (top 14) 1
def sc_PO:aP ["self","arrow","price","number","mid","known"] ["self","arrow","price","number","mid"] (aC HI):=bM
abbrev HJ:Stmt:=e9 (top 14) 2
def sc_PS:aP ["self","arrow","price","start","number","rule","first"] ["self","arrow","price"] (aC HJ):=bM
abbrev HK:Stmt:=e9 (top 14) 3
def sc_PF:aP ["self","number","rule","mid","price","start","state","second"] ["self","number","rule","mid","price"] (aC HK):=bM
abbrev HL:Stmt:=e9 (top 14) 4
def sc_PA:aP ["self","price","arrow"] ["self"] (aC HL):=bM
def cT:List D->Res R:=L4.JI b8
abbrev lI:Stmt:=top 17
abbrev wz:List Str:=["house","told"]
abbrev lJ:List Str:=["house"]
def sc_pairs:aP wz lJ (aC lI):=bM
abbrev fK:Stmt:=top 19
abbrev nj:List Str:=["house","behind","room","sign","other"]
abbrev dS:List Str:=["house"]
def sc_rooms_behind:aP nj dS (aC fK):=bM
abbrev kO:Stmt:=top 5
abbrev yp:List Str:=["rule"]
abbrev jb:List Str:=["rule"]
def vc:aP yp jb (aC kO):=bM
abbrev gU:Stmt:=top 20
abbrev N_heads_by:List Str:=["rule","behind","put","first"]
abbrev gV:List Str:=N_heads_by.take 2
def sc_heads_by:aP N_heads_by gV (aC gU):=bM
abbrev cL:Stmt:=top 21
abbrev fZ:List Str:=["house","behind","leading","rule"]
abbrev cM:List Str:=["house","behind"]
def sc_head_steps_with:aP fZ cM (aC cL):=bM
abbrev gW:Stmt:=top 22
abbrev qt:List Str:=["house"]
abbrev ft:List Str:=["house"]
def n8:aP qt ft (aC gW):=bM
abbrev f6:Stmt:=top 23
abbrev N_own_heads:List Str:=["behind","standing","heads","rooms","sign","tops","gone","top"]
abbrev f7:List Str:=N_own_heads.take 2
def sc_own_heads:aP N_own_heads f7 (aC f6):=bM
abbrev gg:Stmt:=top 24
abbrev N_steps_among:List Str:=["house","standing","behind","leading","among","due","head"]
abbrev d9:List Str:=N_steps_among.take 2
def sc_steps_among:aP N_steps_among d9 (aC gg):=bM
abbrev jI:Stmt:=top 25
abbrev N_heads_of:List Str:=["house","standing"]
abbrev gX:List Str:=N_heads_of.take 2
def sK:aP N_heads_of gX (aC jI):=bM
abbrev j8:Stmt:=top 6
abbrev sL:List Str:=["things"]
abbrev j9:List Str:=["things"]
def yq:aP sL j9 (aC j8):=bM
abbrev bZ:Stmt:=top 26
abbrev dw:List Str:=["among","left","before","head","ahead","other","ended","due","last"]
abbrev cF:List Str:=["among"]
def sc_coming_to_an_end:aP dw cF (aC bZ):=bM
abbrev nu:Stmt:=top 27
abbrev N_ring:List Str:=["house","standing","among","ended","left","walk","head","heads"]
abbrev qu:List Str:=N_ring.take 2
def sc_ring:aP N_ring qu (aC nu):=bM
abbrev jJ:Stmt:=top 29
abbrev vd:List Str:=["among","ended"]
abbrev gY:List Str:=["among"]
def sc_in_order:aP vd gY (aC jJ):=bM
abbrev lK:Stmt:=top 30
abbrev N_tiers:List Str:=["house","standing","among","told","head"]
abbrev lL:List Str:=N_tiers.take 2
def sc_tiers:aP N_tiers lL (aC lK):=bM
abbrev gZ:Stmt:=top 33
abbrev qv:List Str:=["_law_found"]
abbrev fw:List Str:=["_law_found"]
def n9:aP qv fw (aC gZ):=bM
def j_:List D->Res R:=L4.Nh
abbrev iS:Stmt:=top 38
abbrev N__law_told:List Str:=["_law_found","_law_heads","_law_led","_law_head","_law_due","_law_other"]
abbrev f9:List Str:=N__law_told.take 3
def sc__law_told:aP N__law_told f9 (aC iS):=bM
abbrev cm:Stmt:=top 39
abbrev N__law_falls_on_run:List Str:=["_law_rules_here","_law_standing","_law_found","_law_cells","_law_room","_law_stack_here","_law_cell","_law_fits","_law_rule_here","_law_ahead"]
abbrev cn:List Str:=N__law_falls_on_run.take 4
def sc__law_falls_on_run:aP N__law_falls_on_run cn (aC cm):=bM
abbrev By:Stmt:=top 40
abbrev N_law:List Str:=["_law_script","_law_size","_law_rooms","_law_signs","_law_many","_law_rules_here","_law_place","_law_start","_law_house","_law_given","_law_refused","_law_found","_law_first"]
abbrev wB:List Str:=N_law.take 1
def sc_law:aP N_law wB (aC By):=bM
def K7:L4.Cd:=⟨cT,fh,cA⟩
def wC:List D->Res R:=L4.EJ K7
set_option genInjectivity false in
structure Tx(K:Uy) (mg:Str->Option UA) where
 yx:Df K mg "_law_rule" iQ fY
 tH:Df K mg "_law_mixed" gM fg
 qB:Df K mg "_law_cell_at" fJ dR
 Ct:Df K mg "_law_rules" gN fj
 Cq:Df K mg "_law_stack" gO fq
 CD:Df K mg "is_plain" gR gS
 CA:Df K mg "refuse_unless_plain" cH b6
 CJ:Df K mg "rules_by_start" d7 d8
 Cu:Df K mg "prices" nc j7
 CL:Df K mg "pairs" lI lJ
 yG:Df K mg "rooms_behind" fK dS
 Cw:Df K mg "head_of" kO jb
 Cm:Df K mg "heads_by" gU gV
 yJ:Df K mg "head_steps_with" cL cM
 Cr:Df K mg "head_steps" gW ft
 CN:Df K mg "own_heads" f6 f7
 tM:Df K mg "steps_among" gg d9
 CF:Df K mg "heads_of" jI gX
 Co:Df K mg "marked" j8 j9
 yL:Df K mg "coming_to_an_end" bZ cF
 yD:Df K mg "ring" nu qu
 Cy:Df K mg "in_order" jJ gY
 yK:Df K mg "tiers" lK lL
 Cp:Df K mg "_law_whole" gZ fw
 CG:Df K mg "_law_told" iS f9
 CB:Df K mg "_law_falls_on_run" cm cn
 CH:Df K mg "law" By wB
 Ip:mg "all"=none
 E3:mg "bool"=none
 jd:mg "dict"=none
 kh:mg "enumerate"=none
 Iw:mg "int"=none
 gm:mg "isinstance"=none
 c_:mg "len"=none
 jc:mg "list"=none
 BU:mg "max"=none
 Cg:mg "min"=none
 tD:mg "range"=none
 B_:mg "set"=none
 kU:mg "sorted"=none
 b_:Addr
 kR:XC K mg "Endless" b_
 gz:(nM K b_).contains (.ref b_)=true
 CQ:Addr
 kQ:qI K CQ
 gQ:mg "Queue"=some (.ref CQ)
 CP:Addr
 kP:jf K CP
 gP:mg "Pricing"=some (.ref CP)
 Ij:Mf K CQ "__init__" "Queue.__init__" HE ["self"]
 Iz:Mk K CQ Ij.f
 E8:Mf K CQ "add" "Queue.add" HF ["self","price","thing"]
 Ih:Mf K CQ "is_empty" "Queue.is_empty" HG ["self"]
 IG:Mf K CQ "take_lowest" "Queue.take_lowest" EM ["self"]
 Ie:Mf K CP "__init__" "Pricing.__init__" HH ["self","house"]
 Iu:Mk K CP Ie.f
 vj:Mf K CP "offer" "Pricing.offer" HI ["self","arrow","price","number","mid"]
 IH:Mf K CP "settle" "Pricing.settle" HJ ["self","arrow","price"]
 Ir:Mf K CP "settle_first" "Pricing.settle_first" HK ["self","number","rule","mid","price"]
 IF:Mf K CP "settle_all" "Pricing.settle_all" HL ["self"]
section
variable{P:Uz}{w:World}{K:Uy}{mg:Str->Option UA}{base:Heap}(t:Tx K mg)
def gh:bJ P w K mg base hG 1 t.tH.f t.tH.fd fg (nU mg 1 fh):=t.tH.h.fu.ok n5 (λ_ _ _ _ h=>h.1) λcdv A outer s H vs Q E a h=>⟨_,aB (aX (aO bS (aO gB (aO cr (aO bS (pv 0) ay) ay) ay) ay)),Ex h⟩
def di:bJ P w K mg base hG 1 t.qB.f t.qB.fd dR (nU mg 2 cA):=t.qB.h.fu.ok lu (λ_ _ _ _ h=>h.1) λcdv A outer s H vs Q E a h=>⟨_,aj (cq (bh ou (pv 1) (a_ bX (by rfl) t.c_ QT (aa (pv 0) av)) (bD _)) (aB (aX (aY gD (pv 0) (pv 1) (λ_ _=>rfl)))) bu) (aB (aX ay)),Ew h⟩
def kc:bJ P w K mg base hG 1 t.yx.f t.yx.fd fY Cc:=
 t.yx.h.fu.ok sc__law_rule (λ_ _ _ _ h=>Bi h) λcdv A outer s H vs Q E a h=>
  have b:=a.units
  ⟨_,(aj (aG (i:=4) sc__law_rule.nd rfl (Or.inl rfl) (aO bS (pv 0) (pv 1)))
      (aj (aG (i:=0) sc__law_rule.nd rfl (Or.inl rfl) (aO dg (pv 0) (pv 1)))
      (aj (aG (i:=5) sc__law_rule.nd rfl (Or.inl rfl) (aO bS (pv 0) (pv 2)))
      (aj (aG (i:=0) sc__law_rule.nd rfl (Or.inl rfl) (aO dg (pv 0) (pv 2)))
      (aj (aG (i:=6) sc__law_rule.nd rfl (Or.inl rfl) (aO bS (pv 0) (pv 1)))
      (aj (aG (i:=0) sc__law_rule.nd rfl (Or.inl rfl) (aO dg (pv 0) (pv 1)))
      (aj (aG (i:=7) sc__law_rule.nd rfl (Or.inl rfl) (aO bS (pv 0) ay))
      (aj (aG (i:=0) sc__law_rule.nd rfl (Or.inl rfl) (aO dg (pv 0) ay))
      (aj (aG (i:=8) sc__law_rule.nd rfl (Or.inl rfl) (pv 2))
      (aj (cq (jN (pv 3) (λ_=>rfl)) (aB (aG (i:=8) sc__law_rule.nd rfl (Or.inl rfl) (pv 5))) bu)
      (aj (cq (bh g8 (pv 8) ay (bD _)) (aB (aX (bw (aa (pv 4) (aa (pv 5) (aa (pv 6) (aa (bw av) av))))))) bu)
      (aB (aX (bw (aa (pv 4) (aa (pv 5) (aa (pv 6) (aa (iu Ej (bw (aa (aO bS (pv 0) (pv 8)) (aa (aO bS (aO dg (pv 0) (pv 8)) (pv 8)) av))) px (gC (pv 7))) av)))))))))))))))))),Ek h⟩
def n_:bJ P w K mg base hG 2 t.Ct.f t.Ct.fd fj (BZ fh cA):=
 t.Ct.h.fu.ok sc__law_rules (λ_ _ _ _ h=>Bk h) λcdv A outer s H vs Q E a h=>
  have b:=a.units
  ⟨_,(aj (aG (i:=4) sc__law_rules.nd rfl (Or.inl rfl) (aO bS (aO dg (aR (gh t) (a.mono (by decide)) rfl t.tH.h.gl t.tH.h.fu.kp t.tH.h.bi .nil bo (aa (aR (di t) (a.mono (by decide)) rfl t.qB.h.gl t.qB.h.fu.kp t.qB.h.bi .nil bo (aa (pv 0) (aa ay av))) av)) ay) ay))
      (aj (aG (i:=5) sc__law_rules.nd rfl (Or.inl rfl) (aO cr (aO bS (aR (di t) (a.mono (by decide)) rfl t.qB.h.gl t.qB.h.fu.kp t.qB.h.bi .nil bo (aa (pv 0) (aa ay av))) ay) ay))
      (aj (aG (i:=6) sc__law_rules.nd rfl (Or.inl rfl) (bN av))
      (aj (bY Qe rfl (oq (by rfl) t.tD (aa (aO gB (pv 1) (pv 2)) av)) (aI (i:=7) sc__law_rules.nd rfl (Or.inl rfl)) (aj (aG (i:=5) sc__law_rules.nd rfl (Or.inl rfl) (aO bS (aO cr (aO cr (aO gB (pv 5) (pv 5)) (aO gB ay (pv 5))) (pv 7)) ay))
      (aB (cq (bh ou (aO bS (pv 5) ay) ay (bD _)) (aB (bq (cR P9 Qx Qy b9 (pv 6) (aa (aR (kc t) (a.mono (by decide)) rfl t.yx.h.gl t.yx.h.fu.kp t.yx.h.bi .nil bo (aa (aO cr (aO gB (aO gB (aO dg (pv 5) ay) (pv 1)) (pv 2)) (pv 7)) (aa (pv 1) (aa (pv 2) (aa (iY oz (pv 4) ay (bD _)) av))))) av)))) bu))))
      (aj (bY Qe rfl (bz (iu lC (pv 0) (gC ay) (gC (aO cr ay (pv 3))))) (aI (i:=8) sc__law_rules.nd rfl (Or.inl rfl)) (aj (aG (i:=9) sc__law_rules.nd rfl (Or.inl rfl) (IV (iY g8 (pv 4) ay (bD _)) (pc (tO (iY oz (pv 4) ay (bD _)) (pc (iY ou (aO bS (pv 8) ay) ay (bD _)))))))
      (aB (bq (cR P9 Qx Qy b9 (pv 6) (aa (aR (kc t) (a.mono (by decide)) rfl t.yx.h.gl t.yx.h.fu.kp t.yx.h.bi .nil bo (aa (aO bS (aO gB (aO cr (aO bS (pv 8) ay) ay) ay) ay) (aa (pv 1) (aa (pv 2) (aa (yY (pv 9)) av))))) av))))))
      (aB (aX (pv 6)))))))),Em (by decide) Na h⟩
def og:bJ P w K mg base hG 1 t.Cq.f t.Cq.fd fq BW:=
 t.Cq.h.fu.ok sc__law_stack (λ_ _ _ _ h=>Bj h) λcdv A outer s H vs Q E a h=>
  have b:=a.units
  ⟨_,(aj (aG (i:=2) sc__law_stack.nd rfl (Or.inl rfl) (aO bS (aO dg (pv 0) ay) ay))
      (aj (aG (i:=3) sc__law_stack.nd rfl (Or.inl rfl) (bN av))
      (aj (bY Qe rfl (oq (by rfl) t.tD (aa (aO bS (pv 0) ay) av)) (aI (i:=4) sc__law_stack.nd rfl (Or.inl rfl)) (aj (aG (i:=2) sc__law_stack.nd rfl (Or.inl rfl) (aO bS (aO cr (aO cr (aO gB (pv 2) ay) (aO gB (pv 4) (pv 4))) ay) ay))
      (aB (bq (cR P9 Qx Qy b9 (pv 3) (aa (aO bS (aO dg (pv 2) ay) (pv 1)) av))))))
      (aB (aX (pv 3)))))),El h⟩
def sM:bJ P w K mg base hG 1 t.CD.f t.CD.fd gS BS:=t.CD.h.fu.ok sJ (λ_ _ _ _ h=>Bn h) λcdv A outer s H vs Q E a h=>⟨_,aB (aX (a_ (yk rfl) (by rfl) t.Ip (by decide +kernel) (aa (dQ (tN:=["arrow"]) (capN:=["house"]) (caps:=[0]) rfl (cB.of (osc:=aC gR) (N:=N_is_plain) rfl rfl (by decide +kernel)) (bz (aY aQ (pv 1) ay (λ_ _=>rfl)))) av))),Et h⟩
def g4:bJ P w K mg base hG 2 t.CA.f t.CA.fd b6 (nU mg 2 b8):=t.CA.h.fu.ok gT (λ_ _ _ _ h=>h.1) λcdv A outer s H vs Q E a h=>⟨_,aB (cq (ik (jt (aR (sM t) (a.mono (by decide)) rfl t.CD.h.gl t.CD.h.fu.kp t.CD.h.bi .nil bo (aa (pv 0) (aa (pv 1) av))))) Hv bu),Eu h⟩
def K8:bJ P w K mg base hG 1 t.Ij.f t.Ij.fd ["self"] (kg t.CQ):=t.Ij.h.fu.ok K3 (λ_ _ _ _ h=>rY h) λcdv A outer s H vs Q E a h=>⟨_,aj (iq (pv 0) ay rfl) (aB (iq (pv 0) zu rfl)),uK t.kQ h⟩
def FQ:bJ P w K mg base hG 1 t.E8.f t.E8.fd ["self","price","thing"] (o8 t.CQ):=
 t.E8.h.fu.ok K4 (λ_ _ _ _ h=>xP h) λcdv A outer s H vs Q E a h=>
  ⟨_,aB (bq (cR P9 Qx Qy b9 (cR Qq QB QU C9 (cG (pv 0) rfl)
    (aa (lV PySem.F.plainAttrs_int PySem.F.slot_int_bit_length PySem.F.type_int_bit_length DE (aO Ge (pv 1) (cG (pv 0) rfl))) (aa (bN av) av))) (aa (bw (aa (pv 1) (aa (pv 2) av))) av))),Ai t.kQ h rfl⟩
def K9:bJ P w K mg base hG 1 t.Ih.f t.Ih.fd ["self"] (km t.CQ):=t.Ih.h.fu.ok K5 (λ_ _ _ _ h=>rZ h) λcdv A outer s H vs Q E a h=>⟨_,aB (aX (iY g8 (a_ xR (by rfl) t.c_ QT (aa (cG (pv 0) rfl) av)) ay (bD _))),uL t.kQ h⟩
def sN:bJ P w K mg base hG 2 t.vj.f t.vj.fd ["self","arrow","price","number","mid"] (d_ t.CP t.CQ):=
 t.vj.h.fu.ok sc_PO (λ_ _ _ _ h=>r_ h) λcdv A outer s H vs Q E a h=>
  ⟨_,aj (aG (i:=5) sc_PO.nd rfl (Or.inl rfl) (zv (cu a) (cG (pv 0) rfl) (pv 1) ⟨rfl,rfl,rfl,rfl⟩))
    (aB (cq (PW.pt (qV (bh G4 (pv 5) kz (bD _)) (lN (bh ou (pv 2) (aY aQ (pv 5) ay (λ_ _=>rfl)) (bD _)))))
      (aj (jQ (cu a) (cG (pv 0) rfl) (pv 1) (bw (aa (pv 2) (aa (pv 3) (aa (pv 4) av)))) rfl)
        (aB (bq (eZ (cG (pv 0) rfl) t.kQ.cl t.E8.h.me (FQ t) a t.E8.h.bi .nil bo (aa (pv 2) (aa (pv 1) av))))))
      bu)),uN t.kP t.kQ h⟩
def Bz:((["price","thing"]:List Str)++([]:List Str)).Nodup:=by decide +kernel
def K_:bJ P w K mg base hG 2 t.IG.f t.IG.fd ["self"] (nC t.CQ):=
 t.IG.h.fu.ok sc_QT (λ_ _ _ _ h=>uM h) λcdv A outer s H vs Q E a h=>
  ⟨_,aj (aG (i:=1) sc_QT.nd rfl (Or.inl rfl) (q_ (cG (pv 0) rfl) (a_ (xQ rfl) (by rfl) t.Cg (by decide +kernel) (aa (lV Qq PySem.F.slot_dict_keys PySem.F.type_dict_keys DF (cG (pv 0) rfl)) av)) ⟨rfl,rfl,rfl,rfl⟩))
    (aj (iq (pv 0) (a_ (xX rfl) (by rfl) t.Cg (by decide +kernel) (aa (dQ (tN:=["price","thing"]) (capN:=[]) (caps:=[]) rfl (cB.of (osc:=aC EM) (N:=["self","pile","price","thing"]) rfl rfl (by decide +kernel)) (bz (pv 1))) av)) rfl)
    (aj (bY Qe rfl (bz (pv 1)) (dF rfl (aU (aI (i:=2) sc_QT.nd rfl (Or.inl rfl)) (aU (aI (i:=3) sc_QT.nd rfl (Or.inl rfl)) cI)))
      (aB (bq (eZ (pv 0) t.kQ.cl t.E8.h.me (FQ t) a t.E8.h.bi .nil bo (aa (pv 2) (aa (pv 3) av))))))
    (aB (aX (q_ (cG (pv 0) rfl) ay ⟨rfl,rfl,rfl,rfl⟩))))),
    xS t.kQ (λ_ _=>rfl) (xY rfl (λ_ _ _ _ _=>dF rfl (aU (aI (i:=0) Bz rfl (Or.inl rfl)) (aU (aI (i:=1) Bz rfl (Or.inl rfl)) cI))) λ_ _ _ _ _=>pv 0) h⟩
def La:bJ P w K mg base hG 3 t.Ir.f t.Ir.fd ["self","number","rule","mid","price"] (kf t.CP t.CQ):=
 t.Ir.h.fu.ok sc_PF (λ_ _ _ _ h=>sj h) λcdv A outer s H vs Q E a h=>
  ⟨_,aj (aG (i:=5) sc_PF.nd rfl (Or.inl rfl) (bw (aa (pv 3) (aa (aY aQ (aY aQ (pv 2) ay (λ_ _=>rfl)) ay (λ_ _=>rfl)) av))))
    (aj (bq (cR P9 Qx Qy b9 (cR Qq QB QU (gs a.units) (cG (pv 0) rfl) (aa (pv 5) (aa (bN av) av))) (aa (bw (aa (pv 1) (aa (pv 2) (aa (pv 4) av)))) av)))
    (aB (bY Qe rfl (bz (dJ (cu a) (cG (pv 0) rfl) (pv 5) (bN av) ⟨rfl,rfl,rfl,rfl⟩)) (dF rfl (aU (aI (i:=6) sc_PF.nd rfl (Or.inl rfl)) (aU (aI (i:=7) sc_PF.nd rfl (Or.inl rfl)) cI)))
      (aB (bq (eZ (pv 0) t.kP.cl t.vj.h.me (sN t) a t.vj.h.bi .nil bo (aa (bw (aa (aY aQ (pv 2) ay (λ_ _=>rfl)) (aa (aY aQ (pv 2) ay (λ_ _=>rfl)) (aa (pv 6) av))))
        (aa (aO cr (aO cr (pv 4) (pv 7)) ay) (aa (pv 1) (aa (pv 3) av)))))))))),uO t.kP h⟩
def Lb:bJ P w K mg base hG 4 t.IH.f t.IH.fd ["self","arrow","price"] (iW t.CP t.CQ):=
 t.IH.h.fu.ok sc_PS (λ_ _ _ _ h=>qe h) λcdv A outer s H vs Q E a h=>
  have b:dE 2 _:=a.mono (by decide)
  ⟨_,aj (aG (i:=3) sc_PS.nd rfl (Or.inl rfl) (bw (aa (aY aQ (pv 1) ay (λ_ _=>rfl)) (aa (aY aQ (pv 1) ay (λ_ _=>rfl)) av))))
    (aj (bq (cR P9 Qx Qy b9 (cR Qq QB QU (gs a.units) (cG (pv 0) rfl) (aa (pv 3) (aa (bN av) av))) (aa (bw (aa (aY aQ (pv 1) ay (λ_ _=>rfl)) (aa (pv 2) av))) av)))
    (aj (bY Qe rfl (bz (dJ (cu a) (cG (pv 0) rfl) (pv 3) (bN av) ⟨rfl,rfl,rfl,rfl⟩)) (dF rfl (aU (aI (i:=4) sc_PS.nd rfl (Or.inl rfl)) (aU (aI (i:=5) sc_PS.nd rfl (Or.inl rfl)) (aU (aI (i:=6) sc_PS.nd rfl (Or.inl rfl)) cI))))
      (aB (bq (eZ (pv 0) t.kP.cl t.vj.h.me (sN t) b t.vj.h.bi .nil bo (aa (bw (aa (aY aQ (pv 5) ay (λ_ _=>rfl)) (aa (aY aQ (pv 5) ay (λ_ _=>rfl)) (aa (aY aQ (pv 1) ay (λ_ _=>rfl)) av))))
        (aa (aO cr (aO cr (pv 6) (pv 2)) ay) (aa (pv 4) (aa (aY aQ (pv 1) ay (λ_ _=>rfl)) av))))))))
    (aB (bY Qe rfl (bz (dJ (cu a) (cG (pv 0) rfl) (pv 3) (bN av) ⟨rfl,rfl,rfl,rfl⟩)) (dF rfl (aU (aI (i:=4) sc_PS.nd rfl (Or.inl rfl)) (aU (aI (i:=5) sc_PS.nd rfl (Or.inl rfl)) cI)))
      (aB (cq (bh g8 (a_ bX (by rfl) t.c_ QT (aa (aY aQ (pv 5) ay (λ_ _=>rfl)) av)) ay (bD _))
        (aB (bq (eZ (pv 0) t.kP.cl t.vj.h.me (sN t) b t.vj.h.bi .nil bo (aa (bw (aa (aY aQ (pv 5) ay (λ_ _=>rfl)) (aa (aY aQ (pv 5) ay (λ_ _=>rfl)) (aa (aY aQ (pv 1) ay (λ_ _=>rfl)) av))))
          (aa (aO cr (pv 2) ay) (aa (pv 4) (aa kz av)))))))
        (aB (bq (eZ (pv 0) t.kP.cl t.Ir.h.me (La t) a t.Ir.h.bi .nil bo (aa (pv 4) (aa (pv 5) (aa (aY aQ (pv 1) ay (λ_ _=>rfl)) (aa (pv 2) av))))))))))))),sk t.kP h⟩
def Lc:bJ P w K mg base hG 5 t.IF.f t.IF.fd ["self"] (tE t.CP t.CQ):=
 t.IF.h.fu.ok sc_PA (λ_ _ _ _ h=>xT h) λcdv A outer s H vs Q E a h=>
  ⟨_,aB (jM Qe (ik (jt (lT (cG (pv 0) rfl) t.kQ.cl t.Ih.h.me (K9 t) (a.mono (by decide)) t.Ih.h.bi .nil bo)))
    (aB (bY Qe rfl (bz (lT (cG (pv 0) rfl) t.kQ.cl t.IG.h.me (K_ t) (a.mono (by decide)) t.IG.h.bi .nil bo)) (dF rfl (aU (aI (i:=1) sc_PA.nd rfl (Or.inl rfl)) (aU (aI (i:=2) sc_PA.nd rfl (Or.inl rfl)) cI)))
      (aB (cq (bh g8 (aY aQ (dh (cu a) (cG (pv 0) rfl) (pv 2) (λ_ _=>rfl)) ay (λ_ _=>rfl)) (pv 1) (bD _))
        (aB (bq (eZ (pv 0) t.kP.cl t.IH.h.me (Lb t) a t.IH.h.bi .nil bo (aa (pv 2) (aa (pv 1) av))))) bu))))),Au t.kP h⟩
def kd:bJ P w K mg base hG 1 t.CJ.f t.CJ.fd ["house"] B8:=
 t.CJ.h.fu.ok sc_rules_by_start (λ_ _ _ _ h=>Av h) λcdv A outer s H vs Q E a h=>
  ⟨_,aj (aG (i:=1) sc_rules_by_start.nd rfl (Or.inl rfl) cS)
    (aj (bY Qe rfl (v7 rfl t.kh (aa (aY aQ (pv 0) ay (λ_ _=>rfl)) av)) (dF rfl (aU (aI (i:=2) sc_rules_by_start.nd rfl (Or.inl rfl)) (aU (aI (i:=3) sc_rules_by_start.nd rfl (Or.inl rfl)) cI)))
      (aB (cq (bh oz (a_ bX (by rfl) t.c_ QT (aa (aY aQ (pv 3) ay (λ_ _=>rfl)) av)) ay (bD _))
        (aB (bq (cR P9 Qx Qy b9 (cR Qq QB QU (gs a.units) (pv 1)
          (aa (bw (aa (aY aQ (pv 3) ay (λ_ _=>rfl)) (aa (aY aQ (aY aQ (pv 3) ay (λ_ _=>rfl)) ay (λ_ _=>rfl)) av))) (aa (bN av) av))) (aa (bw (aa (pv 2) (aa (pv 3) av))) av)))) bu)))
    (aB (aX (pv 1)))),DO h⟩
def Ld:bJ P w K mg base hG 3 t.Ie.f t.Ie.fd ["self","house"] (kq t.CP t.CQ):=
 t.Ie.h.fu.ok K6 (λ_ _ _ _ h=>sq h) λcdv A outer s H vs Q E a h=>
  ⟨_,aj (iq (pv 0) (aR (kd t) (a.mono (by decide)) rfl t.CJ.h.gl t.CJ.h.fu.kp t.CJ.h.bi .nil bo (aa (pv 1) av)) rfl)
    (aj (iq (pv 0) cS rfl) (aj (iq (pv 0) (zg t.Iz (K8 t) a rfl t.gQ t.Ij.h.bi .nil bo) rfl) (aj (iq (pv 0) cS rfl) (aB (iq (pv 0) cS rfl))))),uQ t.kP h⟩
def yr:bJ P w K mg base hG 6 t.Cu.f t.Cu.fd j7 (nU mg 2 cT):=
 t.Cu.h.fu.ok sc_prices (λ_ _ _ _ h=>h.1) λcdv A outer s H vs Q E b h=>
  have a:dE 2 _:=b.mono (by decide)
  ⟨_,aj (bq (aR (g4 t) (b.mono (by decide)) rfl t.CA.h.gl t.CA.h.fu.kp t.CA.h.bi .nil Jn (aa (pv 0) (aa (pv 1) av))))
    (aj (aG (i:=2) sc_prices.nd rfl (Or.inl rfl) (CW t.Iu (Ld t) (b.mono (by decide)) rfl t.gP t.Ie.h.bi .nil bo (aa (pv 0) av)))
    (aj (bY Qe rfl (bz (aY aQ (pv 1) ay (λ_ _=>rfl))) (aI (i:=3) sc_prices.nd rfl (Or.inl rfl)) (aB (bq (eZ (pv 2) t.kP.cl t.vj.h.me (sN t) a t.vj.h.bi .nil bo (aa (pv 3) (aa ay (aa kz (aa kz av))))))))
    (aj (bY Qe rfl (v7 rfl t.kh (aa (aY aQ (pv 0) ay (λ_ _=>rfl)) av)) (dF rfl (aU (aI (i:=4) sc_prices.nd rfl (Or.inl rfl)) (aU (aI (i:=5) sc_prices.nd rfl (Or.inl rfl)) cI)))
      (aB (cq (bh g8 (a_ bX (by rfl) t.c_ QT (aa (aY aQ (pv 5) ay (λ_ _=>rfl)) av)) ay (bD _))
        (aB (bq (eZ (pv 2) t.kP.cl t.vj.h.me (sN t) a t.vj.h.bi .nil bo (aa (bw (aa (aY aQ (pv 5) ay (λ_ _=>rfl)) (aa (aY aQ (pv 5) ay (λ_ _=>rfl)) (aa (aY aQ (pv 5) ay (λ_ _=>rfl)) av))))
          (aa ay (aa (pv 4) (aa kz av))))))) bu)))
    (aj (bq (lT (pv 2) t.kP.cl t.IF.h.me (Lc t) b t.IF.h.bi .nil bo))
    (aB (aX (cG (pv 2) rfl))))))),ss t.kP h⟩
def BB:((["arrow","price"]:List Str)++([]:List Str)).Nodup:=by decide +kernel
def BC:bJ P w K mg base hG 7 t.CL.f t.CL.fd lJ (ig cT):=
 t.CL.h.fu.ok sc_pairs (λ_ _ _ _ h=>Bm h) λcdv A outer s H vs Q E a h=>
  have b:=a.units
  ⟨_,(aj (aG (i:=1) sc_pairs.nd rfl (Or.inl rfl) (aR (yr t) (a.mono (by decide)) rfl t.Cu.h.gl t.Cu.h.fu.kp t.Cu.h.bi .nil bo (aa (pv 0) (aa (bw (aa (aY aQ (pv 0) ay (λ_ _=>rfl)) (aa (bN av) (aa (bN av) av)))) av))))
      (aB (aX (bW (gK rfl b) (by rfl) t.jd (by decide +kernel) (aa (dQ (tN:=["arrow","price"]) (capN:=[]) (caps:=[]) rfl (cB.of (osc:=aC lI) (N:=wz) rfl rfl (by decide +kernel)) (i8 (pv 1))) av))))),Es rfl (λ_ _ _ _ _=>dF rfl (aU (aI (i:=0) BB rfl (Or.inl rfl)) (aU (aI (i:=1) BB rfl (Or.inl rfl)) cI))) (λ_ _ _ _ _=>(bw (aa (pv 0) (aa (aY aQ (pv 1) ay (λ_ _=>rfl)) av)))) h⟩
def ve:bJ P w K mg base hG 1 t.Cw.f t.Cw.fd jb nF:=t.Cw.h.fu.ok vc (λ_ _ _ _ h=>uT h) λcdv A outer s H vs Q E a h=>⟨_,aB (aX (bw (aa (aY aQ (pv 0) ay (λ_ _=>rfl)) (aa (aY aQ (pv 0) ay (λ_ _=>rfl)) av)))),x_ h⟩
def HN:((["room"]:List Str)++(["put"]:List Str)).Nodup:=by decide +kernel
def sO:bJ P w K mg base hG 1 t.Cm.f t.Cm.fd gV BR:=
 t.Cm.h.fu.ok sc_heads_by (λ_ _ _ _ h=>AK h) λcdv A outer s H vs Q E a h=>
  ⟨_,aj (aG (i:=2) sc_heads_by.nd rfl (Or.inr rfl) (aY aQ (pv 0) ay (λ_ _=>rfl)))
    (aj (cq (bh g8 (a_ bX (by rfl) t.c_ QT (aa (pv 2) av)) ay (bD _)) (aB (aX (bN av))) bu)
    (aj (aG (i:=3) sc_heads_by.nd rfl (Or.inl rfl) (bw (aa (aY aQ (pv 0) ay (λ_ _=>rfl)) (aa (aY aQ (pv 2) ay (λ_ _=>rfl)) av))))
    (aj (cq (bh g8 (a_ bX (by rfl) t.c_ QT (aa (pv 2) av)) ay (bD _)) (aB (aX (bN (aa (pv 3) av)))) bu)
    (aB (aX (aO zn (bN (aa (pv 3) av)) (dQ (tN:=["room"]) (capN:=["put"]) (caps:=[2]) rfl (cB.of (osc:=aC gU) (N:=N_heads_by) rfl rfl (by decide +kernel)) (bz (dJ (cu a) (pv 1) (pv 3) (bN av) ⟨rfl,rfl,rfl,rfl⟩))))))))),
    DV rfl rfl (λ_ _ _ _ _=>aI (i:=0) HN rfl (Or.inl rfl)) (λ_ _ _ _ _=>bw (aa (pv 0) (aa (aY aQ (pv 1) ay (λ_ _=>rfl)) av))) h⟩
def g_:bJ P w K mg base hG 8 t.yG.f t.yG.fd dS (yw (ig cT)):=
 t.yG.h.fu.ok sc_rooms_behind (λ_ _ _ _ h=>AL h) λcdv A outer s H vs Q E a h=>
  ⟨_,aj (aG (i:=1) sc_rooms_behind.nd rfl (Or.inl rfl) cS)
    (aj (ma (bY Qe rfl (mZ (aR (BC t) (a.mono (by decide)) rfl t.CL.h.gl t.CL.h.fu.kp t.CL.h.bi .nil bo (aa (pv 0) av))) (dF rfl (aU (aI (i:=2) sc_rooms_behind.nd rfl (Or.inl rfl)) (aU (aI (i:=3) sc_rooms_behind.nd rfl (Or.inl rfl)) (aU (aI (i:=4) sc_rooms_behind.nd rfl (Or.inl rfl)) cI))))
      (aB (bq (cR P9 Qx Qy b9 (cR Qq QB QU (gs a.units) (pv 1) (aa (bw (aa (pv 2) (aa (pv 3) av))) (aa (bN av) av))) (aa (pv 4) av))))))
    (aB (aX (pv 1)))),DW h⟩
def BD:((["head","heads"]:List Str)++([]:List Str)).Nodup:=by decide +kernel
def fL:bJ P w K mg base hG 2 t.yJ.f t.yJ.fd cM yM:=
 t.yJ.h.fu.ok sc_head_steps_with (λ_ _ _ _ h=>AO h) λcdv A outer s H vs Q E a h=>
  have b:=a.units
  ⟨_,aj (aG (i:=2) sc_head_steps_with.nd rfl (Or.inl rfl) cS)
    (aj (bY Qe rfl (bz (aY aQ (pv 0) ay (λ_ _=>rfl))) (aI (i:=3) sc_head_steps_with.nd rfl (Or.inl rfl))
      (aB (bq (cR P9 R7 R8 iZ (cR Qq QB QU (gs b) (pv 2) (aa (aR (ve t) a rfl t.Cw.h.gl t.Cw.h.fu.kp t.Cw.h.bi .nil bo (aa (pv 3) av)) (aa (bN av) av))) (aa (aR (sO t) a rfl t.Cm.h.gl t.Cm.h.fu.kp t.Cm.h.bi .nil bo (aa (pv 3) (aa (pv 1) av))) av)))))
    (aB (aX (bW (gK rfl b) (by rfl) t.jd (by decide +kernel) (aa (dQ (tN:=["head","heads"]) (capN:=[]) (caps:=[]) rfl (cB.of (osc:=aC cL) (N:=fZ) rfl rfl (by decide +kernel)) (i8 (pv 2))) av))))),
    DZ rfl (λ_ _ _ _ _=>dF rfl (aU (aI (i:=0) BD rfl (Or.inl rfl)) (aU (aI (i:=1) BD rfl (Or.inl rfl)) cI))) (λ_ _ _ _ _=>bw (aa (pv 0) (aa (a_ (yb rfl) (by rfl) t.kU (by decide +kernel) (aa (bW (ya rfl b) (by rfl) t.B_ (by decide +kernel) (aa (pv 1) av)) av)) av))) h⟩
def oh:bJ P w K mg base hG 9 t.Cr.f t.Cr.fd ft (B6 (ig cT)):=t.Cr.h.fu.ok n8 (λ_ _ _ _ h=>AR h) λcdv A outer s H vs Q E a h=>⟨_,aB (aX (aR (fL t) (a.mono (by decide)) rfl t.yJ.h.gl t.yJ.h.fu.kp t.yJ.h.bi .nil bo (aa (pv 0) (aa (aR (g_ t) (a.mono (by decide)) rfl t.yG.h.gl t.yG.h.fu.kp t.yG.h.bi .nil bo (aa (pv 0) av)) av)))),D0 h⟩
def HP:((["room"]:List Str)++(["sign"]:List Str)).Nodup:=by decide +kernel
def qw:bJ P w K mg base hG 1 t.CN.f t.CN.fd f7 sZ:=
 t.CN.h.fu.ok sc_own_heads (λ_ _ _ _ h=>yf h) λcdv A outer s H vs Q E a h=>
  ⟨_,aj (aG (i:=2) sc_own_heads.nd rfl (Or.inl rfl) (bN av))
    (aj (aG (i:=3) sc_own_heads.nd rfl (Or.inl rfl) (bN (aa (aY aQ (pv 1) ay (λ_ _=>rfl)) av)))
    (aj (bY Qe rfl (bz (aY aQ (pv 1) ay (λ_ _=>rfl))) (aI (i:=4) sc_own_heads.nd rfl (Or.inr rfl))
      (aj (j6 (i:=5) (tN:=["room"]) (capN:=["sign"]) (caps:=[4]) rfl (cB.of (osc:=aC f6) (N:=N_own_heads) rfl rfl (by decide +kernel)) sc_own_heads.nd rfl rfl (bz (pv 3)))
      (aj (bq (cR P9 R7 R8 iZ (pv 2) (aa (pv 5) av)))
      (aj (aG (i:=6) sc_own_heads.nd rfl (Or.inl rfl) (bN av))
      (aj (bY Qe rfl (bz (pv 5)) (aI (i:=7) sc_own_heads.nd rfl (Or.inl rfl)) (aB (bq (cR P9 R7 R8 iZ (pv 6) (aa (dJ (cu a) (pv 0) (pv 7) (bN av) ⟨rfl,rfl,rfl,rfl⟩) av)))))
      (aB (aG (i:=3) sc_own_heads.nd rfl (Or.inl rfl) (a_ (u5 rfl) (by rfl) t.kU (by decide +kernel) (aa (bW (u4 rfl) (by rfl) t.B_ (by decide +kernel) (aa (pv 6) av)) av)))))))))
    (aB (aX (pv 2))))),
    AY rfl rfl (λ_ _ _ _ _=>aI (i:=0) HP rfl (Or.inl rfl)) (λ_ _ _ _ _=>bw (aa (pv 0) (aa (pv 1) av))) h⟩
def fM:bJ P w K mg base hG 9 t.tM.f t.tM.fd d9 (vp (ig cT)):=
 t.tM.h.fu.ok sc_steps_among (λ_ _ _ _ h=>AZ h) λcdv A outer s H vs Q E a h=>
  have b:=a.units
  ⟨_,aj (aG (i:=2) sc_steps_among.nd rfl (Or.inl rfl) (aR (g_ t) (a.mono (by decide)) rfl t.yG.h.gl t.yG.h.fu.kp t.yG.h.bi .nil bo (aa (pv 0) av)))
    (aj (aG (i:=3) sc_steps_among.nd rfl (Or.inl rfl) (aR (fL t) (a.mono (by decide)) rfl t.yJ.h.gl t.yJ.h.fu.kp t.yJ.h.bi .nil bo (aa (pv 0) (aa (pv 2) av))))
    (aj (aG (i:=4) sc_steps_among.nd rfl (Or.inl rfl) cS)
    (aj (aG (i:=5) sc_steps_among.nd rfl (Or.inl rfl) (aR (qw t) (a.mono (by decide)) rfl t.CN.h.gl t.CN.h.fu.kp t.CN.h.bi .nil bo (aa (pv 2) (aa (pv 1) av))))
    (aj (jM Qe (jN (pv 5) (λ_=>rfl))
      (aj (aG (i:=6) sc_steps_among.nd rfl (Or.inl rfl) (lV P9 PySem.F.slot_list_pop PySem.F.type_list_pop zl (pv 5)))
      (aB (cq (bh (fy b) (pv 6) (pv 4) rfl)
        (aj (jQ (cu a) (pv 4) (pv 6) (dJ (cu a) (pv 3) (pv 6) (bN av) ⟨rfl,rfl,rfl,rfl⟩) rfl)
        (aB (bq (cR P9 R7 R8 iZ (pv 5) (aa (dh (cu a) (pv 4) (pv 6) (λ_ _=>rfl)) av))))) bu))))
    (aB (aX (pv 4))))))),Ea h⟩
def sQ:bJ P w K mg base hG 10 t.CF.f t.CF.fd gX (Ce (ig cT)):=t.CF.h.fu.ok sK (λ_ _ _ _ h=>A4 h) λcdv A outer s H vs Q E a h=>⟨_,aB (aX (a_ (ye rfl) (by rfl) t.kU (by decide +kernel) (aa (aR (fM t) (a.mono (by decide)) rfl t.tM.h.gl t.tM.h.fu.kp t.tM.h.bi .nil bo (aa (pv 0) (aa (pv 1) av))) av))),Ec h⟩
def HQ:((["thing"]:List Str)++([]:List Str)).Nodup:=by decide +kernel
def yt:bJ P w K mg base hG 1 t.Co.f t.Co.fd j9 B9:=t.Co.h.fu.ok yq (λ_ _ _ _ h=>A_ h) λcdv A outer s H vs Q E a h=>⟨_,aB (aX (bW (gK rfl a.units) (by rfl) t.jd (by decide +kernel) (aa (dQ (tN:=["thing"]) (capN:=[]) (caps:=[]) rfl (cB.of (osc:=aC j8) (N:=sL) rfl rfl (by decide +kernel)) (bz (pv 0))) av))),Ed rfl (λ_ _ _ _ _=>aI (i:=0) HQ rfl (Or.inl rfl)) (λ_ _ _ _ _=>bw (aa (pv 0) (aa fP av))) h⟩
def wD:((["head","ahead"]:List Str)++([]:List Str)).Nodup:=by decide +kernel
def EN:((["head"]:List Str)++(["left"]:List Str)).Nodup:=by decide +kernel
def eY:bJ P w K mg base hG 2 t.yL.f t.yL.fd cF yB:=
 t.yL.h.fu.ok sc_coming_to_an_end (λ_ _ _ _ h=>Bf h) λcdv A outer s H vs Q E a h=>
  have b:=a.units
  ⟨_,aj (ma (aG (i:=1) sc_coming_to_an_end.nd rfl (Or.inr rfl) (bW (gK rfl b) (by rfl) t.jd (by decide +kernel) (aa (dQ (tN:=["head","ahead"]) (capN:=[]) (caps:=[]) rfl (cB.of (osc:=aC bZ) (N:=dw) rfl rfl (by decide +kernel)) (i8 (pv 0))) av))))
    (aj (aG (i:=2) sc_coming_to_an_end.nd rfl (Or.inl rfl) cS)
    (aj (ma (bY Qe rfl (i8 (pv 0)) (dF rfl (aU (aI (i:=3) sc_coming_to_an_end.nd rfl (Or.inl rfl)) (aU (aI (i:=4) sc_coming_to_an_end.nd rfl (Or.inl rfl)) cI)))
      (aB (bY Qe rfl (bz (pv 4)) (aI (i:=5) sc_coming_to_an_end.nd rfl (Or.inl rfl))
        (aB (bq (cR P9 Qx Qy b9 (cR Qq QB QU (gs b) (pv 2) (aa (pv 5) (aa (bN av) av))) (aa (pv 3) av))))))))
    (aj (ma (j6 (i:=6) (tN:=["head"]) (capN:=["left"]) (caps:=[1]) rfl (cB.of (osc:=aC bZ) (N:=dw) rfl rfl (by decide +kernel)) sc_coming_to_an_end.nd rfl rfl (mZ (pv 0))))
    (aj (aG (i:=7) sc_coming_to_an_end.nd rfl (Or.inl rfl) (bW gL (by rfl) t.jc (by decide +kernel) (aa (pv 6) av)))
    (aj (jM Qe (jN (pv 7) (λ_=>rfl))
      (aj (aG (i:=8) sc_coming_to_an_end.nd rfl (Or.inl rfl) (lV P9 PySem.F.slot_list_pop PySem.F.type_list_pop zl (pv 7)))
      (aB (bY Qe rfl (bz (dJ (cu a) (pv 2) (pv 8) (bN av) ⟨rfl,rfl,rfl,rfl⟩)) (aI (i:=3) sc_coming_to_an_end.nd rfl (Or.inl rfl))
        (aj (jQ (cu a) (pv 1) (pv 3) (aO Gc (dh (cu a) (pv 1) (pv 3) (λ_ _=>rfl)) ay) rfl)
        (aB (cq (bh g8 (dh (cu a) (pv 1) (pv 3) (λ_ _=>rfl)) ay (bD _))
          (aj (bq (cR P9 Qx Qy b9 (pv 6) (aa (pv 3) av)))
          (aB (bq (cR P9 Qx Qy b9 (pv 7) (aa (pv 3) av))))) bu)))))))
    (aB (aX (aR (yt t) (a.mono (by decide)) rfl t.Co.h.gl t.Co.h.fu.kp t.Co.h.bi .nil bo (aa (pv 6) av))))))))),
    Ee ⟨rfl,λ_ _ _ _ _=>dF rfl (aU (aI (i:=0) wD rfl (Or.inl rfl)) (aU (aI (i:=1) wD rfl (Or.inl rfl)) cI)),λ_ _ _ _ _=>bw (aa (pv 0) (aa (a_ bX (by rfl) t.c_ QT (aa (pv 1) av)) av)),rfl,rfl,λ_ _ _ _ _=>aI (i:=0) EN rfl (Or.inl rfl),λ_ _ _ _ _=>lG (bh g8 (dh (cu a) (pv 1) (pv 0) (λ_ _=>rfl)) ay (bD _)),λ_ _ _ _ _=>pv 0⟩ h⟩
def EO:((["head"]:List Str)++(["ended"]:List Str)).Nodup:=by decide +kernel
def EQ:((["other"]:List Str)++(["ended"]:List Str)).Nodup:=by decide +kernel
def wF:bJ P w K mg base hG 11 t.yD.f t.yD.fd qu (Cf (ig cT)):=
 t.yD.h.fu.ok sc_ring (λ_ _ _ _ h=>Bh h) λcdv A outer s H vs Q E a h=>
  have b:=a.units
  ⟨_,aj (aG (i:=2) sc_ring.nd rfl (Or.inl rfl) (aR (fM t) (a.mono (by decide)) rfl t.tM.h.gl t.tM.h.fu.kp t.tM.h.bi .nil bo (aa (pv 0) (aa (pv 1) av))))
    (aj (aG (i:=3) sc_ring.nd rfl (Or.inr rfl) (aR (eY t) (a.mono (by decide)) rfl t.yL.h.gl t.yL.h.fu.kp t.yL.h.bi .nil bo (aa (pv 2) av)))
    (aj (ma (j6 (i:=4) (tN:=["head"]) (capN:=["ended"]) (caps:=[3]) rfl (cB.of (osc:=aC nu) (N:=N_ring) rfl rfl (by decide +kernel)) sc_ring.nd rfl rfl (mZ (pv 2))))
    (aj (cq (ik (jN (pv 4) (λ_=>rfl))) (aB (aX kz)) bu)
    (aj (aG (i:=5) sc_ring.nd rfl (Or.inl rfl) cS)
    (aj (aG (i:=6) sc_ring.nd rfl (Or.inl rfl) (aY gD (pv 4) ay (λ_ _=>rfl)))
    (aj (jM Qe (bh (fy b) (pv 6) (pv 5) rfl)
      (aj (jQ (cu a) (pv 5) (pv 6) fP rfl)
      (aB (aG (i:=6) sc_ring.nd rfl (Or.inl rfl) (aY gD (dQ (tN:=["other"]) (capN:=["ended"]) (caps:=[3]) rfl (cB.of (osc:=aC nu) (N:=N_ring) rfl rfl (by decide +kernel)) (bz (dh (cu a) (pv 2) (pv 6) (λ_ _=>rfl)))) ay (λ_ _=>rfl))))))
    (aj (aG (i:=7) sc_ring.nd rfl (Or.inl rfl) (bW (m8 rfl) (by rfl) t.jc (by decide +kernel) (aa (pv 5) av)))
    (aB (aX (iu lC (pv 7) (gC (cR P9 PySem.F.slot_list_index PySem.F.type_list_index (GO b) (pv 7) (aa (pv 6) av))) px)))))))))),
    Ei ⟨rfl,rfl,λ_ _ _ _ _=>aI (i:=0) EO rfl (Or.inl rfl),λ_ _ _ _ _=>lG (bh (fy b) (pv 0) (pv 1) rfl),λ_ _ _ _ _=>pv 0⟩ ⟨rfl,rfl,λ_ _ _ _ _=>aI (i:=0) EQ rfl (Or.inl rfl),λ_ _ _ _ _=>lG (bh (fy b) (pv 0) (pv 1) rfl),λ_ _ _ _ _=>pv 0⟩ h⟩
def sR:bJ P w K mg base (yP P w) 3 t.Cy.f t.Cy.fd gY (yz t.b_):=
 Az t.Cy.h.fu sc_in_order (λ_ _ _ _ h=>Bo h) λcdv A outer s H vs Q E a h=>
  have c:=a.units
  ⟨_,(aj (aG (i:=1) sc_in_order.nd rfl (Or.inl rfl) (bW (m8 rfl) (by rfl) t.jc (by decide +kernel) (aa (aR (eY t) (a.mono (by decide)) rfl t.yL.h.gl t.yL.h.fu.kp t.yL.h.bi .nil bo (aa (pv 0) av)) av)))
    (aj (cq (bh ou (a_ bX (by rfl) t.c_ QT (aa (pv 1) av)) (a_ mX (by rfl) t.c_ QT (aa (pv 0) av)) (bD _)) (aB (zA (EW:=λH=>E (.ref t.b_) none H) t.kR (by rfl) rfl (aa F6 av) (λac σ H s h' x args I hm b=>C6 I hm b))) bu)
    (aB (aX (pv 1))))),Ez h⟩
def HR:((["other"]:List Str)++(["told"]:List Str)).Nodup:=by decide +kernel
def sS:bJ P w K mg base (yP P w) 10 t.yK.f t.yK.fd lL (yE (ig cT) t.b_):=
 Az t.yK.h.fu sc_tiers (λ_ _ _ _ h=>Bq h) λcdv A outer s H vs Q E a h=>
  have b:=a.units
  ⟨_,(aj (aG (i:=2) sc_tiers.nd rfl (Or.inl rfl) (aR (fM t) (a.mono (by decide)) rfl t.tM.h.gl t.tM.h.fu.kp t.tM.h.bi .nil bo (aa (pv 0) (aa (pv 1) av))))
    (aj (aG (i:=3) sc_tiers.nd rfl (Or.inr rfl) cS)
    (aj (bY L1 rfl (bz (aR (sR t) (a.mono (by decide)) rfl t.Cy.h.gl t.Cy.h.fu.kp t.Cy.h.bi .nil vH (aa (pv 2) av))) (aI (i:=4) sc_tiers.nd rfl (Or.inl rfl)) (aB (jQ (cu a) (pv 3) (pv 4) (EB rfl (by rfl) t.BU (by decide +kernel) (aa (dQ (tN:=["other"]) (capN:=["told"]) (caps:=[3]) rfl (cB.of (osc:=aC lK) (N:=N_tiers) rfl rfl (by decide +kernel)) (bz (dh (cu a) (pv 2) (pv 4) (λ_ _=>rfl)))) av)) rfl)))
    (aB (aX (pv 3)))))),ED rfl rfl (λ_ _ _ _ _=>aI (i:=0) HR rfl (Or.inl rfl)) (λ_ _ _ _ _=>aO cr (dh (cu a) (pv 1) (pv 0) (λ_ _=>rfl)) ay) h⟩
def oj:bJ P w K mg base hG 1 t.Cp.f t.Cp.fd fw (nU mg 1 j_):=t.Cp.h.fu.ok n9 (λ_ _ _ _ h=>h.1) λcdv A outer s H vs Q E a h=>⟨_,aB (aX (tO (a_ kK (by rfl) t.gm (by decide +kernel) (aa (pv 0) (aa (o_ (v:=.ty "int") (by rfl) t.Iw (by decide +kernel) rfl) av))) (pc (yY (a_ kK (by rfl) t.gm (by decide +kernel) (aa (pv 0) (aa (o_ (v:=.ty "bool") (by rfl) t.E3 (by decide +kernel) rfl) av))))))),Ey h⟩
def NB:Kr j_:=λ_=>rfl
def qx:bJ P w K mg base hG 2 t.CG.f t.CG.fd f9 Ca:=
 t.CG.h.fu.ok sc__law_told (λ_ _ _ _ h=>Bs h) λcdv A outer s H vs Q E a h=>
  have b:=a.units
  ⟨_,(aj (cq (PW.pt (qV (ik (jt (a_ kK (by rfl) t.gm (by decide +kernel) (aa (pv 0) (aa (o_ (v:=.ty "dict") (by rfl) t.jd (by decide +kernel) rfl) av))))) (lN (bh E9 (a_ mX (by rfl) t.c_ QT (aa (pv 0) av)) (a_ bX (by rfl) t.c_ QT (aa (pv 1) av)) (bD _))))) (aB (aX fP)) bu)
    (aj (bY Qe rfl (bz (pv 1)) (aI (i:=3) sc__law_told.nd rfl (Or.inl rfl)) (aB (cq (PW.pt (qV (bh (fy b) (pv 3) (pv 0) rfl) (lN (ik (jt (aR (oj t) (a.mono (by decide)) rfl t.Cp.h.gl t.Cp.h.fu.kp t.Cp.h.bi .nil bo (aa (dh (cu a) (pv 0) (pv 3) (λ_ _=>rfl)) av))))))) (aB (aX fP)) bu)))
    (aj (bY Qe rfl (bz (pv 1)) (aI (i:=3) sc__law_told.nd rfl (Or.inl rfl)) (aj (aG (i:=4) sc__law_told.nd rfl (Or.inl rfl) ay)
    (aj (bY Qe rfl (bz (dJ (cu a) (pv 2) (pv 3) (bN av) ⟨rfl,rfl,rfl,rfl⟩)) (aI (i:=5) sc__law_told.nd rfl (Or.inl rfl)) (aj (cq (bh (fy b) (pv 5) (pv 0) rfl) (aB (aX fP)) bu)
    (aB (aG (i:=4) sc__law_told.nd rfl (Or.inl rfl) (a_ (yo rfl) (by rfl) t.BU (by decide +kernel) (aa (pv 4) (aa (aO cr ay (dh (cu a) (pv 0) (pv 5) (λ_ _=>rfl))) av)))))))
    (aB (cq (bh E9 (dh (cu a) (pv 0) (pv 3) (λ_ _=>rfl)) (pv 4) (bD _)) (aB (aX fP)) bu)))))
    (aB (aX fP))))),EH NB h⟩
def HS:((["_law_rule_here"]:List Str)++(["_law_room","_law_stack_here"]:List Str)).Nodup:=by decide +kernel
def iT:bJ P w K mg base hG 1 t.CB.f t.CB.fd cn B4:=
 t.CB.h.fu.ok sc__law_falls_on_run (λ_ _ _ _ h=>Bu h) λcdv A outer s H vs Q E a h=>
  have b:=a.units
  ⟨_,(aj (F_ (pv 1) (dF rfl (aU (aI (i:=4) sc__law_falls_on_run.nd rfl (Or.inr rfl)) (aU (aI (i:=5) sc__law_falls_on_run.nd rfl (Or.inr rfl)) cI))))
    (aj (bY Qe rfl (bz (pv 3)) (aI (i:=6) sc__law_falls_on_run.nd rfl (Or.inl rfl)) (aj (aG (i:=7) sc__law_falls_on_run.nd rfl (Or.inl rfl) (bN av))
    (aj (cq (bh oz (a_ bX (by rfl) t.c_ QT (aa (pv 5) av)) ay (bD _)) (aB (j6 (i:=7) (tN:=["_law_rule_here"]) (capN:=["_law_room","_law_stack_here"]) (caps:=[4,5]) rfl (cB.of (osc:=aC cm) (N:=N__law_falls_on_run) rfl rfl (by decide +kernel)) sc__law_falls_on_run.nd rfl rfl (bz (pv 0)))) bu)
    (aB (cq (bh oz (a_ bX (by rfl) t.c_ QT (aa (pv 7) av)) ay (bD _)) (aj (aG (i:=8) sc__law_falls_on_run.nd rfl (Or.inl rfl) (aY gD (pv 7) (aO bS (pv 6) (a_ bX (by rfl) t.c_ QT (aa (pv 7) av))) (λ_ _=>rfl)))
    (aj (aG (i:=9) sc__law_falls_on_run.nd rfl (Or.inl rfl) (dh (cu a) (pv 2) (bw (aa (pv 4) (aa (aY gD (pv 5) ay (λ_ _=>rfl)) av))) (λ_ _=>rfl)))
    (aj (aG (i:=4) sc__law_falls_on_run.nd rfl (Or.inr rfl) (aY aQ (pv 8) ay (λ_ _=>rfl)))
    (aj (aG (i:=5) sc__law_falls_on_run.nd rfl (Or.inr rfl) (aO zn (bW gL (by rfl) t.jc (by decide +kernel) (aa (aY aQ (pv 8) ay (λ_ _=>rfl)) av)) (iu lC (pv 5) (gC ay) px)))
    (aB (cq (PW.pt (yW (bh oz (a_ bX (by rfl) t.c_ QT (aa (aY aQ (pv 8) ay (λ_ _=>rfl)) av)) ay (bD _)) (vy (ik (bh ou (dJ (cu a) (pv 2) (bw (aa (pv 4) (aa (aY gD (pv 5) ay (λ_ _=>rfl)) av))) (pv 9) ⟨rfl,rfl,rfl,rfl⟩) (pv 9) (bD _)))))) (aB (aX fP)) bu)))))) bu)))))
    (aB (aX fP)))),EI ⟨rfl,rfl,λ_ _ _ _ _=>aI (i:=0) HS rfl (Or.inl rfl),λ_ _ _ _ _=>lG (PW.pt (yW (bh g8 (aY aQ (pv 0) ay (λ_ _=>rfl)) (pv 1) (bD _)) (vy (bh g8 (aY aQ (pv 0) ay (λ_ _=>rfl)) (aY gD (pv 2) ay (λ_ _=>rfl)) (bD _))))),λ_ _ _ _ _=>pv 0⟩ h⟩
def HU:bJ P w K mg base (yP P w) 12 t.CH.f t.CH.fd wB (nU mg 1 wC):=
 Az t.CH.h.fu sc_law (λ_ _ _ _ h=>h.1) λcdv A outer s H vs Q E a h=>
  have b:=a.units
  ⟨_,(aj (aG (i:=1) sc_law.nd rfl (Or.inl rfl) (aR (gh t) (a.mono (by decide)) rfl t.tH.h.gl t.tH.h.fu.kp t.tH.h.bi .nil bo (aa (aR (di t) (a.mono (by decide)) rfl t.qB.h.gl t.qB.h.fu.kp t.qB.h.bi .nil bo (aa (pv 0) (aa ay av))) av)))
    (aj (aG (i:=2) sc_law.nd rfl (Or.inl rfl) (aO cr ay (aO bS (pv 1) ay)))
    (aj (aG (i:=3) sc_law.nd rfl (Or.inl rfl) (aO cr ay (aO bS (aO dg (pv 1) ay) ay)))
    (aj (aG (i:=4) sc_law.nd rfl (Or.inl rfl) (aO bS (aO dg (pv 1) ay) ay))
    (aj (aG (i:=5) sc_law.nd rfl (Or.inl rfl) (aR (n_ t) (a.mono (by decide)) rfl t.Ct.h.gl t.Ct.h.fu.kp t.Ct.h.bi .nil bo (aa (pv 0) (aa (pv 2) (aa (pv 3) (aa (pv 4) av))))))
    (aj (aG (i:=6) sc_law.nd rfl (Or.inl rfl) (aR (gh t) (a.mono (by decide)) rfl t.tH.h.gl t.tH.h.fu.kp t.tH.h.bi .nil bo (aa (aR (di t) (a.mono (by decide)) rfl t.qB.h.gl t.qB.h.fu.kp t.qB.h.bi .nil bo (aa (pv 0) (aa ay av))) av)))
    (aj (aG (i:=7) sc_law.nd rfl (Or.inl rfl) (bw (aa (aO bS (pv 6) (pv 2)) (aa (aR (og t) (a.mono (by decide)) rfl t.Cq.h.gl t.Cq.h.fu.kp t.Cq.h.bi .nil bo (aa (aO dg (pv 6) ay) (aa (pv 3) av))) av))))
    (aj (aG (i:=8) sc_law.nd rfl (Or.inl rfl) (bw (aa (pv 2) (aa (pv 3) (aa (bW gL (by rfl) t.jc (by decide +kernel) (aa (pv 5) av)) av)))))
    (aj (aG (i:=9) sc_law.nd rfl (Or.inl rfl) (bw (aa (aY aQ (pv 7) ay (λ_ _=>rfl)) (aa (bW gL (by rfl) t.jc (by decide +kernel) (aa (aY aQ (pv 7) ay (λ_ _=>rfl)) av)) av))))
    (aj (aG (i:=10) sc_law.nd rfl (Or.inl rfl) fP)
    (aj (aG (i:=11) sc_law.nd rfl (Or.inl rfl) cS)
    (aj (C7 (i:=11) sc_law.nd rfl (Or.inl rfl) rfl rfl t.kR (by rfl) (zB (dvs:=[]) (ds:=[]) (sS t) (a.mono (by decide)) (by rfl) t.yK.h.gl t.yK.h.fu.kp t.yK.h.bi .nil (aa (pv 8) (aa (pv 9) av))) (λx=>aB (aG (i:=10) sc_law.nd rfl (Or.inl rfl) fP)))
    (aj (cq (PW.pt (qV (bh (z5 b) (pv 8) (bw (aa (pv 2) (aa (pv 3) (aa (pv 5) av)))) (bD _)) (lN (bh (z5 b) (pv 9) (pv 7) (bD _))))) (aB (aX fP)) bu)
    (aj (cq (PW.pt (qV (jt (pv 10)) (lN (F8 (vx (aR (wF t) (a.mono (by decide)) rfl t.yD.h.gl t.yD.h.fu.kp t.yD.h.bi .nil bo (aa (pv 8) (aa (pv 9) av)))))))) (aB (aX (tO (pv 10) (pc (F7 (vx (aR (wF t) (a.mono (by decide)) rfl t.yD.h.gl t.yD.h.fu.kp t.yD.h.bi .nil bo (aa (pv 8) (aa (pv 9) av))))))))) bu)
    (aj (cq (ik (jt (aR (qx t) (a.mono (by decide)) rfl t.CG.h.gl t.CG.h.fu.kp t.CG.h.bi .nil bo (aa (pv 11) (aa (aR (sQ t) (a.mono (by decide)) rfl t.CF.h.gl t.CF.h.fu.kp t.CF.h.bi .nil bo (aa (pv 8) (aa (pv 9) av))) (aa (aR (oh t) (a.mono (by decide)) rfl t.Cr.h.gl t.Cr.h.fu.kp t.Cr.h.bi .nil bo (aa (pv 8) av)) av)))))) (aB (aX fP)) bu)
    (aj (cq (ik (jt (aR (iT t) (a.mono (by decide)) rfl t.CB.h.gl t.CB.h.fu.kp t.CB.h.bi .nil bo (aa (pv 5) (aa (pv 7) (aa (pv 11) (aa (iu lC (pv 0) (gC (aO cr ay (pv 4))) (gC (aO cr ay (pv 4)))) av))))))) (aB (aX fP)) bu)
    (aj (aG (i:=12) sc_law.nd rfl (Or.inl rfl) (bW yn (by rfl) t.jd (by decide +kernel) (aa (pv 11) av)))
    (aj (bq (lV Qq PySem.F.slot_dict_clear PySem.F.type_dict_clear D3 (pv 11)))
    (aB (aX (iY (Hf b) (aR (sS t) (a.mono (by decide)) rfl t.yK.h.gl t.yK.h.fu.kp t.yK.h.bi .nil vH (aa (pv 8) (aa (pv 9) av))) (pv 12) (bD _)))))))))))))))))))))),Bw (F:=K7) rfl t.kR.ex t.gz h⟩
end
def Le{K KK:Uy}{mg:Str->Option UA}{h:Heap}(X:K.In h)(G:h.Ns mainGlobals mg)(U:jg K KK)
 (yx:FK K "_law_rule" iQ) (tH:FK K "_law_mixed" gM) (qB:FK K "_law_cell_at" fJ) (Ct:FK K "_law_rules" gN) (Cq:FK K "_law_stack" gO) (CD:FK K "is_plain" gR) (CA:FK K "refuse_unless_plain" cH) (CJ:FK K "rules_by_start" d7) (Cu:FK K "prices" nc) (CL:FK K "pairs" lI) (yG:FK K "rooms_behind" fK) (Cw:FK K "head_of" kO) (Cm:FK K "heads_by" gU) (yJ:FK K "head_steps_with" cL) (Cr:FK K "head_steps" gW) (CN:FK K "own_heads" f6) (tM:FK K "steps_among" gg) (CF:FK K "heads_of" jI) (Co:FK K "marked" j8) (yL:FK K "coming_to_an_end" bZ) (yD:FK K "ring" nu) (Cy:FK K "in_order" jJ) (yK:FK K "tiers" lK) (Cp:FK K "_law_whole" gZ) (CG:FK K "_law_told" iS) (CB:FK K "_law_falls_on_run" cm) (CH:FK K "law" By)
 (n:nsIn K mainGlobals "all"=some none)
 (k:nsIn K mainGlobals "bool"=some none)
 (l:nsIn K mainGlobals "dict"=some none)
 (d:nsIn K mainGlobals "enumerate"=some none)
 (o:nsIn K mainGlobals "int"=some none)
 (c:nsIn K mainGlobals "isinstance"=some none)
 (p:nsIn K mainGlobals "len"=some none)
 (m:nsIn K mainGlobals "list"=some none)
 (q:nsIn K mainGlobals "max"=some none)
 (r:nsIn K mainGlobals "min"=some none)
 (g:nsIn K mainGlobals "range"=some none)
 (s:nsIn K mainGlobals "set"=some none)
 (f:nsIn K mainGlobals "sorted"=some none)
 {b_:Addr} (e:nsIn K mainGlobals "Endless"=some (some (.ref b_))) (a:excIn K b_ rh "ValueError.__new__"=true) (gz:(nM K b_).contains (.ref b_)=true)
 {CQ:Addr} (T:CK K KK "Queue" CQ) (B:findIn KK (.ref CQ) "last"=some none) (C:findIn KK (.ref CQ) "piles"=some none)
 {CP:Addr} (V:CK K KK "Pricing" CP) (D:findIn KK (.ref CP) "rules"=some none) (E:findIn KK (.ref CP) "told"=some none) (F:findIn KK (.ref CP) "offers"=some none) (H:findIn KK (.ref CP) "settled"=some none) (I:findIn KK (.ref CP) "lacking"=some none)
 {J:Addr} (i:MK KK CQ "__init__" "Queue.__init__" HE J)
 {L:Addr} (u:MK KK CQ "add" "Queue.add" HF L)
 {M:Addr} (v:MK KK CQ "is_empty" "Queue.is_empty" HG M)
 {N:Addr} (w:MK KK CQ "take_lowest" "Queue.take_lowest" EM N)
 {O:Addr} (j:MK KK CP "__init__" "Pricing.__init__" HH O)
 {P:Addr} (x:MK KK CP "offer" "Pricing.offer" HI P)
 {Q:Addr} (y:MK KK CP "settle" "Pricing.settle" HJ Q)
 {R:Addr} (z:MK KK CP "settle_first" "Pricing.settle_first" HK R)
 {S:Addr} (A:MK KK CP "settle_all" "Pricing.settle_all" HL S)
 : ∃t:Tx KK mg,True:=by
 obtain⟨yx⟩:=df (ps:=fY) X G U yx;obtain⟨tH⟩:=df (ps:=fg) X G U tH;obtain⟨qB⟩:=df (ps:=dR) X G U qB;obtain⟨Ct⟩:=df (ps:=fj) X G U Ct;obtain⟨Cq⟩:=df (ps:=fq) X G U Cq;obtain⟨CD⟩:=df (ps:=gS) X G U CD;obtain⟨CA⟩:=df (ps:=b6) X G U CA;obtain⟨CJ⟩:=df (ps:=d8) X G U CJ;obtain⟨Cu⟩:=df (ps:=j7) X G U Cu;obtain⟨CL⟩:=df (ps:=lJ) X G U CL;obtain⟨yG⟩:=df (ps:=dS) X G U yG;obtain⟨Cw⟩:=df (ps:=jb) X G U Cw;obtain⟨Cm⟩:=df (ps:=gV) X G U Cm;obtain⟨yJ⟩:=df (ps:=cM) X G U yJ;obtain⟨Cr⟩:=df (ps:=ft) X G U Cr;obtain⟨CN⟩:=df (ps:=f7) X G U CN;obtain⟨tM⟩:=df (ps:=d9) X G U tM;obtain⟨CF⟩:=df (ps:=gX) X G U CF;obtain⟨Co⟩:=df (ps:=j9) X G U Co;obtain⟨yL⟩:=df (ps:=cF) X G U yL;obtain⟨yD⟩:=df (ps:=qu) X G U yD;obtain⟨Cy⟩:=df (ps:=gY) X G U Cy;obtain⟨yK⟩:=df (ps:=lL) X G U yK;obtain⟨Cp⟩:=df (ps:=fw) X G U Cp;obtain⟨CG⟩:=df (ps:=f9) X G U CG;obtain⟨CB⟩:=df (ps:=cn) X G U CB;obtain⟨CH⟩:=df (ps:=wB) X G U CH;have Iz:=JQ T i;obtain⟨Ij,rfl⟩:=mf (ps:=["self"]) i;obtain⟨E8,rfl⟩:=mf (ps:=["self","price","thing"]) u;obtain⟨Ih,rfl⟩:=mf (ps:=["self"]) v;obtain⟨IG,rfl⟩:=mf (ps:=["self"]) w;have Iu:=JQ V j;obtain⟨Ie,rfl⟩:=mf (ps:=["self","house"]) j;obtain⟨vj,rfl⟩:=mf (ps:=["self","arrow","price","number","mid"]) x;obtain⟨IH,rfl⟩:=mf (ps:=["self","arrow","price"]) y;obtain⟨Ir,rfl⟩:=mf (ps:=["self","number","rule","mid","price"]) z;obtain⟨IF,rfl⟩:=mf (ps:=["self"]) A;exact⟨⟨yx,tH,qB,Ct,Cq,CD,CA,CJ,Cu,CL,yG,Cw,Cm,yJ,Cr,CN,tM,CF,Co,yL,yD,Cy,yK,Cp,CG,CB,CH,QO X G n,QO X G k,QO X G l,QO X G d,QO X G o,QO X G c,QO X G p,QO X G m,QO X G q,QO X G r,QO X G g,QO X G s,QO X G f,b_,⟨Uq X G e,(U.exc a).1⟩,(by rw[(U.exc a).2];exact gz),CQ,⟨T.cl,B,C⟩,Uq X G T.b,CP,⟨V.cl,D,E,F,H,I⟩,Uq X G V.b,Ij,Iz,E8,Ih,IG,Ie,Iu,vj,IH,Ir,IF⟩,True.intro⟩
def HV{l:PySem.W.OpenLaw}{w:World}{K:Uy}{mg:Str->Option UA}{c:Addr}(a:mg "law"=some (.ref c)) (T:∃t:Tx K mg,True) :
 ∃fd:FuncData,(∀(s:Ux)(v:UA),BindsTo s fd ⟨[v],[]⟩ [("_law_script",v)])/\∀base:Heap,bJ l.prog w K mg base (yP l.prog w) 12 c fd ["_law_script"] (LC wC):=by
 obtain⟨t,_⟩:=T;have e:=a.symm.trans t.CH.h.gl;cases e;obtain⟨oc,od,kV,doc,pm,an,cdv,ct,osl,b,lk,d⟩:=t.CH.h.fu.ex;exact⟨t.CH.fd,λs v=>by rw[b];exact .of_eq rfl,λbase=>bJ.top (HU t)⟩
end W
namespace W
open PySem L2 L3 L4
abbrev RR(ro sg:Int)(r:Sp.Rule):Prop:=Ii ro sg r
def ie(ro sg n:Int):List Pz.Arr:=(List.range ro.toNat).flatMap λa=>(List.range sg.toNat).flatMap λs=>(List.range n.toNat).map λt=>(((a:Nat):Int),((s:Nat):Int),((t:Nat):Int))
def univ_mem{ro sg n a s t:Int}:((a,s,t):Pz.Arr)∈ie ro sg n↔(0<=a/\a<ro)/\(0<=s/\s<sg)/\0<=t/\t<n:=by
 unfold ie;simp only[QY,Pt,Qh,Prod.mk.injEq];constructor
 .rintro⟨x,b,y,c,z,hz,rfl,rfl,rfl⟩;lia
 .rintro⟨h1,h2,h3⟩;exact⟨a.toNat,by lia,s.toNat,by lia,t.toNat,by lia,by lia,by lia,by lia⟩
def yu{α:Type}(c:Nat):∀l:List α,(l.map λ_=>c).sum=l.length*c:=by intro l;induction l<;>grind
def BE(ro sg n:Int):(ie ro sg n).length=ro.toNat*(sg.toNat*n.toNat):=by
 simp_all [ie,yu]
def ER{Fr:List D->Res R}{RL:List Pz.Rule}{M U:List Pz.Arr}{h0 h1:D}(hs:Pz.Set RL M U):∃t,Pz.Good RL M U t/\∀m0 m2 r,Fr [.tup [h0,h1,.lst (RL.map eF)],.tup [m0,.lst (M.map sr),m2]]=.ok r->
 JI Fr [.tup [h0,h1,.lst (RL.map eF)],.tup [m0,.lst (M.map sr),m2]]=.ok (.BQ (k9 t)):=by
 obtain⟨fit,n,T,lp,good⟩:=hs.run wb;have b:RL.length<16000000:=by have:=hs.big;unfold Pz.L at this;lia
 refine⟨T.told,good,λm0 m2 r c=>?_⟩;have hex:∃t,mU [.tup [h0,h1,.lst (RL.map eF)],.tup [m0,.lst (M.map sr),m2]] t:=⟨T.told,RL,M,h0,h1,m0,m2,n,T,rfl,b,fit,lp,rfl⟩;have e:Classical.choose hex=T.told:=by obtain⟨d,f,g,i,j,k,l,m,e,_,_,a,e2⟩:=Classical.choose_spec hex;rw[e2];injection e with e3 e;injection e3 with e3;injection e3 with _ e3;injection e3 with _ e3;injection e3 with e3 _;injection e3 with e3;injection e with e _;injection e with e;injection e with _ e;injection e with e _;injection e with e;rw[<- qg (λh=>xW h) e3,<- qg (λh=>Ay h) e]at a;rw[<- Ax lp a]
 unfold JI;rw[c];dsimp only;rw[dif_pos hex,e]
def HW(ro sg:Int)(RL:List Pz.Rule):b8 [jH ro sg RL,IN ro]=.ok (.val .bB true []):=rfl
def BF{ro sg:Int}{RL:List Pz.Rule}(f:0<ro)(s1:0<sg)(b:∀r∈RL,RR ro sg r)(d:RL.length<=63)(c:(ie ro sg ro).length<=128) :
 ∃t,Pz.Good RL [] (ie ro sg ro) t/\t.length<=128/\cT [jH ro sg RL,IN ro]=.ok (.BQ (k9 t)):=by
 have hs:Pz.Set RL [] (ie ro sg ro):=by
  refine⟨λr h=>(b r h).p,λa h=>(nomatch h),λr h=>univ_mem.mpr ⟨(b r h).a,(b r h).s,(b r h).t⟩,λr h s x t k=>univ_mem.mpr ⟨(b r h).a,(b r h).s,(univ_mem.mp k).2.2⟩,?_,?_,?_⟩
  .have:RL.length*((ie ro sg ro).length*(ie ro sg ro).length)<=63*(128*128):=SQ d (SQ c c);rw[Sw];unfold Pz.L;lia
  .have:RL.length*(ie ro sg ro).length<=63*128:=SQ d c;unfold Pz.L;lia
  .unfold Pz.L;lia
 obtain⟨t,G,h⟩:=ER (Fr:=b8) (h0:=.int ro) (h1:=.int sg) hs;refine⟨t,G,?_,h (.int ro) (.lst []) _ (HW ro sg RL)⟩;have:=Pz.bF _ (ie ro sg ro) G.nd λa ha=>by obtain⟨x,e,rfl⟩:=Pt.mp ha;exact G.u x.1 x.2 (Pz.rR G.nd (by obtain⟨a,v⟩:=x;exact e))
 rw[Ps]at this;lia
def qy(ns:List Int)(k:Int)(h0:0<=k):∃x,cA [.lst (ns.map .int),.int k]=.ok (.val (.int x) true []):=by
 obtain⟨k,rfl⟩:=Q8 h0;cases h:ns[k]? with
 |none=>exact⟨0,by simp[cA,KB,h]⟩
 |some a=>exact⟨a,by simp[cA,KB,h]⟩
def sU(x:Int):∃y,0<=y/\fh [.int x]=.ok (.val (.int y) true []):=⟨(x%2147483647+11)*48271%2147483647,by lia,rfl⟩
structure Bd(ro sg:Int):Prop where
 r:0<ro/\ro<=8
 s:0<sg/\sg<=14
 m:ro*sg<=28
 f:(ro*sg+13)*(ro+1)<=300
 u:(ie ro sg ro).length<=128
structure GQ(RL:List Sp.Rule) (As:List Sp.Arr):Prop where
 n:∀a b c,(a,b,c,[])∈RL->(a,b,c)∈As
 o:∀a b c p d,(a,b,c,[p])∈RL->(c,p,d)∈As->(a,b,d)∈As
 t:∀a b c p q d e,(a,b,c,[p,q])∈RL->(c,p,d)∈As->(d,q,e)∈As->(a,b,e)∈As
section
variable{RL:List Sp.Rule}{As:List Sp.Arr}
def sV{r:Sp.Rule}{F:aE->List Int}{p:Int}{l:List Int}(h:r.2.2.2=p::l):(r.2.2.1,p)∈bK F r:=by unfold bK;rw[h];cases l<;>simp
def BH{r:Sp.Rule}{x:aE}(a:r∈RL)(h:x∈bK (bc As) r):x∈Ls As RL (hd r):=by unfold Ls de;exact QY.mpr ⟨r,P_.mpr ⟨a,P3 rfl⟩,h⟩
def g5{a b c:Int}(h:(a,b,c)∈As):c∈bc As (a,b):=by unfold bc;exact Pt.mpr ⟨(a,b,c),P_.mpr ⟨h,P3 rfl⟩,rfl⟩
end
section
variable{ro sg:Int}{RL:List Sp.Rule}{t:Pz.TD}{U:List Pz.Arr}
def qz{a:Pz.Arr}(h:a∈t.map (·.1)):∃v,Pz.bL t a=some v:=by
 cases e:Pz.bL t a with
 |none=>exact absurd h (Pz.tget_none.mp e)
 |some v=>exact⟨v,rfl⟩
def jw{a:Pz.Arr}{v:Pz.xI}(h:Pz.bL t a=some v):a∈t.map (·.1):=Pt.mpr ⟨_,Pz.mM h,rfl⟩
def BI(G:Pz.Good RL [] U t):GQ RL (t.map (·.1)):=by
 refine⟨λa b c h=>?_,λa b c p d h h1=>?_,λa b c p q d e h h1 h2=>?_⟩
 .obtain⟨j,f⟩:=SH h;obtain⟨v,g,_⟩:=G.Ck j _ f;exact jw g
 .obtain⟨j,f⟩:=SH h;obtain⟨u,i⟩:=qz h1;obtain⟨v,g,_⟩:=G.Ck j _ f d _ ⟨u,i,rfl⟩;exact jw g
 .obtain⟨j,f⟩:=SH h;obtain⟨u,i⟩:=qz h1;obtain⟨l,k⟩:=qz h2;obtain⟨v,g,_⟩:=G.Ck j _ f d e _ _ ⟨u,i,rfl⟩ ⟨l,k,rfl⟩;exact jw g
def vf{α a:Type}(f:α->List a)(n:Nat):∀l:List α,(∀x∈l,(f x).length<=n)->(l.flatMap f).length<=l.length*n:=by
 intro l;induction l with
 |nil=>intro _;simp
 |cons x l b=>intro h;have h1:=h x (by simp);have h2:=b λy c=>h y (by simp[c]);rw[Rm,PJ,P8,Nat.add_mul];lia
def nv{As:List Sp.Arr}(nd:As.Nodup)(d:∀a∈As,a∈ie ro sg ro)(k:aE):(bc As k).length<=ro.toNat:=by
 have h:(bc As k).Nodup:=by
  unfold bc List.Nodup;rw[Q0];refine Rc (R:=(·≠ ·)) (λ{a b} ha hb c e=>c ?_) (nd.filter _)
  grind
 have:=Pz.bF (bc As k) ((List.range ro.toNat).map λi=>((i:Nat):Int)) h λx f=>by obtain⟨a,ha,rfl⟩:=Pt.mp f;have:0<=a.2.2/\a.2.2<ro:=(univ_mem.mp (d a (P_.mp ha).1)).2.2;exact Pt.mpr ⟨a.2.2.toNat,Qh.mpr (by lia),by lia⟩
 rw[Ps,Tv]at this;exact this
def yv(F:aE->List Int){n:Nat}(h:∀k,(F k).length<=n)(r:Sp.Rule):(bK F r).length<=n+1:=by
 obtain⟨b,c,a,put⟩:=r;rcases put with _|⟨p,_|⟨q,l⟩⟩
 .exact PQ _
 .show 1<=n+1;lia
 .show((a,p)::(F (a,p)).map λo=>(o,q)).length<=n+1;rw[P8,Ps];have:=h (a,p);lia
def sW{As:List Sp.Arr}(f:∀a∈As,a∈ie ro sg ro){r:Sp.Rule}(d:RR ro sg r){x:aE}(hx:x∈bK (bc As) r):(0<=x.1/\x.1<ro)/\0<=x.2/\x.2<sg:=by
 obtain⟨h,i,b,put⟩:=r;have e:=d.t;have c:=d.q;rcases put with _|⟨p,_|⟨q,l⟩⟩
 .cases hx
 .have hx:x∈[(b,p)]:=hx;rw[Py.mp hx];exact⟨e,c p (by simp)⟩
 .have hx:x∈(b,p)::(bc As (b,p)).map λo=>(o,q):=hx;rcases PB.mp hx with rfl|hx
  .exact⟨e,c p (by simp)⟩
  .obtain⟨o,g,rfl⟩:=Pt.mp hx;obtain⟨a,ha,rfl⟩:=Pt.mp g;exact⟨(univ_mem.mp (f a (P_.mp ha).1)).2.2,c q (by simp)⟩
def box(ro sg:Int):List aE:=(List.range ro.toNat).flatMap λa=>(List.range sg.toNat).map λs=>(((a:Nat):Int),((s:Nat):Int))
def HX(h:Bd ro sg){As:List Sp.Arr}(nd:As.Nodup)(d:∀a∈As,a∈ie ro sg ro)(g:∀r∈RL,RR ro sg r)(i:(RL.length:Int)<=ro*sg+13):IM (Ls As RL):=by
 intro k;have e:=h.r;have hs:=h.s;constructor
 .have h1:=vf (bK (bc As)) (ro.toNat+1) (RL.filter λr=>decide (hd r=k)) λr _=>yv _ (nv nd d) r;have h2:(RL.filter λr=>decide (hd r=k)).length<=RL.length:=Rv ..;have h3:RL.length*(ro.toNat+1)<=300:=by
   have:=h.f;have j:((RL.length*(ro.toNat+1):Nat):Int)<=(ro*sg+13)*(ro+1):=by
    rw[Int.natCast_mul];have:((ro.toNat+1:Nat):Int)=ro+1:=by lia
    rw[this];exact Int.mul_le_mul_of_nonneg_right i (by lia)
   lia
  exact Qb h1 (Qb (Nat.mul_le_mul_right _ h2) h3)
 .intro m hm b;have h1:=Pz.bF m (box ro sg) hm λx c=>by obtain⟨r,e,c⟩:=QY.mp (b x c);have:=sW d (g r (P_.mp e).1) c;exact QY.mpr ⟨x.1.toNat,Qh.mpr (by lia),Pt.mpr ⟨x.2.toNat,Qh.mpr (by lia),TY (by show((x.1.toNat:Nat):Int)=x.1;lia) (by show((x.2.toNat:Nat):Int)=x.2;lia)⟩⟩
  have h2:=vf (λa:Nat=>(List.range sg.toNat).map λs=>(((a:Nat):Int),((s:Nat):Int))) sg.toNat (List.range ro.toNat) λx _=>by simp
  rw[Tv]at h2;have h3:((ro.toNat*sg.toNat:Nat):Int)=ro*sg:=by rw[Int.natCast_mul];congr 1<;>lia
  have j:=h.m;have h2:(box ro sg).length<=ro.toNat*sg.toNat:=h2;lia
def BJ(h:Bd ro sg)(b:∀r∈RL,RR ro sg r)(f:(RL.length:Int)<=ro*sg+12):∃t,NI cT ro sg RL t/\GQ RL (t.map (·.1))/\∀a∈t.map (·.1),a∈ie ro sg ro:=by
 have hm:=h.m;obtain⟨t,G,g,d⟩:=BF h.r.1 h.s.1 b (by lia) h.u;have c:∀a∈t.map (·.1),a∈ie ro sg ro:=λa ha=>by obtain⟨v,e⟩:=qz ha;exact G.u a v e
 exact⟨t,⟨d,G.nd,by lia,by lia,HX h G.nd c b (by lia)⟩,BI G,c⟩
end
def Lf{ro sg R S:Int}(r:0<ro/\ro<=R)(s:0<sg/\sg<=S)(a:R<=8)(b:S<=14)(h1:R*S<=28)(h2:(R*S+13)*(R+1)<=300)(h3:R.toNat*(S.toNat*R.toNat)<=128):Bd ro sg:=by have m:ro*sg<=R*S:=Int.mul_le_mul r.2 s.2 (by lia) (by lia);have p:0<ro*sg:=Int.mul_pos r.1 s.1;refine⟨by lia,by lia,by lia,RX (Int.mul_le_mul (by lia) (by lia) (by lia) (by lia)) h2,?_⟩;rw[BE];exact Qb (SQ (by lia) (SQ (by lia) (by lia))) h3
section
variable{Z:aE->List aE}{ks ks' bR U:List aE}{n:Nat}
def FR(h:tL Z n ks bR ks')(P:aE->Prop)(b:∀k,P k->∀x∈Z k,P x)(h1:∀x∈ks,P x)(h2:∀x∈bR,P x):∀x∈ks',P x:=by
 induction h with
 |done=>exact h1
 |old c r a=>exact a h1 λx hx=>h2 x (Qd _ hx)
 |@new n ks bR ks' h c e f r a=>
  have d:=h2 h (by simp);exact a (λx hx=>by grind) λx hx=>by
   rcases PP.mp hx with hx|hx
   .exact h2 x (Qd _ hx)
   .exact b h d x hx
def Lg(h:tL Z n ks bR ks')(nd:ks.Nodup):ks'.Nodup:=by
 induction h with
 |done=>exact nd
 |old d r c=>exact c nd
 |@new n ks bR ks' h d f g r c=>exact c (by rw[Qj];exact⟨nd,by simp,λa ha b hb e=>by rw[Py.mp hb]at e;exact d (e▸ha)⟩)
def BK(h:tL Z n ks bR ks'):(∀x∈ks,x∈ks')/\∀x∈bR,x∈ks':=by
 induction h with
 |done=>exact⟨λ_ h=>h,λ_ h=>nomatch h⟩
 |old c r a=>exact⟨a.1,λx b=>by grind⟩
 |new c d e r a=>exact⟨λx b=>a.1 x (by simp[b]),λx b=>by grind⟩
def BL(h:tL Z n ks bR ks')(e:∀k∈ks,∀x∈Z k,x∈ks\/x∈bR):∀k∈ks',∀x∈Z k,x∈ks':=by
 induction h with
 |done=>exact λk a x b=>(e k a x b).elim id λh=>nomatch h
 |@old n ks bR ks' h a r c=>exact c λk d x b=>by grind
 |@new n ks bR ks' h a f g r c=>exact c λk d x b=>by grind
theorem Lh(o:U.length<=63)(g:∀k,(Z k).length<=63/\∀x∈Z k,x∈U):∀(m:Nat)(ks bR:List aE),(U.length-ks.length)*64+bR.length<=m->m<=90000->ks.Nodup->(∀x∈ks,x∈U)->(∀x∈bR,x∈U)->∃n ks',tL Z n ks bR ks':=by
 intro m;induction m with
 |zero=>intro ks bR h _ _ _ _;have:bR=[]:=Qw.mp (by lia);subst this;exact⟨0,ks,.done⟩
 |succ m i=>
  intro ks bR h hm nd j hd;by_cases e:bR=[]
  .subst e;exact⟨0,ks,.done⟩
  obtain⟨d,x,rfl⟩ : ∃d x,bR=d++[x]:=⟨bR.dropLast,bR.getLast e,(Sr _).symm⟩;rw[PJ,QM]at h;by_cases f:x∈ks
  .obtain⟨n,ks',r⟩:=i ks d (by lia) (by lia) nd j λy hy=>hd y (Qd _ hy);exact⟨n+1,ks',.old f r⟩
  .have c:(ks++[x]).Nodup:=by rw[Qj];exact⟨nd,by simp,λa ha b hb e=>by rw[Py.mp hb]at e;exact f (e▸ha)⟩
   have sub:∀y∈ks++[x],y∈U:=λy hy=>by grind
   have l:=Pz.bF _ U c sub;have p:=(g x).1;rw[PJ,QM]at l;obtain⟨n,ks',r⟩:=i (ks++[x]) (d++Z x) (by rw[PJ,PJ,QM];lia) (by lia) c sub λy hy=>by
    rcases PP.mp hy with hy|hy
    .exact hd y (Qd _ hy)
    .exact(g x).2 y hy
   exact⟨n+1,ks',.new f (by lia) (by lia) r⟩
end
section
variable{Z:aE->List aE}{ks:List aE}
def cN(Z:aE->List aE)(P:List aE)(k:aE):Nat:=((Z k).filter λx=>decide (x∉P)).length
def BM(Z:aE->List aE)(e:List aE):Prop:=∀pre k a,e=pre++k::a->∀x∈Z k,x∈pre
structure qF(Z:aE->List aE) (ks proc:List aE) (S:KS):Prop where
 nd:S.ended.Nodup
 sub:∀x∈S.ended,x∈ks
 pd:∀x,x∈S.ended↔x∈proc\/x∈S.bR
 dj:(proc++S.bR).Nodup
 cnt:∀k∈ks,S.N k=(cN Z proc k:Nat)
 Lp:∀k∈ks,(k∈S.ended↔cN Z proc k=0)
 ord:BM Z S.ended
def ES{e l:List aE}(h:BM Z e)(f:∀k∈l,∀x∈Z k,x∈e):BM Z (e++l):=by
 intro pre k c eq x d;by_cases b:pre.length<e.length
 .have h1:e=pre++k::(e.drop (pre.length+1)):=by
   have:=Q1 (List.take e.length) eq;rw[List.take_left]at this;have h2:=Q1 (λl=>(l:List aE)[pre.length]?) eq;simp only[Q3 (Pq _),Nat.sub_self,List.getElem?_cons_zero]at h2;rw[SK b]at h2;have h3:=Q1 (List.take pre.length) eq;rw[List.take_left,TN (by lia)]at h3;rw[<- h3]
   conv=>lhs;rw[<- Q2 pre.length e]
   congr 1;rw[QN,Nat.min_eq_left (by lia)];exact SJ b▸(by rw[Px b]at h2;cases h2;rfl)
  exact h pre k _ h1 x d
 .have h2:=Q1 (λl=>(l:List aE)[pre.length]?) eq;simp only[Q3 (Pq _),Nat.sub_self,List.getElem?_cons_zero]at h2;rw[Q3 (by lia)]at h2;have g:=PY h2;have a:=f k g x d;have h3:=Q1 (List.take e.length) eq;rw[List.take_left,TN (by lia)]at h3;rw[h3]at a;exact Rp a
def NC:∀(l:List aE)(S:KS),l.Nodup->(l.foldl fI S).ended=S.ended++l.filter (λk=>decide (S.N k-1=0))/\(l.foldl fI S).bR=S.bR++l.filter (λk=>decide (S.N k-1=0))/\∀k,(l.foldl fI S).N k=if k∈l then S.N k-1 else S.N k:=by
 intro l;induction l with
 |nil=>intro S _;simp
 |cons a l d=>
  intro S nd;rw[Qu]at nd;obtain⟨f,g,h⟩:=d (fI S a) nd.2;have c:∀k,k≠a->(fI S a).N k=S.N k:=λk b=>cz b;have ha:(fI S a).N a=S.N a-1:=cC;have i:l.filter (λk=>decide ((fI S a).N k-1=0))=l.filter (λk=>decide (S.N k-1=0)):=List.filter_congr λk b=>by rw[c k λe=>nd.1 (e▸b)]
  rw[RI,f,g,i,QX];refine⟨?_,?_,λk=>?_⟩
  .show(if S.N a-1=0 then S.ended++[a]else S.ended)++_=_;by_cases e:S.N a-1=0
   .rw[PN e,PN (P3 e),Qm];rfl
   .rw[PK e,PK (by rw[R5];exact e)]
  .show(if S.N a-1=0 then S.bR++[a]else S.bR)++_=_;by_cases e:S.N a-1=0
   .rw[PN e,PN (P3 e),Qm];rfl
   .rw[PK e,PK (by rw[R5];exact e)]
  .rw[h k];by_cases e:k=a
   .subst e;rw[PK nd.1,ha,PN (by simp)]
   .rw[c k e];simp[e]
def HY(d:∀k,(Z k).Nodup)(nd:ks.Nodup)(k:aE):(gy (h8 Z ks) k).Nodup/\∀h,h∈gy (h8 Z ks) k↔h∈ks/\k∈Z h:=by
 have hm:∀h,h∈gy (h8 Z ks) k↔h∈ks/\k∈Z h:=λh=>by
  unfold gy h8;simp only[Pt,P_,QY,R5];constructor
  .rintro⟨⟨a,b⟩,⟨⟨x,f,y,c,e⟩,e2⟩,rfl⟩;cases e;cases e2;exact⟨f,c⟩
  .rintro⟨h1,h2⟩;exact⟨(h,k),⟨⟨h,h1,k,h2,rfl⟩,rfl⟩,rfl⟩
 refine⟨?_,hm⟩;clear hm;induction ks with
 |nil=>exact Qn
 |cons x l g=>
  rw[Qu]at nd;have e:gy (h8 Z (x::l)) k=((Z x).filter λo=>decide (o=k)).map (λ_=>x)++gy (h8 Z l) k:=by unfold gy h8;rw[Rm,QK,Qo,List.filter_map,QC];rfl
  have one:((Z x).filter λo=>decide (o=k)).length<=1:=by
   have h1:=(d x).filter (λo=>decide (o=k));have:=Pz.bF _ [k] h1 λy c=>by simpa using(P_.mp c).2
   simpa using this
  rw[e,Qj];refine⟨?_,g nd.2,λa ha b hb e=>?_⟩
  .rcases h:(Z x).filter (λo=>decide (o=k))with _|⟨y,_|⟨z,r⟩⟩
   .exact Qn
   .simp
   .rw[h]at one;simp at one
  .obtain⟨_,_,rfl⟩:=Pt.mp ha;exact nd.1 (e▸Be hb)
def ET{P:List aE}{k x:aE}(b:(Z k).Nodup)(c:x∉P):cN Z (P++[x]) k=if x∈Z k then cN Z P k-1 else cN Z P k:=by
 unfold cN;generalize Z k=l at b;induction l with
 |nil=>simp
 |cons y l a=>
  rw[Qu]at b;have a:=a b.2;rw[QX,QX];by_cases e:y=x
  .subst e;rw[PK (by simp),PN (P3 c),PN (by simp),a,PK b.1];simp
  .have h1:(decide (y∉P++[x])=true)↔(decide (y∉P)=true):=by simp[e]
   by_cases h2:decide (y∉P)=true
   .rw[PN (h1.mpr h2),PN h2,P8,a,P8];by_cases h3:x∈l
    .rw[PN h3,PN (by simp[h3])];have:0<(l.filter λz=>decide (z∉P)).length:=Tj (P_.mpr ⟨h3,by simpa using c⟩);lia
    .rw[PK h3,PK (by simp[h3,QQ e])]
   .rw[PK (λh=>h2 (h1.mp h)),PK h2,a];simp[QQ e]
def cN_zero{P:List aE}{k:aE}:cN Z P k=0↔∀x∈Z k,x∈P:=by unfold cN;rw[Qw,List.filter_eq_nil_iff];simp
def qF.turn(m:∀k,(Z k).Nodup)(nk:ks.Nodup){c:List aE}{N:aE->Int}{ended bR:List aE}{last:aE}(h:qF Z ks c ⟨N,ended,bR++[last]⟩):qF Z ks (c++[last]) ((gy (h8 Z ks) last).foldl fI ⟨N,ended,bR⟩):=by
 obtain⟨nd,sub,pd,dj,cnt,Lp,ord⟩:=h;obtain⟨i,bm⟩:=HY m nk last;obtain⟨g,j,n⟩:=NC (gy (h8 Z ks) last) ⟨N,ended,bR⟩ i;generalize gy (h8 Z ks) last=bl at *;dsimp only at nd sub pd dj cnt Lp ord g j n;have lp:last∉c:=λz=>by rw[<- Qm,Qj]at dj;exact dj.2.2 last (Qd _ z) last (by simp) rfl
 have new:∀k,k∈bl.filter (λk=>decide (N k-1=0))↔(k∈ks/\last∈Z k)/\cN Z c k=1:=λk=>by
  rw[P_,bm,R5];constructor
  .rintro⟨h1,h2⟩;refine⟨h1,?_⟩;rw[cnt k h1.1]at h2;lia
  .rintro⟨h1,h2⟩;refine⟨h1,?_⟩;rw[cnt k h1.1];lia
 have l:∀k,cN Z (c++[last]) k=if last∈Z k then cN Z c k-1 else cN Z c k:=λk=>ET (m k) lp;have d:∀k,k∈bl.filter (λk=>decide (N k-1=0))->k∉ended:=λk f z=>by obtain⟨⟨h1,h2⟩,h3⟩:=(new k).mp f;rw[(Lp k h1).mp z]at h3;cases h3
 refine⟨?_,?_,λx=>?_,?_,λk f=>?_,λk f=>?_,?_⟩
 .rw[g,Qj];exact⟨nd,i.filter _,λa ha b hb e=>d b hb (e▸ha)⟩
 .rw[g];intro x hx;rcases PP.mp hx with hx|hx
  .exact sub x hx
  .exact((new x).mp hx).1.1
 .rw[g,j];have:=pd x;simp only[PP,Py]at this ⊢
  grind
 .rw[j];have h1:(c++[last]++bR).Nodup:=by
   have:(c++[last]++bR).Perm (c++(bR++[last])):=by rw[Qm];exact List.Perm.append_left _ List.perm_append_comm
   exact this.nodup_iff.mpr dj
  rw[<- Qm,Qj];refine⟨h1,i.filter _,λa ha b hb e=>d b hb ((pd b).mpr ?_)⟩;rw[e]at ha;simp only[PP,Py]at ha ⊢
  grind
 .rw[n k,l k];have c0:=cnt k f;by_cases e:k∈bl
  .have o:=((bm k).mp e).2;rw[PN e,PN o,c0];have:cN Z c k≠0:=λz=>lp (cN_zero.mp z last o);lia
  .rw[PK e,PK λz=>e ((bm k).mpr ⟨f,z⟩),c0]
 .rw[g,PP,new,Lp k f,l k];by_cases e:last∈Z k
  .rw[PN e];have:cN Z c k≠0:=λz=>lp (cN_zero.mp z last e);constructor
   .rintro (h|h)<;>lia
   .intro h;exact .inr ⟨⟨f,e⟩,by lia⟩
  .rw[PK e];constructor
   .rintro (h|h)
    .exact h
    .exact absurd h.1.2 e
   .exact .inl
 .rw[g];refine ES ord λk f x hx=>(pd x).mpr ?_;have h3:=(new k).mp f;have h0:cN Z (c++[last]) k=0:=by rw[l,PN h3.1.2];lia
  have:=cN_zero.mp h0 x hx;simp only[PP,Py]at this ⊢
  grind
def qF.first(g:∀k∈ks,∀x∈Z k,x∈ks)(nk:ks.Nodup):qF Z ks [] (sF Z ks):=by
 have b:∀k,cN Z [] k=(Z k).length:=λk=>by unfold cN;simp
 have c:∀k,k∈ks.filter (λk=>decide (lr Z k=0))↔k∈ks/\Z k=[]:=λk=>by rw[P_,R5];unfold lr;rw[show(((Z k).length:Nat):Int)=0↔(Z k).length=0 from by lia,Qw]
 refine⟨nk.filter _,λx a=>(P_.mp a).1,λx=>?_,?_,λk d=>?_,λk d=>?_,λpre k f e x a=>?_⟩
 .simp[sF]
 .rw[Sx];exact nk.filter _
 .rw[b];rfl
 .rw[b];show k∈ks.filter (λk=>decide (lr Z k=0))↔_;rw[c,Qw];exact⟨λh=>h.2,λh=>⟨d,h⟩⟩
 .have:k∈ks.filter (λk=>decide (lr Z k=0)):=by show k∈(sF Z ks).ended;rw[e];simp
  rw[((c k).mp this).2]at a;cases a
def HZ(d:∀k,(Z k).Nodup)(nk:ks.Nodup){n:Nat}{S c:KS}(h:KL (gy (h8 Z ks)) n S c):∀a,qF Z ks a S->∃b,qF Z ks b c/\c.bR=[]:=by
 induction h with
 |done h=>exact λa i=>⟨a,i,h⟩
 |step f g r e=>exact λa i=>e _ (i.turn d nk)
def Li(f:∀k,(Z k).Nodup/\(Z k).length<=63)(nk:ks.Nodup)(g:ks.length<=63):∀(m:Nat)(a:List aE)(S:KS),ks.length-a.length<=m->qF Z ks a S->∃b,KL (gy (h8 Z ks)) m S b:=by
 have h:∀last,(gy (h8 Z ks) last).length<=63*63:=λlast=>Qb (wu _ _) (Qb (wv (λk=>(f k).2) ks) (SZ _ g));intro m;induction m with
 |zero=>
  intro a S hm i;by_cases e:S.bR=[]
  .exact⟨S,.done e⟩
  exfalso;have h1:=Pz.bF _ ks i.dj λx c=>i.sub x ((i.pd x).mpr (PP.mp c));have h2:0<S.bR.length:=SX.mpr e;rw[PJ]at h1;lia
 |succ m j=>
  intro a S hm i;by_cases e:S.bR=[]
  .exact⟨S,.done e⟩
  obtain⟨N,ended,bR⟩:=S;dsimp only at e;obtain⟨d,x,rfl⟩ : ∃d x,bR=d++[x]:=⟨bR.dropLast,bR.getLast e,(Sr _).symm⟩;have h1:=Pz.bF _ ks i.dj λx c=>i.sub x ((i.pd x).mpr (PP.mp c));have h2:=Pz.bF _ ks i.nd i.sub;dsimp only at h1 h2;simp only[PJ,QM]at h1;obtain⟨b,r⟩:=j (a++[x]) _ (by simp;lia) (i.turn (λk=>(f k).1) nk);have:=h x;exact⟨b,.step (by lia) (by lia) r⟩
end
section
variable{Z:aE->List aE}{es ks w w':List aE}{h hF:aE}
def out_iff{k:aE}:iP es k=true↔k∉es:=by unfold iP;simp
theorem Lj(l:∀k∈ks,∀x∈Z k,x∈ks)(al:∀k∈ks,k∉es->∃x∈Z k,x∉es)(o:ks.length<=63):∀(m:Nat)(w:List aE)(h:aE),ks.length-w.length<=m->w.Nodup->(∀x∈w,x∈ks)->h∈ks->h∉es->∃w' hF,Cz Z es ks (m+1) w h w' hF:=by
 intro m;induction m with
 |zero=>
  intro w h hm nd sub h1 h2;by_cases e:h∈w
  .exact⟨w,h,.done e⟩
  have:=Pz.bF (w++[h]) ks (by rw[Qj];exact⟨nd,by simp,λa ha b hb z=>by rw[Py.mp hb]at z;exact e (z▸ha)⟩) λx f=>by grind
  rw[PJ,QM]at this;lia
 |succ m n=>
  intro w h hm nd sub h1 h2;by_cases e:h∈w
  .exact⟨w,h,.done e⟩
  have d:(w++[h]).Nodup:=by rw[Qj];exact⟨nd,by simp,λa ha b hb z=>by rw[Py.mp hb]at z;exact e (z▸ha)⟩
  have c:∀x∈w++[h],x∈ks:=λx f=>by grind
  have ln:=Pz.bF (w++[h]) ks d c;rw[PJ,QM]at ln;obtain⟨x,f,g⟩:=al h h1 h2;cases i:(Z h).filter (iP es)with
  |nil=>exact absurd (out_iff.mpr g) (List.filter_eq_nil_iff.mp i x f)
  |cons y r=>have j:=P_.mp (show y∈(Z h).filter (iP es) by rw[i];simp);obtain⟨w',hF,q⟩:=n (w++[h]) y (by simp;lia) d c (l h h1 y j.1) (out_iff.mp j.2);exact⟨w',hF,.step e h1 (by lia) (by rw[i];rfl) q⟩
end
def vg{l z c:List Int}(h:wI l z)(h':wI l c):z=c:=by
 have g:∀{z c:List Int},z.Pairwise (·< ·)->c.Pairwise (·< ·)->(∀x,x∈z↔x∈c)->z=c:=λ{z c} p f m=>by
  induction z generalizing c with
  |nil=>cases c with
   |nil=>rfl
   |cons b t=>exact absurd ((m b).mpr (by simp)) (by simp)
  |cons a t i=>cases c with
   |nil=>exact absurd ((m a).mp (by simp)) (by simp)
   |cons b t'=>
    rw[S_]at p f;have e:a=b:=by
     rcases PB.mp ((m a).mp (by simp))with e|h1
     .exact e
     .rcases PB.mp ((m b).mpr (by simp))with e|h2
      .exact e.symm
      .have:=p.1 b h2;have:=f.1 a h1;lia
    subst e;rw[i p.2 f.2 λx=>?_];have:=m x;simp only[PB]at this;constructor
    .intro d;rcases this.mp (.inr d)with e|h
     .subst e;exact absurd (p.1 x d) (by lia)
     .exact h
    .intro d;rcases this.mpr (.inr d)with e|h
     .subst e;exact absurd (f.1 x d) (by lia)
     .exact h
 exact g h.p h'.p λx=>(h.m x).trans (h'.m x).symm
def BN{F:aE->List Int}{a:Int}{st r d:List Int}{hs b:List aE}(h:kT F a st r hs)(h':kT F a st d b):r=d/\hs=b:=by
 induction h generalizing d b with
 |nil=>
  generalize e:([]:List Int)=s at h';cases h' with
  |nil=>exact⟨rfl,rfl⟩
  |snoc=>simp at e
 |@snoc st f hs s c h so i=>
  generalize e:st++[s]=s2 at h';cases h' with
  |nil=>simp at e
  |snoc h2 g=>obtain⟨e1,e2⟩:=List.append_inj' e rfl;subst e1;cases e2;obtain⟨rfl,rfl⟩:=i h2;exact⟨vg so g,rfl⟩
def H_(ks:List aE)(F:aE->List Int):Int->List Int->Prop
 |_,[]=>True
 |a,s::st=>(a,s)∈ks/\∀b∈F (a,s),H_ ks F b st
def EU{ks:List aE}{F:aE->List Int}{a:Int}{st r:List Int}{hs:List aE}(h:kT F a st r hs)(f:∀x∈hs,x∈ks):∀rest,(∀b∈r,H_ ks F b rest)->H_ ks F a (st++rest):=by
 induction h with
 |nil=>exact λrest h=>h a (by simp)
 |@snoc st e hs s d h so g=>intro rest i;rw[Qm];refine g (λx j=>f x (by simp[j])) _ λb hb=>⟨f _ (by simp;exact .inr hb),λc k=>i c ((so.m c).mpr (QY.mpr ⟨b,hb,k⟩))⟩
section
variable{RL:List Sp.Rule}{As:List Sp.Arr}{ks:List aE}
def behind_iff{a b c:Int}:c∈bc As (a,b)↔(a,b,c)∈As:=by refine⟨λh=>?_,g5⟩;obtain⟨⟨x,y,z⟩,d,e⟩:=Pt.mp h;have h1:=P_.mp d;have h2:(x,y)=(a,b):=Qa h1.2;cases h2;have e:z=c:=e;subst e;exact h1.1
def BO(i:∀r∈RL,r.2.2.2.length<=2)(f:GQ RL As)(j:∀k∈ks,∀x∈Ls As RL k,x∈ks){x y:Rw}(hs:LJ RL x y)(c:H_ ks (bc As) x.1 x.2):H_ ks (bc As) y.1 y.2:=by
 obtain⟨r,e,w,rfl,rfl⟩:=hs;have g:=i r e;obtain⟨a,s,t,put⟩:=r;obtain⟨c1,c2⟩:=c;have h:∀z∈bK (bc As) (a,s,t,put),z∈ks:=λz hz=>j _ c1 z (BH e hz);rcases put with _|⟨p,_|⟨q,_|⟨o,l⟩⟩⟩
 .exact c2 t (g5 (f.n _ _ _ e))
 .exact⟨h (t,p) (by show _∈[(t,p)];simp),λb hb=>c2 b (g5 (f.o _ _ _ _ _ e (behind_iff.mp hb)))⟩
 .refine⟨h (t,p) (Pu),λb hb=>⟨h (b,q) (Pw _ (Pt.mpr ⟨b,hb,rfl⟩)),λd hd=>c2 d (g5 (f.t _ _ _ _ _ _ _ e (behind_iff.mp hb) (behind_iff.mp hd)))⟩⟩
 .simp at g
end
section
variable{ro sg:Int}{RL:List Sp.Rule}{As:List Sp.Arr}{room:Int}{aS:List Int}
structure ii(ro sg:Int) (RL:List Sp.Rule) (As:List Sp.Arr) (room:Int) (aS:List Int):Prop where
 b:Bd ro sg
 r:ro<=7
 a:∀r∈RL,RR ro sg r
 c:GQ RL As
 nd:As.Nodup
 u:∀a∈As,a∈ie ro sg ro
 m:0<=room/\room<ro
 s:∀x∈aS,0<=x/\x<sg
 l:aS.length<=5
def wG{x:aE}(h1:0<=x.1/\x.1<ro)(h2:0<=x.2/\x.2<sg):x∈box ro sg:=QY.mpr ⟨x.1.toNat,Qh.mpr (by lia),Pt.mpr ⟨x.2.toNat,Qh.mpr (by lia),TY (by show((x.1.toNat:Nat):Int)=x.1;lia) (by show((x.2.toNat:Nat):Int)=x.2;lia)⟩⟩
def qA(h:Bd ro sg):(box ro sg).length<=28:=by
 have h2:=vf (λa:Nat=>(List.range sg.toNat).map λs=>(((a:Nat):Int),((s:Nat):Int))) sg.toNat (List.range ro.toNat) λx _=>by simp
 rw[Tv]at h2;have h3:((ro.toNat*sg.toNat:Nat):Int)=ro*sg:=by have:=h.r;have:=h.s;rw[Int.natCast_mul];congr 1<;>lia
 have b:=h.m;have h2:(box ro sg).length<=ro.toNat*sg.toNat:=h2;lia
def ii.ls(g:ii ro sg RL As room aS){k x:aE}(h:x∈Ls As RL k):x∈box ro sg:=by obtain⟨r,b,c⟩:=QY.mp h;have:=sW g.u (g.a r (P_.mp b).1) c;exact wG this.1 this.2
def FS{l z:List aE}(h:ko l z):z.Nodup:=h.p.imp λ{a b} h e=>by subst e;exact qo h
def ii.z(g:ii ro sg RL As room aS){Z:aE->List aE}(a:∀k,ko (Ls As RL k) (Z k))(k:aE):(Z k).Nodup/\(Z k).length<=63/\∀x∈Z k,x∈box ro sg:=by have sub:∀x∈Z k,x∈box ro sg:=λx c=>g.ls (((a k).m x).mp c);have:=Pz.bF _ _ (FS (a k)) sub;have:=qA g.b;exact⟨FS (a k),by lia,sub⟩
def ii.dX(g:ii ro sg RL As room aS):yH (bc As) ((List.range ro.toNat).map λi=>((i:Nat):Int)):=by refine⟨λk=>Qb (nv g.nd g.u k) (by have:=g.r;lia),λk x b=>?_,by have:=g.r;rw[Ps,Tv];lia⟩;obtain⟨a,ha,rfl⟩:=Pt.mp b;have:0<=a.2.2/\a.2.2<ro:=(univ_mem.mp (g.u a (P_.mp ha).1)).2.2;exact Pt.mpr ⟨a.2.2.toNat,Qh.mpr (by lia),by lia⟩
def ii.own(g:ii ro sg RL As room aS){st a:List Int}{hs:List aE}(h:kT (bc As) room st a hs)(b:∀x∈st,0<=x/\x<sg):(∀x∈a,0<=x/\x<ro)/\∀x∈hs,x∈box ro sg:=by
 induction h with
 |nil=>exact⟨λx hx=>by rw[Py.mp hx];exact g.m,λ_ h=>nomatch h⟩
 |@snoc st a hs s c h so d=>
  obtain⟨e,f⟩:=d λx hx=>b x (by simp[hx]);refine⟨λx hx=>?_,λx hx=>?_⟩
  .obtain⟨r,_,hx⟩:=QY.mp ((so.m x).mp hx);have:=univ_mem.mp (g.u _ (behind_iff.mp hx));exact this.2.2
  .rcases PP.mp hx with hx|hx
   .exact f x hx
   .obtain⟨r,i,rfl⟩:=Pt.mp hx;exact wG (e r i) (b s (by simp))
def ii.am(g:ii ro sg RL As room aS):yg RL As room aS:=by intro Z hs a c ow;obtain⟨_,h2⟩:=g.own ow g.s;have bl:=qA g.b;have d:=(ow.dX g.dX (Pt.mpr ⟨room.toNat,Qh.mpr (by have:=g.m;lia),by have:=g.m;lia⟩)).2;have:=g.l;exact Lh (U:=box ro sg) (by lia) (λk=>(g.z c k).2) _ [] hs (Pq _) (by simp;lia) Qn (λ_ h=>nomatch h) h2
structure Ak(RL:List Sp.Rule) (As:List Sp.Arr) (room:Int) (aS:List Int) (Z:aE->List aE) (ks:List aE):Prop where
 nd:ks.Nodup
 n:ks.length<=63
 c:∀k∈ks,∀x∈Z k,x∈ks
 v:H_ ks (bc As) room aS
theorem ii.box(g:ii ro sg RL As room aS){Z:aE->List aE}{ks:List aE}(h:o9 RL As room aS Z ks):∀x∈ks,x∈box ro sg:=by obtain⟨b,hs,a,n,ow,am⟩:=h;exact FR am (·∈ W.box ro sg) (λk _ x c=>(g.z b k).2.2 x c) (λ_ h=>nomatch h) (g.own ow g.s).2
theorem ii.ak(g:ii ro sg RL As room aS){Z:aE->List aE}{ks:List aE}(h:o9 RL As room aS Z ks):Ak RL As room aS Z ks:=by have sub:=g.box h;obtain⟨e,hs,a,n,ow,am⟩:=h;have nd:=Lg am Qn;have:=Pz.bF _ _ nd sub;have:=qA g.b;have c:=EU ow (BK am).2 [] λ_ _=>True.intro;rw[QR]at c;exact⟨nd,by lia,BL am (λk d=>nomatch d),c⟩
def f_{Z f:aE->List aE}{ks a:List aE}(h:o9 RL As room aS Z ks)(h':o9 RL As room aS f a):Z=f/\∀x∈ks,x∈a:=by obtain⟨l,hs,g,n,ow,am⟩:=h;obtain⟨b,o,d,r,i,c⟩:=h';have e:Z=f:=funext λk=>kJ (l k).p (b k).p λx=>((l k).m x).trans ((b k).m x).symm;subst e;obtain⟨_,rfl⟩:=BN ow i;exact⟨rfl,FR am (·∈ a) (λk j x q=>BL c (λk j=>nomatch j) k j x q) (λ_ h=>nomatch h) (BK c).2⟩
def ii.kl(g:ii ro sg RL As room aS){Z:aE->List aE}{ks:List aE}{n:Nat}{b:KS}(h:o9 RL As room aS Z ks)(l:KL (gy (h8 Z ks)) n (sF Z ks) b):b.ended.Nodup/\b.ended.length<=63/\(∀k∈ks,k∉b.ended->∃x∈Z k,x∉b.ended)/\BM Z b.ended/\∀x∈b.ended,x∈ks:=by
 have A:=g.ak h;obtain⟨a,i,e⟩:=HZ (λk=>(g.z h.s k).1) A.nd l [] (.first A.c A.nd);have le:=Pz.bF _ ks i.nd i.sub;refine⟨i.nd,by have:=A.n;lia,λk f j=>?_,i.ord,i.sub⟩;have h1:¬cN Z a k=0:=λz=>j ((i.Lp k f).mpr z);rw[cN_zero]at h1;have h1:∃x∈Z k,x∉a:=by apply Qp;intro z;exact h1 λx d=>Qp λq=>z ⟨x,d,q⟩
 obtain⟨x,d,m⟩:=h1;refine⟨x,d,λz=>?_⟩;rcases(i.pd x).mp z with q|q
 .exact m q
 .rw[e]at q;cases q
def ii.rg(g:ii ro sg RL As room aS):Eh RL As room aS:=by intro Z ks h;have A:=g.ak h;have b:qF Z ks [] (sF Z ks):=.first A.c A.nd;obtain⟨a,l⟩:=Li (λk=>⟨(g.z h.s k).1,(g.z h.s k).2.1⟩) A.nd A.n _ [] _ (Pq _) b;obtain⟨e1,e2,d,_⟩:=g.kl h l;refine⟨A.nd,by have:=A.n;lia,λk=>(g.z h.s k).2.1,_,a,l,e1,by lia,λh0 r e=>?_⟩;have hm:=P_.mp (show h0∈ks.filter (iP a.ended) by rw[e];simp);obtain⟨w,f,q⟩:=Lj A.c d A.n _ [] h0 (Pq _) Qn (λ_ h=>nomatch h) hm.1 (out_iff.mp hm.2);exact⟨_,w,f,q⟩
def BP{l:List aE}{i:Nat}{y:aE}(h:l[i]?=some y):l=l.take i++y::l.drop (i+1):=by have:=Q2 (i+1) l;rw[P0,h,Qm]at this;exact this.symm
def EV{Z:aE->List aE}{e1 e2 ks:List aE}(d:BM Z e1)(h1:∀x∈e1,x∈ks)(h2:∀k∈ks,k∉e2->∃x∈Z k,x∉e2):∀x∈e1,x∈e2:=by
 have b:∀i,∀x∈e1.take i,x∈e2:=λi=>by
  induction i with
  |zero=>exact λ_ h=>nomatch h
  |succ i c=>
   cases a:e1[i]? with
   |none=>rw[P0,a];simpa using c
   |some y=>
    rw[P0,a];intro x hx;rcases PP.mp hx with hx|hx
    .exact c x hx
    .have e:x=y:=by simpa using hx
     subst e;apply Qp;intro f;obtain⟨z,hz,g⟩:=h2 x (h1 x (PY a)) f;exact g (c z (d _ x _ (BP a) z hz))
 exact λx hx=>b e1.length x (by rw[Qk];exact hx)
def EY{e ks:List aE}(nd:e.Nodup)(sub:∀x∈e,x∈ks)(h:¬e.length<ks.length):∀x∈ks,x∈e:=by
 intro x a;apply Qp;intro b;have:=Pz.bF (x::e) ks (Qu.mpr ⟨b,nd⟩) λy hy=>by
  rcases PB.mp hy with rfl|hy
  .exact a
  .exact sub y hy
 simp at this;lia
def wH{e ks:List aE}(nd:ks.Nodup)(h:e.length<ks.length):∃k∈ks,k∉e:=by apply Qp;intro a;have:=Pz.bF ks e nd λx b=>Qp λz=>a ⟨x,b,z⟩;lia
def EZ{ns:List Int}{d m a:Int}(h:u9 ns d m)(h':u9 ns d a):m=a:=by
 rcases h with⟨e,rfl⟩|⟨h1,h2⟩<;>rcases h' with⟨b,rfl⟩|⟨h3,c⟩
 .rfl
 .rw[e]at h3;cases h3
 .rw[b]at h1;cases h1
 .have:=h2 _ h3;have:=c _ h1;lia
def ii.all(g:ii ro sg RL As room aS){Z:aE->List aE}{ks:List aE}{n:Nat}{a:KS}(h:o9 RL As room aS Z ks)(l:KL (gy (h8 Z ks)) n (sF Z ks) a)(f:¬a.ended.length<ks.length):(∀x∈ks,x∈a.ended)/\a.ended.length=ks.length:=by obtain⟨e1,_,_,_,sub⟩:=g.kl h l;have:=Pz.bF _ ks e1 sub;exact⟨EY e1 sub f,by lia⟩
theorem ii.sub(g:ii ro sg RL As room aS){Z b:aE->List aE}{ks a:List aE}{n d:Nat}{S c:KS}(h:o9 RL As room aS Z ks)(l:KL (gy (h8 Z ks)) n (sF Z ks) S)(h':o9 RL As room aS b a)(e:KL (gy (h8 b a)) d (sF b a) c):∀x∈S.ended,x∈c.ended:=by obtain⟨rfl,sub⟩:=f_ h h';obtain⟨_,_,_,o,s⟩:=g.kl h l;obtain⟨_,_,k,_,_⟩:=g.kl h' e;exact EV o (λx f=>sub x (s x f)) k
def ii.nn(g:ii ro sg RL As room aS){T:aE->Int}{e:List aE}(h:ji RL As room aS T e)(h':yI RL As room aS):False:=by obtain⟨a,c,d,_⟩:=h;obtain⟨b,f,i⟩:=h';obtain⟨k,j,nk⟩:=wH (g.ak b).nd i;exact nk (g.sub a c b f k ((g.all a c d).1 k ((f_ b a).2 k j)))
def ii.O5(g:ii ro sg RL As room aS)(h:yI RL As room aS)(h':vi RL As room aS none):False:=by
 obtain⟨a,d,f⟩:=h;cases h' with
 |@no Z ks n i c j e=>obtain⟨k,l,nk⟩:=wH (g.ak a).nd f;have b:=(f_ a c).2 k l;have m:k∈i.ended:=Qp λz=>absurd (out_iff.mpr z) (List.filter_eq_nil_iff.mp e _ b);exact nk (g.sub c j a d k m)
def ii.ND(g:ii ro sg RL As room aS){T:aE->Int}{e zs:List aE}(h:ji RL As room aS T e)(h':vi RL As room aS (some zs)):False:=by
 obtain⟨a,b,d,_⟩:=h;cases h' with
 |@yes Z ks r w n m j f h0 k c i e q x=>have hm:=P_.mp (show h0∈ks.filter (iP f.ended) by rw[e];simp);exact out_iff.mp hm.2 (g.sub a b c i h0 ((g.all a b d).1 h0 ((f_ c a).2 h0 hm.1)))
def ii.told(g:ii ro sg RL As room aS){T:aE->Int}{e:List aE}(h:ji RL As room aS T e){Z a:aE->List aE}{ks hs:List aE}(ha:o9 RL As room aS Z ks)(b:∀k,ko (Ls As RL k) (a k))(hm:∀x,x∈hs↔x∈ks)(j:hs.length=ks.length):vt a e hs T:=by obtain @⟨d,ks1,n,S',ga,c,f1,t⟩:=h;have e:a=d:=funext λk=>kJ (b k).p (ga.s k).p λx=>((b k).m x).trans ((ga.s k).m x).symm;subst e;obtain⟨f,l⟩:=g.all ga c f1;have s1:=(f_ ga ha).2;have s2:=(f_ ha ga).2;have c:=Pz.bF _ ks (g.ak ga).nd s1;have o:=Pz.bF _ ks1 (g.ak ha).nd s2;exact⟨by lia,λx i=>f x (s2 x ((hm x).mp i)),t⟩
def ii.Il(g:ii ro sg RL As room aS){T:aE->Int}{e:List aE}(h:ji RL As room aS T e):∃d,qH RL e T d/\d (room,aS):=by
 obtain @⟨Z,ks,n,S',ga,l1,f1,t⟩:=h;have A:=g.ak ga;have i:=(g.all ga l1 f1).1;have j:∀k∈ks,∀x∈Ls As RL k,x∈ks:=λk o x q=>A.c k o x (((ga.s k).m x).mpr q);refine⟨λx=>H_ ks (bc As) x.1 x.2,⟨λx y c hs=>BO (λr b=>(g.a r b).p) g.c j hs c,λa s w c=>i _ c.1,λa s u p l b f=>?_⟩,A.v⟩;have hz:(u,p)∈Z (a,s):=((ga.s _).m _).mpr (BH (r:=(a,s,u,p::l)) b (sV rfl));refine⟨t.c _ f _ hz,?_⟩;rcases t.m _ f with⟨z,_⟩|⟨_,h2⟩
 .rw[T7.mp z]at hz;cases hz
 .have:=h2 (T (u,p)+1) (Pt.mpr ⟨_,hz,rfl⟩);lia
def ii.bx(g:ii ro sg RL As room aS)(h3:ro<=3)(d:sg<=4){T:aE->Int}{e:List aE}(h:ji RL As room aS T e):e.Nodup/\∀x∈e,x∈bx3:=by obtain @⟨Z,ks,n,S',ga,l1,f1,t⟩:=h;obtain⟨e1,_,_,_,sub⟩:=g.kl ga l1;refine⟨e1,λx c=>?_⟩;obtain⟨a,ha,c⟩:=QY.mp (g.box ga x (sub x c));obtain⟨b,hb,rfl⟩:=Pt.mp c;have:=Qh.mp ha;have:=Qh.mp hb;exact EG ⟨by dsimp only;lia,by dsimp only;lia⟩ ⟨by dsimp only;lia,by dsimp only;lia⟩
def ii.uq(g:ii ro sg RL As room aS){T a:aE->Int}{e e2:List aE}(h:ji RL As room aS T e)(h':ji RL As room aS a e2):e2.length=e.length/\∀k∈e2,k∈e/\a k=T k:=by
 obtain @⟨Z,ks,n,S,ga,l1,f1,t1⟩:=h;obtain @⟨j,ks',n',S',gb,l2,f2,t2⟩:=h';obtain⟨rfl,s1⟩:=f_ ga gb;have s2:=(f_ gb ga).2;obtain⟨l,p⟩:=g.all ga l1 f1;obtain⟨q,r⟩:=g.all gb l2 f2;have q1:=Pz.bF _ ks' (g.ak ga).nd s1;have q2:=Pz.bF _ ks (g.ak gb).nd s2;have sub:=g.sub gb l2 ga l1;obtain⟨_,_,_,o,_⟩:=g.kl gb l2;have c:∀i,∀x∈S'.ended.take i,a x=T x:=λi=>by
  induction i with
  |zero=>exact λ_ h=>nomatch h
  |succ i d=>
   cases b:S'.ended[i]? with
   |none=>rw[P0,b];simpa using d
   |some y=>
    rw[P0,b];intro x hx;rcases PP.mp hx with hx|hx
    .exact d x hx
    .have e:x=y:=by simpa using hx
     subst e;have hx:=PY b;have m2:=t2.m x hx;have e:((Z x).map λo=>a o+1)=(Z x).map λo=>T o+1:=QL λz hz=>by rw[d z (o _ x _ (BP b) z hz)]
     rw[e]at m2;exact EZ m2 (t1.m x (sub x hx))
 exact⟨by lia,λk f=>⟨sub k f,c S'.ended.length k (by rw[Qk];exact f)⟩⟩
end
def Ia(ns:List Int)(o:ns.length<=63):wC [.lst (ns.map .int)]=.ok (.val (.bl true) true []):=by obtain⟨x0,c0⟩:=qy ns 0 (by decide);obtain⟨y,u,m0⟩:=sU x0;obtain⟨x1,c1⟩:=qy ns 1 (by decide);obtain⟨j,c2⟩:=qy ns 2 (by decide);obtain⟨place,_,m2⟩:=sU j;have h:Bd (1+y%3) (1+y/3%4):=Lf (R:=3) (S:=4) (by lia) (by lia) (by decide) (by decide) (by decide) (by decide) (by decide);exact EK ⟨ns,x0,x1,y,j,place,rfl,h.r,h.s,h.m,by lia,o,c0,m0,c1,c2,m2,λRL k f=>by obtain⟨t,P,p,q⟩:=BJ h k f;refine⟨t,P,λaS hs i=>?_⟩;have e:0<=place%(1+y%3)/\place%(1+y%3)<1+y%3:=⟨Int.emod_nonneg _ (by lia),Int.emod_lt_of_pos _ (by lia)⟩;have g:ii (1+y%3) (1+y/3%4) RL (t.map (·.1)) (place%(1+y%3)) aS:=⟨h,by lia,k,p,P.nd,q,e,i,hs⟩;exact⟨⟨_,g.dX,Pt.mpr ⟨(place%(1+y%3)).toNat,Qh.mpr (by lia),by lia⟩⟩,g.am,λZ ks h=>(g.ak h).n,g.rg,λZ ks n v a l=>(g.kl a l).2.2.2,g.O5,λh zs=>g.ND h,g.nn,λh Z ks w hs a b c d=>g.told h a b c d,g.Il,g.bx (by lia) (by lia),g.uq⟩⟩
end W
open PySem PySem.W PyProof.Rows
set_option maxRecDepth 100000 in
set_option maxHeartbeats 0 in
theorem PySem.Challenge.cw_callwalk_k45_tiers_fall_holds : PySem.Challenge.rw_callwalk_k45_tiers_fall.Holds := by
 w_on;refine PySem.W.Ea ?_
 k_fill
 refine L2.zZ (l:=PySem.Challenge.rw_callwalk_k45_tiers_fall) (n:=63) (k:=12) (x:="_law_script") (CX:=fun w=>L2.yP PySem.Challenge.pw_callwalk_k45_tiers_fall w) (sp:=fun _=>L3.LC W.wC) rfl (by decide) rfl ⟨rfl,by decide,by decide⟩ (fun w h Y=>PySem.W.kIn_of Y) ?kL ?F ?S ?C
 case kL=>exact fun w=>⟨by rfl,by rfl⟩
 case F=>
  intro w mg fa h KX G hmg
  refine' Exists.imp (fun _ z=>⟨z.1,fun base _ _=>z.2 base⟩) (W.HV hmg ?_)
  refine' (W.Le KX G L2.xt (L4.fk ?_ ?_ ?_) (L4.fk ?_ ?_ ?_) (L4.fk ?_ ?_ ?_) (L4.fk ?_ ?_ ?_) (L4.fk ?_ ?_ ?_) (L4.fk ?_ ?_ ?_) (L4.fk ?_ ?_ ?_) (L4.fk ?_ ?_ ?_) (L4.fk ?_ ?_ ?_) (L4.fk ?_ ?_ ?_) (L4.fk ?_ ?_ ?_) (L4.fk ?_ ?_ ?_) (L4.fk ?_ ?_ ?_) (L4.fk ?_ ?_ ?_) (L4.fk ?_ ?_ ?_) (L4.fk ?_ ?_ ?_) (L4.fk ?_ ?_ ?_) (L4.fk ?_ ?_ ?_) (L4.fk ?_ ?_ ?_) (L4.fk ?_ ?_ ?_) (L4.fk ?_ ?_ ?_) (L4.fk ?_ ?_ ?_) (L4.fk ?_ ?_ ?_) (L4.fk ?_ ?_ ?_) (L4.fk ?_ ?_ ?_) (L4.fk ?_ ?_ ?_) (L4.fk ?_ ?_ ?_) ?_ ?_ ?_ ?_ ?_ ?_ ?_ ?_ ?_ ?_ ?_ ?_ ?_ ?b_Endless ?e_Endless ?gz ⟨?_,?_,?_,?_,?_,?_,?_⟩ ?_ ?_ ⟨?_,?_,?_,?_,?_,?_,?_⟩ ?_ ?_ ?_ ?_ ?_ (L4.mk ?_ ?_ ?_ ?_ ?_) (L4.mk ?_ ?_ ?_ ?_ ?_) (L4.mk ?_ ?_ ?_ ?_ ?_) (L4.mk ?_ ?_ ?_ ?_ ?_) (L4.mk ?_ ?_ ?_ ?_ ?_) (L4.mk ?_ ?_ ?_ ?_ ?_) (L4.mk ?_ ?_ ?_ ?_ ?_) (L4.mk ?_ ?_ ?_ ?_ ?_) (L4.mk ?_ ?_ ?_ ?_ ?_))
  (case b_Endless=>k_is)
  (case e_Endless=>k_exc)
  (case gz=>rfl)
  all_goals try k_is
 case S=>exact fun w H a ns hl hS=>L3.GM (fun ns hn=>⟨_,_,W.Ia ns hn⟩) H a ns hl hS
 case C=>exact fun _ _ _ _ _ z=>L3.GN z
