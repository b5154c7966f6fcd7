import PyProof.Rows.All
import Wide.All
import OpenK.AllK
import PySem.Challenge.RW_callwalk_k44_ring_is_a_ring
section
open PySem PySem.W PyProof.Rows
def PySem.W.Vw:Program:={PySem.Challenge.pw_callwalk_k44_ring_is_a_ring with main:={PySem.Challenge.pw_callwalk_k44_ring_is_a_ring.main with body:=PySem.Challenge.pw_callwalk_k44_ring_is_a_ring.main.body.filter fun s=>match s with|.FunctionDef ..=>true|.ClassDef ..=>true|_=>false}}
local macro_rules | `(tactic| o_head $H) => `(tactic| refine holds_open (q := PySem.W.Vw) (loose := []) (Xt := fun s => xlAt PySem.W.Vw [] s && recOk (RowW.records PySem.Challenge.rw_callwalk_k44_ring_is_a_ring.row.toRowW) s) (XP := XL PySem.W.Vw []) (Yf := Hook.obs $H) (Ya := Hook.val $H) (YP := Hook.says $H) (N := 4100) (fun w => by kernel_rfl) (Hook.of $H) (Hook.keeps $H) (fun s e => xl_of s (Bool.and_eq_true_iff.mp e).1) XL.keeps (by rfl) (by rfl) (by rfl) (fun s e => recFacts_of (Bool.and_eq_true_iff.mp e).2) (by rfl) (by first | assumption | decide +kernel) (by decide +kernel) ⟨rfl, rfl, rfl, rfl, rfl, by decide +kernel⟩ ?_ ?_)
set_option Elab.async false
set_option maxRecDepth 100000
set_option maxHeartbeats 0
def PySem.W.Ea:=fun hc=>(by
 w_on;o_law;k_head;(· w_witness2)
 exact hc:PySem.Challenge.rw_callwalk_k44_ring_is_a_ring.Holds)
end
set_option autoImplicit true
set_option Elab.async false
set_option linter.all false
set_option genSizeOf false
set_option genSizeOfSpec false
set_option compiler.extract_closed false
set_option maxRecDepth 100000
set_option maxHeartbeats 4000000
set_option bootstrap.genMatcherCode false
noncomputable section
open PySem.W(instObj lookIn plainGet hasDictIn findIn isFn emptyDict keepIn kitOne fnOf codeIn kas_ask nsIn)
abbrev KE:=@PySem.wpAny_bind
abbrev QX:=@PySem.wpAny_pure
abbrev QY:=@Nat.le_refl
abbrev QZ:=@PySem.Heap.get?_push_of_some
abbrev Q0:=@List.length_map
abbrev Q1:=@List.getElem?_eq_getElem
abbrev Q2:=@List.getElem?_eq_some_iff
abbrev Q3:=@List.mem_map
abbrev Q5:=@List.mem_cons_self
abbrev Q7:=@List.mem_cons_of_mem
abbrev Q8:=@List.length_append
abbrev Q9:=@List.mem_singleton
abbrev Q_:=@List.mem_cons
abbrev Ra:=@List.size_toArray
abbrev Rb:=@PySem.Heap.get?_push_size
abbrev Rc:=@PySem.Heap.lt_size
abbrev Re:=@if_pos
abbrev Rf:=@if_neg
abbrev Rg:=@List.getElem?_map
abbrev Rh:=@Nat.zero_le
abbrev Rj:=@List.mem_append
abbrev Rk:=@List.not_mem_nil
abbrev Rl:=@List.mem_iff_getElem?
abbrev Rm:=@decide_eq_true
abbrev Rn:=@List.map_cons
abbrev Ro:=@Bool.false_eq_true
abbrev Rp:=@PySem.F.plainAttrs_list
abbrev Rq:=@List.length_cons
abbrev Rr:=@of_decide_eq_true
abbrev Rt:=@Nat.ne_of_lt
abbrev Ru:=@List.mem_filter
abbrev Rv:=@List.pairwise_iff_getElem
abbrev Rx:=@Nat.le_trans
abbrev Ry:=@List.take_add_one
abbrev Rz:=@PySem.PassesOwn.never
abbrev RB:=@PySem.sizeLine_eq
abbrev RC:=@List.nodup_append
abbrev RD:=@List.mem_append_left
abbrev RE:=@List.mem_of_getElem?
abbrev RF:=@Bool.false_ne_true
abbrev RG:=@List.mem_range
abbrev RH:=@Array.getElem?_toList
abbrev RI:=@List.nodup_nil
abbrev RJ:=@List.length_eq_zero_iff
abbrev RK:=@decide_eq_false
abbrev RM:=@List.mem_append_right
abbrev RN:=@List.length_singleton
abbrev RO:=@List.append_assoc
abbrev RP:=@PySem.F.slot_list_append
abbrev RQ:=@PySem.F.type_list_append
abbrev RT:=@List.getElem?_append_left
abbrev RU:=@Nat.lt_of_lt_of_le
abbrev RV:=@PySem.F.plainAttrs_dict
abbrev RX:=@List.map_append
abbrev RY:=@PySem.F.slot_dict_setdefault
abbrev RZ:=@PySem.Heap.SameBut.update
abbrev R0:=@Option.some.inj
abbrev R3:=@PySem.wpAny_newObj_type
abbrev R4:=@List.filter_append
abbrev R5:=@PySem.boot_len
abbrev R7:=@PySem.wpAny_call_entry
abbrev R8:=@List.take_length
abbrev R9:=@List.getElem?_append_right
abbrev R_:=@List.append_nil
abbrev Sa:=@List.length_take
abbrev Sb:=@PySem.W.mg_none_of
abbrev Se:=@List.nodup_cons
abbrev Sf:=@List.map_map
abbrev Sg:=@Nat.exists_eq_add_of_le'
abbrev Si:=@Ne.symm
abbrev Sj:=@List.length_take_le'
abbrev Sk:=@PySem.wpAny_holding
abbrev Sm:=@Nat.lt_of_le_of_lt
abbrev Sn:=@Array.length_toList
abbrev Sq:=@Classical.byContradiction
abbrev Sr:=@PySem.F.type_dict_setdefault
abbrev Ss:=@Option.map_eq_some_iff
abbrev Su:=@List.take_of_length_le
abbrev Sv:=@PyProof.Rows.slot_tuple_getitem
abbrev Sw:=@List.pairwise_map
abbrev Sx:=@if_false
abbrev Sy:=@congrArg
abbrev Sz:=@List.map_congr_left
abbrev SB:=@List.filter_cons
abbrev SC:=@Bool.and_eq_true
abbrev SD:=@PySem.F.slot_dict_itemiterator_next
abbrev SE:=@List.mem_flatMap
abbrev SF:=@PySem.wpAny_setState_of
abbrev SG:=@Nat.le_of_lt
abbrev SH:=@List.getElem?_set_self
abbrev SI:=@PySem.W.kia_one
abbrev SJ:=@PySem.Heap.get?_update_self
abbrev SK:=@PySem.wpAny_callSpecial?_slot
abbrev SL:=@List.flatMap_cons
abbrev SM:=@List.mem_of_mem_take
abbrev SN:=@PyProof.Rows.F.plain_set_update_loop
abbrev SO:=@Nat.shiftRight_eq_div_pow
abbrev SQ:=@Nat.lt_succ_self
abbrev SR:=@PySem.wpAny_truthy_bool
abbrev SS:=@List.length_filter_le
abbrev SU:=@List.take_append_drop
abbrev SV:=@List.Pairwise.imp_of_mem
abbrev SW:=@PySem.codeAny_builtin
abbrev SX:=@Int.eq_ofNat_of_zero_le
abbrev SY:=@Nat.eq_or_lt_of_le
abbrev SZ:=@Array.getElem?_eq_some_iff
abbrev S1:=@PySem.Calls.callWith_builtin
abbrev S3:=@PySem.wpAny_mono
abbrev S5:=@PySem.mem_of_lookup
abbrev S6:=@beq_eq_false_iff_ne
abbrev S8:=@List.foldl_append
abbrev S_:=@decide_eq_true_eq
abbrev Ta:=@PySem.Paired.length
abbrev Tc:=@PySem.F.slot_dict_get
abbrev Td:=@List.getElem?_eq_none
abbrev Te:=@PySem.wpAny_typeNameOfWhole_itemiter
abbrev Tf:=@List.foldl_cons
abbrev Tg:=@List.getElem?_set_ne
abbrev Th:=@PySem.Around.under_plainId
abbrev Ti:=@Bool.not_true
abbrev Tj:=@List.dropLast_concat_getLast
abbrev Tl:=@List.Perm.refl
abbrev Tn:=@List.find?_cons
abbrev To:=@List.flatMap_append
abbrev Tp:=@PySem.Heap.get?_update_other
abbrev Tq:=@List.length_eq_one_iff
abbrev Ts:=@Nat.ne_of_gt
abbrev Tt:=@PySem.tupleKind_room_in1
abbrev Tu:=@PySem.wpAny_notOrdered_dict
abbrev Tv:=@List.findIdx?_eq_some_iff_getElem
abbrev Tw:=@Int.le_trans
abbrev Tz:=@Nat.le_of_ble_eq_true
abbrev TB:=@if_true
abbrev TC:=@PySem.wpAny_typeNameOf_itemiter
abbrev TF:=@Array.getElem?_eq_getElem
abbrev TH:=@PySem.wpAny_passesOwn
abbrev TJ:=@PySem.wpAny_dictEntries
abbrev TL:=@PySem.F.slot_list_extend
abbrev TN:=@PySem.F.type_list_extend
abbrev TR:=@List.map_nil
abbrev TU:=@List.lookup_cons
abbrev TV:=@PySem.wpAny_typeNameOfWhole_keyiter
abbrev TY:=@PySem.Heap.size_push
abbrev TZ:=@PySem.F.entry_dict_get
abbrev T1:=@PySem.Calls.spliced_cons
abbrev T2:=@PySem.wpAny_Call_Name_kw
abbrev T3:=@PySem.wpAny_setField_rec
abbrev T4:=@PyProof.Rows.callWith_type1
abbrev T5:=@PySem.wpAny_typeOf
abbrev T6:=@List.length_nil
abbrev T7:=@List.nil_append
abbrev T8:=@Nat.lt_irrefl
abbrev T9:=@Int.toNat_natCast
abbrev T_:=@Nat.lt_succ_of_lt
abbrev Ua:=@PySem.wpAny_pyIter_slot
abbrev Ub:=@List.ext_getElem?
abbrev Uc:=@PySem.Calls.evalArgs_plain
abbrev Ud:=@PySem.Obj.data_mapDictKeys
abbrev Ue:=@List.mem_iff_getElem
abbrev Ug:=@List.mem_of_mem_drop
abbrev Uh:=@Bool.and_false
abbrev Ui:=@List.getElem?_zip_eq_some
abbrev Uj:=@PyProof.Rows.F.entry_set_update_loop
abbrev Uk:=@PySem.wpAny_setField
abbrev Ul:=@Nat.mul_le_mul
abbrev Um:=@List.length_drop
abbrev Uo:=@List.nodup_range
abbrev Up:=@List.filterMap_cons
abbrev Uq:=@PySem.Heap.SameBut.extBut
abbrev Ur:=@List.length_pos_iff
abbrev Us:=@Nat.mul_le_mul_left
abbrev Ut:=@PySem.call_meetsIn
abbrev Uu:=@PySem.wpAny_typeNameOf_keyiter
abbrev Uv:=@List.mem_filterMap
abbrev Uw:=@Bool.eq_iff_iff
abbrev Ux:=@List.any_cons
abbrev Uy:=@PySem.plainId_quiet
abbrev Uz:=@List.pairwise_cons
abbrev UA:=@Nat.lt_or_gt_of_ne
abbrev UB:=@PySem.W.KasT.kasWp_bind
abbrev UC:=@PySem.Obj.data_mapFields
abbrev UD:=@PySem.wpAny_dictEpoch
abbrev UE:=@Nat.add_sub_cancel_left
abbrev UF:=@Array.getElem?_eq_none
abbrev UG:=@PySem.wpAny_isOneOf_itemiter
abbrev UH:=@List.length_pos_of_mem
abbrev UI:=@PySem.wpAny_pyIter_list
abbrev UJ:=@PySem.Calls.spliced_nil
abbrev UK:=@PySem.wpAny_field
abbrev UL:=@Nat.lt_trichotomy
abbrev UM:=@PySem.wpAny_storeSet_of
abbrev UN:=@bne_self_eq_false
abbrev UO:=@List.getElem?_inj
abbrev UP:=@List.length_range
abbrev UQ:=@Bool.false_and
abbrev UR:=@PySem.codeAny_mono
abbrev US:=@PySem.F.args_dict_setdefault_3
abbrev UT:=@PySem.Obj.isFreed_of_fields
abbrev UU:=@Int.le_of_lt
abbrev UV:=@Nat.le_add_right
abbrev UW:=@PySem.F.entry_dict_setdefault
abbrev UX:=@PySem.wpAny_isInstance
abbrev UY:=@List.eq_nil_of_length_eq_zero
abbrev UZ:=@List.take_append_of_le_length
abbrev U0:=@List.pairwise_append
abbrev U1:=@List.getElem?_of_mem
abbrev U2:=@Prod.ext
abbrev U3:=@PySem.wpAny_attempt
abbrev U4:=@PySem.wpAny_newList
abbrev U5:=@beq_iff_eq
abbrev U6:=@PySem.wpAny_rule
abbrev U7:=@PySem.wpAny_execs_nil
abbrev U8:=@PySem.W.plainGet_of
abbrev U9:=@Nat.add_le_add_left
abbrev U_:=@List.getElem?_range
abbrev Vb:=@PySem.size_of_entries
abbrev Vc:=@Int.toNat_of_nonneg
abbrev Vd:=@PySem.W.callWith_K
abbrev Ve:=@or_false
abbrev Vf:=@PySem.wpAny_fieldsOf
abbrev Vg:=@PySem.W.kitx_dict
abbrev Vh:=@Option.isSome_map
abbrev Vi:=@Nat.le_of_lt_succ
abbrev Vj:=@Nat.le_succ
abbrev Vk:=@Bool.and_self
abbrev Vl:=@List.sum_cons
abbrev Vm:=@Nat.mul_add
abbrev Vn:=@List.any_eq_true
abbrev Vo:=@List.all_eq_true
abbrev Vp:=@List.perm_middle
abbrev Vq:=@Nat.le_of_eq
abbrev Vs:=@Nat.sub_self
abbrev Vt:=@Nat.add_comm
abbrev Vu:=@Int.zero_add
abbrev Vv:=@Nat.mod_lt
abbrev Vw:=PySem.Shared
abbrev Vx:=PySem.W.Frag
abbrev Vy:=PySem.Program
abbrev Vz:=PySem.Value
abbrev VA:=PySem.Around
def VG(h : True := by rfl) : True := h
def aM:Lean.Syntax:=VG._auto_1
def VB(h : True := by decide) : True := h
def ab:Lean.Syntax:=VB._auto_1
def VE(h : ∀u : Unit, u = u := by intro _; rfl) : True := True.intro
def az:Lean.Syntax:=VE._auto_1
def VC(h : True := by first|exact .inl rfl|exact .inr rfl|assumption) : True := h
def ae:Lean.Syntax:=VC._auto_1
def VD(h : True := by first|exact Or.inl rfl|exact Or.inr (Or.inl rfl)|exact Or.inr (Or.inr rfl)) : True := h
def VF(h : True := by intro _ _; rfl) : True := h

namespace L2
open PySem PySem.Spec PyProof.Rows
noncomputable abbrev bW:=Sum Int Str
noncomputable def iY:bW->Vz->Bool
 |.inl k,v=>Value.isInt k v
 |.inr x,v=>Value.isStrOf x v
noncomputable def Np(w:World):bW->Int
 |.inl k=>hashInt k
 |.inr x=>hashStr w x
def bu:∀{k:bW}{v:Vz},iY k v=true->(∃i t,k=Sum.inl i/\v=Value.int i t)\/(∃x t,k=Sum.inr x/\v=Value.str x t)
 |.inl i,v,h=>by obtain⟨t,e⟩:=Value.isInt_shape (k:=i) (v:=v) h;exact .inl ⟨i,t,rfl,e⟩
 |.inr x,v,h=>by obtain⟨t,e⟩:=Value.isStrOf_shape (x:=x) (v:=v) h;exact .inr ⟨x,t,rfl,e⟩
def xj(i:Int)(t:Tok):iY (.inl i) (.int i t)=true:=by simp[iY,Value.isInt]
def xk(x:Str)(t:Tok):iY (.inr x) (.str x t)=true:=by simp[iY,Value.isStrOf]
def Gk(a b:Int):decide ((Sum.inl a:bW)=Sum.inl b)=(a==b):=by grind
def Gm(a b:Str):decide ((Sum.inr a:bW)=Sum.inr b)=decide (a=b):=by grind
def Gn(a:Int)(b:Str):decide ((Sum.inl a:bW)=Sum.inr b)=false:=RK (λq=>nomatch q)
def Gp(a:Str)(b:Int):decide ((Sum.inr a:bW)=Sum.inl b)=false:=RK (λq=>nomatch q)
def aO(prog:Vy)(w:World):PySem.KeyKind prog w bW where
 is:=iY
 hash:=Np w
 inj:=λv a b ha hb=>by
  rcases bu ha with⟨i,t,rfl,rfl⟩|⟨x,t,rfl,rfl⟩
  .rcases bu hb with⟨j,u,rfl,e⟩|⟨y,u,rfl,e⟩
   .injection e with e1 _;rw[e1]
   .exact nomatch e
  .rcases bu hb with⟨j,u,rfl,e⟩|⟨y,u,rfl,e⟩
   .exact nomatch e
   .injection e with e1 _;rw[e1]
 byValue:=λk v h=>by rcases bu h with⟨i,t,rfl,rfl⟩|⟨x,t,rfl,rfl⟩<;>rfl
 pyHash:=λhv h=>by
  rcases bu hv with⟨i,t,rfl,rfl⟩|⟨x,t,rfl,rfl⟩
  .exact wpAny_pyHash_int h
  .exact wpAny_pyHash_str h
 eqBool:=λhu hv h=>by
  rcases bu hu with⟨i,t,rfl,rfl⟩|⟨x,t,rfl,rfl⟩
  .rcases bu hv with⟨j,u,rfl,rfl⟩|⟨y,u,rfl,rfl⟩
   .rw[Gk]at h;exact wpAny_eqBool_int h
   .rw[Gn]at h;exact SeqAt.EqAt.int_str i t y u _ _ _ _ h
  .rcases bu hv with⟨j,u,rfl,rfl⟩|⟨y,u,rfl,rfl⟩
   .rw[Gp]at h;exact SeqAt.EqAt.str_int x t j u _ _ _ _ h
   .rw[Gm]at h;exact wpAny_eqBool_str h
 «strs»:=λk x t v h=>by
  rcases bu h with⟨i,u,rfl,e⟩|⟨y,u,rfl,e⟩
  .exact nomatch e
  .injection e with e1 _;subst e1;cases v<;>rfl
def q_(prog:Vy)(w:World)(i:Int)(t:Tok):(aO prog w).is (.inl i) (.int i t)=true:=xj i t
def rf(prog:Vy)(w:World)(x:Str)(t:Tok):(aO prog w).is (.inr x) (.str x t)=true:=xk x t
inductive V where
 |bz|bl (b:Bool)|int (i:Int)|str (x:Str)|vE (b:Array UInt8)|Gh (b:UInt64)|ref (a:Addr)|ty (n:String)
 deriving DecidableEq
noncomputable def RelV:V->Vz->Prop
 |.bz,u=>u=Value.none
 |.bl b,u=>u=Value.bool b
 |.int i,u=>∃t,u=Value.int i t
 |.str x,u=>∃t,u=Value.str x t
 |.vE b,u=>∃t,u=Value.bytes b t
 |.Gh b,u=>∃t,u=Value.float b t
 |.ref a,u=>u=Value.ref a
 |.ty n,u=>u=Value.type n
abbrev Vals:List V->List Vz->Prop:=Paired RelV
theorem Vals.length(r:Vals xs us):xs.length=us.length:=Ta r
theorem Vals.get:∀{xs:List V}{us:List Vz}{i:Nat}{x:V},Vals xs us->xs[i]?=some x->∃u,us[i]?=some u/\RelV x u
 |_,_,_,_,.nil,e=>by simp at e
 |_,_,0,_,.cons r _,e=>by simp at e;subst e;exact⟨_,rfl,r⟩
 |_,_,i+1,x,.cons _ t,e=>by obtain⟨u,h1,h2⟩:=Vals.get (i:=i) (x:=x) t (by simpa using e);exact⟨u,by simpa using h1,h2⟩
theorem Vals.append:∀{xs a:List V}{us ws:List Vz},Vals xs us->Vals a ws->Vals (xs++a) (us++ws)
 |_,_,_,_,.nil,s=>s
 |_,_,_,_,.cons r t,s=>.cons r (Vals.append t s)
theorem Vals.take:∀{xs:List V}{us:List Vz}(n:Nat),Vals xs us->Vals (xs.take n) (us.take n)
 |_,_,0,_=>.nil
 |_,_,_+1,.nil=>.nil
 |_,_,n+1,.cons r t=>.cons r (Vals.take n t)
theorem Vals.drop:∀{xs:List V}{us:List Vz}(n:Nat),Vals xs us->Vals (xs.drop n) (us.drop n)
 |_,_,0,r=>r
 |_,_,_+1,.nil=>.nil
 |_,_,n+1,.cons _ t=>Vals.drop n t
def RelO:Option V->Option Vz->Prop
 |some v,some u=>RelV v u
 |none,none=>True
 |_,_=>False
def KV{κ:Type}:List (κ×V)->List (κ×Vz)->Prop:=Paired λ(p:κ×V)(q:κ×Vz)=>p.1=q.1/\RelV p.2 q.2
noncomputable def kV:bW->V
 |.inl i=>.int i
 |.inr x=>.str x
inductive HO where
  
 |lst (xs:List V)
  
 |tup (xs:List V)
  
 |dK (kvs:List (bW×V))|dT (kvs:List (List bW×V))
  
 |set (S:Int->Bool) (n:Nat)
  
 |ins (C dx:Addr) (fs:List (Str×V))
  
 |own (x:Addr)
  
 |xd (fs:List (Str×V))
  
 |met (f x:Addr)
  
 |O6 (lo hi:Int)
  
 |bw (o:Obj) (u:HO)
  
 |tV (ps:Array Vz)
  
 |ext (φ:Heap->Prop)
noncomputable abbrev Hp:=Addr->Option HO
noncomputable def upd(H:Hp)(a:Addr)(o:HO):Hp:=λb=>if b=a then some o else H b
def ag:upd H a o a=some o:=by unfold upd;rw[Re rfl]
def ai(h:b≠a):upd H a o b=H b:=by unfold upd;rw[Rf h]
def zf{H:Hp}(h:H a=some o)(h':H b=some u)(d:o≠u):a≠b:=by intro e;subst e;rw[h]at h';exact d (R0 h')
def ax{H:Hp}(h:H a=some o)(h':H b=none):a≠b:=by intro e;subst e;rw[h]at h';cases h'
section
variable(P:Vy)(w:World)
def ObjOk(H:Hp)(h:Heap)(a:Addr):HO->Prop
 |.lst xs=>xs.length<=sizeLine/\∃(its:List Vz)(n:Nat),Vals xs its/\h.get? a=some { cls:=.type "list",data:=.seq its.toArray n }
 |.tup xs=>xs.length<=sizeLine/\∃its:List Vz,Vals xs its/\IsTup h a its.toArray
 |.dK kvs=>kvs.length<=sizeLine/\(a==sysModules)=false/\∃vs,KV kvs vs/\h.DictOf (aO P w) a vs
 |.dT kvs=>kvs.length<=sizeLine/\(a==sysModules)=false/\∃xs:List (List bW×Addr×Vz),
  Paired (λ(p:List bW×V)(q:List bW×Addr×Vz)=>p.1=q.1/\H q.2.1=some (.tup (p.1.map kV))/\RelV p.2 q.2.2) kvs xs/\
  ∃o es ep,h.get? a=some o/\o.ExactDict/\o.data=.dict es ep/\es.toList=xs.map (entryOfKey (tupleKind (aO P w)))/\(xs.map (·.1)).Nodup
 |.set S n=>h.SetOf (intKind P w) a S n
 |.ins C dx fs=>H dx=some (.own a)/\fs.length<=1000/\dx≠a/\h.get? a=some (instObj C dx)/\
  ∃b,h.Ns1 dx b/\(∀f,RelO (fs.lookup f) (b f))/\PySem.Within b (fs.map (·.1))
 |.own _=>∃o,h.get? a=some o
 |.xd fs=>∃b,h.Ns1 a b/\∀f,RelO (fs.lookup f) (b f)
 |.O6 lo d=>∃t u v,h.get? a=some { cls:=.type "range",data:=.fields #[.int lo t,.int d u,.int 1 v] }
 |.bw o u=>h.get? a=some o/\ObjOk H h a u
 |.tV ps=>h.get? a=some {cls:=.none,data:=.fields ps}
 |.met f x=>h.get? a=some (PySem.W.methodObj (.ref f) (.ref x))
 |.ext c=>c h/\(∃o,h.get? a=some o)/\∀h1 h2:Heap,c h1->(∀o,h1.get? a=some o->h2.get? a=some o)->c h2
def HOk(H:Hp)(h:Heap):Prop:=∀a o,H a=some o->ObjOk P w H h a o
end
section
theorem ObjOk.lt(x:ObjOk P w H h a o):a<h.objs.size:=by
 cases o with
 |lst xs=>obtain⟨_,_,_,_,e⟩:=x;exact Rc e
 |tup xs=>obtain⟨_,_,_,p⟩:=x;exact p.lt
 |dK kvs=>obtain⟨_,_,_,_,o,_,_,e,_⟩:=x;exact Rc e
 |dT kvs=>obtain⟨_,_,_,_,o,_,_,e,_⟩:=x;exact Rc e
 |set S n=>obtain⟨o,_,_,_,e,_⟩:=x;exact Rc e
 |ins C dx fs=>obtain⟨_,_,_,e,_⟩:=x;exact Rc e
 |own y=>obtain⟨_,e⟩:=x;exact Rc e
 |xd fs=>obtain⟨_,⟨_,_,_,e,_⟩,_⟩:=x;exact Rc e
 |O6 lo b=>obtain⟨_,_,_,e⟩:=x;exact Rc e
 |bw c u=>obtain⟨e,_⟩:=x;exact Rc e
 |tV ps=>exact Rc (show h.get? a=some _ from x)
 |met f y=>exact Rc (show h.get? a=some _ from x)
 |ext d=>obtain⟨_,⟨_,e⟩,_⟩:=x;exact Rc e
def Paired.Fu{α e:Type}{F G:α->e->Prop}{c:List α}{d:List e}(h:Paired F c d)(f:∀a b,F a b->G a b):Paired G c d:=by
 induction h with
 |nil=>exact .nil
 |cons r _ g=>exact .cons (f _ _ r) g
def Paired.imp'{α e:Type}{F G:α->e->Prop}(f:∀a b,F a b->G a b){c:List α}{d:List e}(r:Paired F c d):Paired G c d:=Paired.Fu r f
def ObjOk.stay(x:ObjOk P w H h a o)(k:∀b u,(b=a\/H b=some (.own a))->h.get? b=some u->h'.get? b=some u)
 (j:∀b,H b=some (.own a)->H' b=some (.own a)) (l:∀b xs,H b=some (.tup xs)->H' b=some (.tup xs)):ObjOk P w H' h' a o:=by
 induction o with
 |lst xs=>obtain⟨z,its,n,r,e⟩:=x;exact⟨z,its,n,r,k _ _ (.inl rfl) e⟩
 |tup xs=>obtain⟨z,its,r,g,e,c⟩:=x;exact⟨z,its,r,g,k _ _ (.inl rfl) e,c⟩
 |dK kvs=>obtain⟨z,y,vs,r,g,es,ep,e,c⟩:=x;exact⟨z,y,vs,r,g,es,ep,k _ _ (.inl rfl) e,c⟩
 |dT kvs=>obtain⟨z,y,xs,r,g,es,ep,e,c⟩:=x;exact⟨z,y,xs,Paired.Fu r λp q z=>⟨z.1,l _ _ z.2.1,z.2.2⟩,g,es,ep,k _ _ (.inl rfl) e,c⟩
 |set S n=>obtain⟨g,es,ep,t,e,c⟩:=x;exact⟨g,es,ep,t,k _ _ (.inl rfl) e,c⟩
 |ins C dx fs=>obtain⟨d,z,ne,e,i,⟨od,es,ep,e2,c⟩,r⟩:=x;exact⟨j _ d,z,ne,k _ _ (.inl rfl) e,i,⟨od,es,ep,k _ _ (.inr d) e2,c⟩,r⟩
 |own y=>obtain⟨g,e⟩:=x;exact⟨g,k _ _ (.inl rfl) e⟩
 |xd fs=>obtain⟨i,⟨od,es,ep,e,c⟩,r⟩:=x;exact⟨i,⟨od,es,ep,k _ _ (.inl rfl) e,c⟩,r⟩
 |O6 lo s=>obtain⟨t,u,v,e⟩:=x;exact⟨t,u,v,k _ _ (.inl rfl) e⟩
 |bw g u m=>obtain⟨e,q⟩:=x;exact⟨k _ _ (.inl rfl) e,m q⟩
 |tV ps=>have e:h.get? a=some {cls:=.none,data:=.fields ps}:=x;show h'.get? a=some {cls:=.none,data:=.fields ps};exact k a _ (.inl rfl) e
 |met f y=>have e:h.get? a=some (PySem.W.methodObj (.ref f) (.ref y)):=x;show h'.get? a=some (PySem.W.methodObj (.ref f) (.ref y));exact k a _ (.inl rfl) e
 |ext A=>obtain⟨p,⟨o,e⟩,st⟩:=x;exact⟨st _ _ p λo q=>k _ _ (.inl rfl) q,⟨o,k _ _ (.inl rfl) e⟩,st⟩
theorem HOk.lt(x:HOk P w H h)(e:H a=some o):a<h.objs.size:=(x a o e).lt
def HOk.fresh(x:HOk P w H h)(e:h.objs.size<=a):H a=none:=by
 cases q:H a with
 |none=>rfl
 |some u=>exact absurd (RU (x.lt q) e) (T8 _)
def HOk.kept(x:HOk P w H h)(k:∀b u,h.get? b=some u->h'.get? b=some u):HOk P w H h':=λa o e=>(x a o e).stay (λb u _ q=>k b u q) (λ_ q=>q) λ_ _ q=>q
def HOk.laid(x:HOk P w H h)(k:∀b u,h.get? b=some u->h'.get? b=some u)(f:h.objs.size<=a)(new:ObjOk P w (upd H a o) h' a o):HOk P w (upd H a o) h':=λb u e=>by
 have d:=x.fresh f;by_cases hb:b=a
 .subst hb;rw[ag]at e;cases e;exact new
 .rw[ai hb]at e;exact(x b u e).stay (λc v _ q=>k c v q) (λc q=>by rw[ai (ax q d)];exact q) λc xs q=>by rw[ai (ax q d)];exact q
end
def Rd(H:Hp)(a:Addr)(u:HO):Prop:=H a=some u\/∃o,H a=some (.bw o u)
def Rd.ok(r:Rd H a u)(x:HOk P w H h):ObjOk P w H h a u:=by
 rcases r with r|⟨o,r⟩
 .exact x a u r
 .obtain⟨_,q⟩:=x a _ r;exact q
noncomputable def JC:Option HO->Prop
 |some (.lst _)=>True
 |some (.dK _)=>True
 |some (.dT _)=>True
 |some (.set _ _)=>True
 |some (.ins _ _ _)=>True
 |some (.ext _)=>True
 |_=>False
section
def HOk.write(ok:HOk P w H h)(f:JC (H x))(m:e=x\/H e=some (.own x))(k:∀b u,b≠e->h.get? b=some u->h'.get? b=some u)(g:∃u,h'.get? e=some u)
 (new:ObjOk P w (upd H x o') h' x o'):HOk P w (upd H x o') h':=λb u q=>by
 have a:∀c y,H c=some (.own y)->c≠x:=λc y r z=>by subst z;rw[r]at f;exact f
 have d:∀c xs,H c=some (.tup xs)->c≠x:=λc xs r z=>by subst z;rw[r]at f;exact f
 by_cases hb:b=x
 .subst hb;rw[ag]at q;cases q;exact new
 .rw[ai hb]at q;by_cases i:b=e
  .have j:H b=some (.own x):=by
    grind
   rw[q]at j;cases j;obtain⟨v,l⟩:=g;exact⟨v,by rw[i];exact l⟩
  .refine(ok b u q).stay (λc v n r=>k c v ?_ r) (λc r=>by rw[ai (a c b r)];exact r) λc xs r=>by rw[ai (d c xs r)];exact r
   grind
end
def Qt(H:Hp)(b:Addr):Prop:=H b=none\/∃xs,H b=some (.tup xs)
structure Un(fs ex:List Addr) (H H':Hp) (h h':Heap):Prop where
 keep:∀b o,h.get? b=some o->Qt H b->b∉fs->b∉ex->h'.get? b=some o
 slot:∀b o,h.get? b=some o->H b=none->b∈fs->b∉ex->∃sl,h'.get? b=some {o with slots:=sl}
 free:∀b o,h.get? b=some o->H b=none->b∉ex->H' b=none
 there:∀b o,h.get? b=some o->b∉ex->∃o',h'.get? b=some o'
 nW:∀b xs,H b=some (.tup xs)->H' b=some (.tup xs)
 lP:∀b o u,H b=some (.bw o u)->H' b=some (.bw o u)
 tR:∀b ps,H b=some (.tV ps)->∃more,H' b=some (.tV (ps++more))
section
def Un.any(u:Un fs ex H H1 h h1)(q:h.get? b=some ob)(n:H b=none)(a:b∉ex):∃sl,h1.get? b=some {ob with slots:=sl}:=by
 by_cases hb:b∈fs
 .exact u.slot b ob q n hb a
 .exact⟨ob.slots,u.keep b ob q (.inl n) hb a⟩
def Un.kept(k:∀b u,h.get? b=some u->h'.get? b=some u):Un fs ex H H h h':=⟨λb a q _ _ _=>k b a q,λb a q _ _ _=>⟨a.slots,k b a q⟩,λ_ _ _ n _=>n,λb a q _=>⟨a,k b a q⟩,λ_ _ q=>q,λ_ _ _ q=>q,λ_ ps q=>⟨#[],by rw[q];simp⟩⟩
def Un.refl:Un fs ex H H h h:=Un.kept λ_ _ q=>q
def Un.laid(k:∀b u,h.get? b=some u->h'.get? b=some u)(hp:h.objs.size<=a)(hn:H a=none):Un fs ex H (upd H a o) h h' where
 keep:=λb u q _ _ _=>k b u q
 slot:=λb u q _ _ _=>⟨u.slots,k b u q⟩
 free:=λb u q n _=>by rw[ai (Rt (RU (Rc q) hp))];exact n
 there:=λb u q _=>⟨u,k b u q⟩
 nW:=λb xs q=>by rw[ai (ax q hn)];exact q
 lP:=λb u xs q=>by rw[ai (ax q hn)];exact q
 tR:=λb ps q=>⟨#[],by rw[ai (ax q hn),q];simp⟩
def Un.write(a:JC (H x))(g:e=x\/H e=some (.own x))(k:∀b u,b≠e->h.get? b=some u->h'.get? b=some u)(d:∃u,h'.get? e=some u):Un fs ex H (upd H x o) h h':=by
 have i:∀b,H b=none->b≠x:=λb n z=>by subst z;rw[n]at a;exact a
 have hb:∀b,H b=none->b≠e:=λb n z=>by grind
 have hm:∀b u,H b=some u->¬JC (some u)->b≠x:=λb u q j z=>by subst z;rw[q]at a;exact j a
 refine⟨λb u q n _ _=>k b u (n.elim (hb b) λ⟨xs,f⟩ z=>by rcases g with r|r;(·rw[<- r,<- z,f]at a;exact a);(·rw[<- z,f]at r;cases r)) q,λb u q n _ _=>⟨u.slots,k b u (hb b n) q⟩,λb u q n _=>by rw[ai (i b n)];exact n,λb u q _=>?_,
  λb xs q=>by rw[ai (hm b _ q λz=>z)];exact q,λb u xs q=>by rw[ai (hm b _ q λz=>z)];exact q,λb ps q=>⟨#[],by rw[ai (hm b _ q λz=>z),q];simp⟩⟩
 by_cases c:b=e
 .subst c;exact d
 .exact⟨u,k b u c q⟩
end
noncomputable def M8(h:Heap)(H:Hp):List Addr:=(List.range h.objs.size).filter λa=>(H a).isSome
def rh(h:Heap)(H:Hp):Heap:=PySem.W.hideAll h (M8 h H)
def xm(h:Heap)(H:Hp):(rh h H).objs.size=h.objs.size:=PySem.W.hideAll_size _ _
def ri(e:h.get? b=some o)(n:H b=none):(rh h H).get? b=some o:=PySem.W.hideAll_get _ e λhm=>by have q:(H b).isSome=true:=(Ru.mp hm).2;rw[n]at q;simp at q
def Dt(e:(rh h H).get? b=some o):h.get? b=some o/\H b=none:=by
 have a:h.get? b=some o:=PySem.W.of_hideAll (M8 h H) e;refine⟨a,?_⟩;cases q:H b with
 |none=>rfl
 |some x=>have hm:b∈M8 h H:=Ru.mpr ⟨RG.mpr (Rc a),by simp[q]⟩;have z:(rh h H).get? b=none:=PySem.W.hideAll_none (M8 h H) hm;rw[z]at e;cases e
noncomputable def Du(g h:Heap)(L:Addr):List (Addr×Obj):=(List.range h.objs.size).filterMap λa=>if a=L\/(g.get? a).isSome=true then none else(h.get? a).map λo=>(a,o)
def rest(g h:Heap)(L d:Addr):List (Addr×Obj):=(Du g h L).filter λp=>decide (p.1≠d)
noncomputable def PK:Vz->V
 |.str x _=>.str x
 |.ref a=>.ref a
 |_=>.bz
def Gq(o:Obj):Option (Addr×List V):=match o.cls with
 |.type n=>if n=="kt" then(match o.data with
  |.seq its _=>(match its.toList with
   |.ref a::r=>some (a,r.map PK)
   |_=>none)
  |_=>none)else none
 |_=>none
def Nq(K:Vx)(H:Hp):Prop:=∀p∈K,∀a xs,Gq p.2=some (a,xs)->H a=some (.tup xs)
structure Mod(K:Vx) (mg:Str->Option Vz) (base:Heap):Prop where
 MV:K.In base
 glob:base.Ns mainGlobals mg
 blt:∃mb,base.Ns builtinsNs mb/\∀x:Str,x≠"__name__"->mb x=bootBuiltins x
 nolimit:base.NoLimit
structure Cx where
 prog:Vy
 w:World
 K:Vx
 mg:Str->Option Vz
 base:Heap
 A:VA
 N:List Str
 s₀:Vw
 H₀:Hp
 env:Env
 outer:List Env
 stack:List Env
 ex:List Addr
 fn:Str->Bool
 calm:Bool
 pn:List (Addr×Obj)
 xe:Vz->Vw->Prop
abbrev wX(X:Cx){α:Type}(m:Sem α):(α->Vw->Prop)->(Vz->Vw->Prop)->Vw->Prop:=wpAny (model X.prog X.w) X.A m
abbrev sE(X:Cx)(e:Expr)(es:List Expr):Prop:=starEach (e::es) X.env=(false,eval e X.env)::starEach es X.env
abbrev bT(X:Cx)(p:Pos)(es:List Expr):Prop:=(backTo p (starEach es X.env)).any (·.1)=false
abbrev dB(x:Str):Prop:=(x==("__debug__" : Str))=false
noncomputable def zg(l:List Env):List Addr:=l.filterMap (·.frame)
abbrev Cx.fs(X:Cx):List Addr:=zg X.outer
def M9(a:Scope)(x:Str):Prop:=a.names.lookup x=some .local\/a.names.lookup x=some .cell\/a.names.lookup x=some .free
def JD(a:Scope)(x:Str):Prop:=a.names.lookup x=some .local\/a.names.lookup x=some .cell
def Nr(env:Env)(h:Heap)(m:Str->Option Vz)(x:Str)(u:Vz):Prop:=(env.kindOf x=some .local/\m x=some u)\/((env.kindOf x=some .cell\/env.kindOf x=some .free)/\∃c,env.cells.lookup x=some c/\h.IsCell c (some u))
structure Cx.Ok(X:Cx):Prop where
 mod:Mod X.K X.mg X.base
 kind:X.env.scope.kind=.function
 glob:X.env.globals=mainGlobals
 blt:X.env.builtins=builtinsNs
 above:X.s₀.heap.objs.size<=X.env.locals
 inj:∀x y c,X.env.cells.lookup x=some c->X.env.cells.lookup y=some c->x=y
 has:∀x,(X.env.kindOf x=some .cell\/X.env.kindOf x=some .free)->∃c,X.env.cells.lookup x=some c
 JR:∀x c,X.fn x=true->X.env.cells.lookup x=some c->X.s₀.heap.objs.size<=c
 hd:X.calm=true->X.A.handled=none
 frames:X.A.frames=some X.stack
 bq:X.stack=X.outer\/(X.stack=X.env::X.outer/\X.env.frame=some X.env.locals)
 O9:∀b∈X.ex,b≠X.env.locals/\∀x c,X.env.cells.lookup x=some c->c≠b
 bs:∀b o,X.base.get? b=some o->X.s₀.heap.get? b=some o/\X.H₀ b=none
 CZ:X.base.objs.size<=X.s₀.heap.objs.size
 yX:∀b o,X.base.get? b=some o->b∉X.ex
 Cw:∀b∈X.ex,b∉X.fs
 k_:X.s₀.heap.FunFrames X.base X.outer
 Gj:∀b∈X.fs,X.H₀ b=none
 kt:Nq X.K X.H₀
structure Inv(X:Cx) (ac:List (Addr×Obj)) (σ:List (Option V)) (H:Hp) (s:Vw):Prop where
 ok:X.Ok
 os:s.os=X.s₀.os
 bare:AllBare s.gens
 base:Un X.fs X.ex X.H₀ H X.s₀.heap s.heap
 loc:∃m,s.heap.Ns X.env.locals m/\∀(i:Nat)(x:Str)(v:V),X.N[i]?=some x->σ[i]?=some (some v)->M9 X.env.scope x->∃u,RelV v u/\Nr X.env s.heap m x u
 cell:∀x c,X.env.cells.lookup x=some c->∃v,s.heap.IsCell c v
 free:H X.env.locals=none
 gk:∀x c,X.env.cells.lookup x=some c->H c=none
 pin:∀p∈X.pn++ac,s.heap.get? p.1=some p.2/\H p.1=none/\p.1≠X.env.locals/\p.1∉X.fs/\∀v,p.2.data≠.cell v
 aW:HOk X.prog X.w H s.heap
 len:σ.length=X.N.length
section
variable{X:Cx}{ac:List (Addr×Obj)}{σ:List (Option V)}{H H':Hp}{s:Vw}
def Cx.Ok.O7(ok:X.Ok)(e:X.base.get? b=some o):b∉X.fs:=λhb=>by have:=(ok.k_.mem hb).1;rw[e]at this;cases this
theorem Inv.bs(I:Inv X ac σ H s):∀b o,X.base.get? b=some o->s.heap.get? b=some o/\H b=none:=λb o e=>⟨I.base.keep b o (I.ok.bs b o e).1 (.inl (I.ok.bs b o e).2) (I.ok.O7 e) (I.ok.yX b o e),I.base.free b o (I.ok.bs b o e).1 (I.ok.bs b o e).2 (I.ok.yX b o e)⟩
theorem Inv.kt(I:Inv X ac σ H s):Nq X.K H:=λp b a xs e=>I.base.nW a xs (I.ok.kt p b a xs e)
def Inv.bk(I:Inv X ac σ H s):∀b o,X.base.get? b=some o->s.heap.get? b=some o:=λb o e=>(I.bs b o e).1
theorem Inv.mod(I:Inv X ac σ H s):Mod X.K X.mg X.base:=I.ok.mod
def Inv.lg(I:Inv X ac σ H s):X.K.In s.heap:=I.ok.mod.MV.keeps I.bk
theorem Inv.lt(I:Inv X ac σ H s):X.env.locals<s.heap.objs.size:=let ⟨_,a,_⟩:=I.loc;a.lt
def Inv.sz(I:Inv X ac σ H s):X.s₀.heap.objs.size<=s.heap.objs.size:=Rx I.ok.above (SG I.lt)
def Inv.Pb(I:Inv X ac σ H s)(h:s.heap.objs.size<=a):a∉X.fs:=λhb=>by obtain⟨_,o,b,_⟩:=I.ok.k_.mem hb;exact absurd (RU (Rc b) (Rx I.sz h)) (T8 _)
def Inv.JB(I:Inv X ac σ H s):∀x c,X.env.cells.lookup x=some c->c≠X.env.locals:=λx c e z=>by obtain⟨v,o,d,hd⟩:=I.cell x c e;obtain⟨m,⟨f,es,ep,a,b,_⟩,_⟩:=I.loc;rw[z,a]at d;cases d;rw[b]at hd;cases hd
theorem Inv.k_(I:Inv X ac σ H s):s.heap.FunFrames X.base X.outer:=by
 have all:∀(l:List Env),(∀b∈zg l,b∈X.fs)->X.s₀.heap.FunFrames X.base l->s.heap.FunFrames X.base l:=by
  intro l;induction l with
  |nil=>intro _ _;trivial
  |cons env r f=>intro d g;obtain⟨h,⟨L,o,a,i,j,hd⟩,k⟩:=g;have c:L∈X.fs:=d L (by unfold zg;rw[Up,a];exact Q5);obtain⟨sl,e⟩:=I.base.slot L o j (I.ok.Gj L c) c λz=>I.ok.Cw L z c;exact⟨h,⟨L,_,a,i,e,hd⟩,f (λb hb=>d b (by unfold zg;rw[Up,a];exact Q7 _ hb)) k⟩
 exact all X.outer (λ_ hb=>hb) I.ok.k_
theorem Inv.stack(I:Inv X ac σ H s):s.heap.FunFrames X.base X.stack:=by
 rcases I.ok.bq with e|⟨e,a⟩
 .rw[e];exact I.k_
 .rw[e];obtain⟨m,b,_⟩:=I.loc;refine .cons (by rw[I.ok.kind];decide) a b ?_ I.k_;exact Heap.get?_none_of_le (Rx I.ok.CZ I.ok.above)
def Inv.qV(I:Inv X ac σ H s):∀b∈zg X.stack,b∈X.env.locals::X.fs:=λb hb=>by
 rcases I.ok.bq with e|⟨e,a⟩
 .rw[e]at hb;exact Q7 _ hb
 .rw[e]at hb;unfold zg at hb;rw[Up,a]at hb;exact hb
def Inv.xh(I:Inv X ac σ H s):∀b∈zg X.stack,H b=none:=λb hb=>by
 rcases Q_.mp (I.qV b hb)with e|hb
 .rw[e];exact I.free
 .obtain⟨_,o,a,_⟩:=I.ok.k_.mem hb;exact I.base.free b o a (I.ok.Gj b hb) λz=>I.ok.Cw b z hb
theorem Inv.step{d':Drawn}{ch:List Addr}(I:Inv X ac σ H s)
 (f:∀b∈ch,(b∈X.ex\/X.s₀.heap.objs.size<=b)/\b≠X.env.locals/\(∀x c,X.env.cells.lookup x=some c->c≠b)/\∀p∈X.pn++ac,p.1≠b)
 (keep:∀b o,b≠X.env.locals->b∉X.fs->b∉ch->s.heap.get? b=some o->Qt H b->h'.get? b=some o)
 (slot:∀b o,b≠X.env.locals->b∈X.fs->b∉ch->s.heap.get? b=some o->H b=none->∃sl,h'.get? b=some {o with slots:=sl}) (free:∀b o,b∉ch->s.heap.get? b=some o->H b=none->H' b=none)
 (there:∀b o,b∉ch->s.heap.get? b=some o->∃y,h'.get? b=some y)
 (nW:∀b xs,H b=some (.tup xs)->H' b=some (.tup xs)) (lP:∀b o u,H b=some (.bw o u)->H' b=some (.bw o u)) (tR:∀b ps,H b=some (.tV ps)->∃more,H' b=some (.tV (ps++more)))
 (ns:∀m,s.heap.Ns X.env.locals m->h'.Ns X.env.locals m) (aW:HOk X.prog X.w H' h') (F:AllBare g') :
 Inv X ac σ H' {s with heap:=h',gens:=g',drawn:=d',toks:=t'}:=by
 have A:∀b o,X.s₀.heap.get? b=some o->b≠X.env.locals:=λb o e=>Rt (RU (Rc e) I.ok.above);have j:∀b o,X.s₀.heap.get? b=some o->b∉X.ex->b∉ch:=λb o e a hb=>by
  rcases(f b hb).1 with z|z
  .exact a z
  .exact absurd (RU (Rc e) z) (T8 _)
 have g:∀x c,X.env.cells.lookup x=some c->∀v,s.heap.IsCell c v->h'.IsCell c v:=λx c e v ⟨o,t,hd⟩=>by
  have h:c∉ch:=λz=>(f c z).2.2.1 x c e rfl;by_cases C:c∈X.fs
  .obtain⟨sl,q⟩:=slot c o (I.JB x c e) C h t (I.gk x c e);exact⟨_,q,hd⟩
  .exact⟨o,keep c o (I.JB x c e) C h t (.inl (I.gk x c e)),hd⟩
 refine⟨I.ok,I.os,F,⟨λb o e n hb a=>?_,λb o e n hb a=>?_,λb o e n a=>?_,λb o e a=>?_,λb xs e=>nW b xs (I.base.nW b xs e),λb o xs e=>lP b o xs (I.base.lP b o xs e),λb ps e=>?_⟩,?_,λx c e=>?_,?_,λx c e=>?_,λp D=>?_,aW,I.len⟩
 .exact keep b o (A b o e) hb (j b o e a) (I.base.keep b o e n hb a) (n.imp (λn=>I.base.free b o e n a) λ⟨xs,q⟩=>⟨xs,I.base.nW b xs q⟩)
 .obtain⟨sl,e1⟩:=I.base.slot b o e n hb a;obtain⟨B,e2⟩:=slot b _ (A b o e) hb (j b o e a) e1 (I.base.free b o e n a);exact⟨B,e2⟩
 .obtain⟨y,e1⟩:=I.base.there b o e a;exact free b y (j b o e a) e1 (I.base.free b o e n a)
 .obtain⟨y,e1⟩:=I.base.there b o e a;exact there b y (j b o e a) e1
 .obtain⟨K,e1⟩:=I.base.tR b ps e
  grind
 .obtain⟨m,G,J⟩:=I.loc;refine⟨m,ns m G,λi x v e1 e2 e3=>?_⟩;obtain⟨u,r,l⟩:=J i x v e1 e2 e3;refine⟨u,r,?_⟩;rcases l with l|⟨k,c,e,z⟩
  .exact .inl l
  .exact .inr ⟨k,c,e,g x c e _ z⟩
 .obtain⟨v,z⟩:=I.cell x c e;exact⟨v,g x c e v z⟩
 .obtain⟨m,⟨o,_,_,t,_⟩,_⟩:=I.loc;exact free _ o (λz=>(f _ z).2.1 rfl) t I.free
 .obtain⟨v,o,t,hd⟩:=I.cell x c e;exact free c o (λz=>(f c z).2.2.1 x c e rfl) t (I.gk x c e)
 .obtain⟨e,n,ne,E,d⟩:=I.pin p D;have h:p.1∉ch:=λz=>(f p.1 z).2.2.2 p D rfl;exact⟨keep p.1 p.2 ne E h e (.inl n),free p.1 p.2 h e n,ne,E,d⟩
theorem Inv.un{t':Nat}(I:Inv X ac σ H s)(u:Un X.fs [] H H' s.heap h')(aW:HOk X.prog X.w H' h'):Inv X ac σ H' {s with heap:=h',toks:=t'}:=by obtain⟨m,⟨o,es,ep,f,r⟩,_⟩:=id I.loc;obtain⟨sl,g⟩:=u.any f I.free (by simp);exact I.step (g':=s.gens) (d':=s.drawn) (ch:=[]) (λ_ z=>nomatch z) (λb o _ hb _ e n=>u.keep b o e n hb (by simp)) (λb o _ hb _ e n=>u.slot b o e n hb (by simp)) (λb o _ e n=>u.free b o e n (by simp)) (λb o _ e=>u.there b o e (by simp)) u.nW u.lP u.tR (λi hm=>by obtain⟨j,c,d,a,h⟩:=hm;rw[f]at a;cases a;exact⟨_,c,d,g,h⟩) aW I.bare
theorem Inv.call{d':Drawn}{ch:List Addr}(I:Inv X ac σ H s)(u:Un (zg X.stack) ch H H' s.heap h')(aW:HOk X.prog X.w H' h')(k:AllBare g')
 (d:∀b∈ch,(b∈X.ex\/X.s₀.heap.objs.size<=b)/\b≠X.env.locals/\(∀x c,X.env.cells.lookup x=some c->c≠b)/\∀p∈X.pn++ac,p.1≠b) :
 Inv X ac σ H' {s with heap:=h',gens:=g',drawn:=d',toks:=t'}:=by
 obtain⟨m,⟨o,es,ep,j,r⟩,_⟩:=id I.loc;obtain⟨sl,g⟩:=u.any j I.free λz=>(d _ z).2.1 rfl;exact I.step (ch:=ch) d (λb o g hb a e n=>u.keep b o e n (λz=>(Q_.mp (I.qV b z)).elim g hb) a) (λb o _ _ a e n=>u.any e n a) (λb o a e n=>u.free b o e n a) (λb o a e=>u.there b o e a) u.nW u.lP u.tR (λq hm=>by obtain⟨t,h,i,f,l⟩:=hm;rw[j]at f;cases f;exact⟨_,h,i,g,l⟩) aW k
theorem Inv.turned{it:Addr}(I:Inv X ac σ H s)(k:∀b o,b≠it->s.heap.get? b=some o->h'.get? b=some o)(g:H it=none)(f:it≠X.env.locals)
 (h1:it∈X.ex\/X.s₀.heap.objs.size<=it) (h2:∀x c,X.env.cells.lookup x=some c->c≠it) (h3:∀p∈X.pn++ac,p.1≠it):Inv X ac σ H {s with heap:=h',toks:=t'}:=by
 have d:∀b u,H b=some u->b≠it:=λb u e z=>by rw[z,g]at e;cases e
 refine I.step (g':=s.gens) (d':=s.drawn) (ch:=[it]) (λb hb=>?_) (λb o _ _ a e _=>k b o (λz=>a (by simp[z])) e) (λb o _ _ a e _=>⟨o.slots,k b o (λz=>a (by simp[z])) e⟩) (λ_ _ _ _ n=>n)
  (λb o a e=>⟨o,k b o (λz=>a (by simp[z])) e⟩) (λ_ _ e=>e) (λ_ _ _ e=>e) (λb ps e=>⟨#[],by rw[e];simp⟩) (λm hm=>?_) (λb u e=>?_) I.bare
 .have e:b=it:=by simpa using hb
  subst e;exact⟨h1,f,h2,h3⟩
 .obtain⟨o,es,ep,h,r⟩:=hm;exact⟨o,es,ep,k _ o (Si f) h,r⟩
 .refine(I.aW b u e).stay (λc v a q=>k c v ?_ q) (λ_ q=>q) λ_ _ q=>q;rcases a with z|z
  .rw[z];exact d b u e
  .exact d c _ z
def Inv.tok(I:Inv X ac σ H s)(t:Nat):Inv X ac σ H {s with toks:=t}:=I.un (h':=s.heap) (t':=t) Un.refl I.aW
theorem Inv.kept(I:Inv X ac σ H s)(k:∀b u,s.heap.get? b=some u->h'.get? b=some u):Inv X ac σ H {s with heap:=h',toks:=t'}:=I.un (Un.kept k) (I.aW.kept k)
theorem Inv.laid(I:Inv X ac σ H s)(k:∀b u,s.heap.get? b=some u->h'.get? b=some u)(c:s.heap.objs.size<=a)(new:ObjOk X.prog X.w (upd H a o) h' a o) :
 Inv X ac σ (upd H a o) {s with heap:=h',toks:=t'}:=I.un (Un.laid k c (I.aW.fresh c)) (I.aW.laid k c new)
theorem Inv.write(I:Inv X ac σ H s)(c:JC (H x))(d:e=x\/H e=some (.own x))(k:∀b u,b≠e->s.heap.get? b=some u->h'.get? b=some u)(a:∃u,h'.get? e=some u)
 (new:ObjOk X.prog X.w (upd H x o) h' x o):Inv X ac σ (upd H x o) {s with heap:=h',toks:=t'}:=I.un (Un.write c d k a) (I.aW.write c d k a new)
def Inv.xg(I:Inv X ac σ H s)(h:∀p∈pins',s.heap.get? p.1=some p.2/\H p.1=none/\p.1≠X.env.locals/\p.1∉X.fs/\∀v,p.2.data≠.cell v):Inv X pins' σ H s:=⟨I.ok,I.os,I.bare,I.base,I.loc,I.cell,I.free,I.gk,λp a=>(Rj.mp a).elim (λz=>I.pin p (RD _ z)) (h p),I.aW,I.len⟩
def rj{N:List Str}(c:N.Nodup){i j:Nat}{x:Str}(a:N[i]?=some x)(b:N[j]?=some x):i=j:=by obtain⟨h1,e1⟩:=Q2.mp a;obtain⟨h2,e2⟩:=Q2.mp b;exact(List.getElem_inj c).mp (e1.trans e2.symm)
def oJ{E:Vz->Vw->Prop}{x:Str}{v:V}{u:Vz}{Q:Unit->Vw->Prop}(I:Inv X ac σ H s)(hN:X.N.Nodup)(F:X.N[i]?=some x)(l:JD X.env.scope x)(r:RelV v u)
 (h:∀O,Inv X ac (σ.set i (some v)) H O->(∃a,Heap.SameBut a s.heap O.heap/\(a=X.env.locals\/X.env.cells.lookup x=some a))->Q () O) (hf:autoParam (X.fn x=true\/X.env.scope.names.lookup x=some .local) ae):wpAny M A (storeName X.env x u) Q E s:=by
 obtain⟨m,P,hl⟩:=id I.loc;have G:(X.env.scope.kind==.class ||(X.env.scope.kind==.module&&X.env.locals != X.env.globals))=false:=by rw[I.ok.kind];rfl
 have B:i<σ.length:=by rw[I.len];exact(Q2.mp F).1
 have JB:=I.JB;have g:∀{a:Addr}{h':Heap},(∃o,s.heap.get? a=some o/\H a=none)->Heap.SameBut a s.heap h'->HOk X.prog X.w H h':=λ{a h'} ha f b ob e=>by
  obtain⟨_,_,R⟩:=ha;refine(I.aW b ob e).stay (λc S t q=>(f.2 c ?_).trans q) (λ_ q=>q) λ_ _ q=>q
  grind
 rcases l with hk|hk
 .refine wpAny_storeName_local hk P (λh' T f=>?_) G;obtain⟨oL,_,_,U,_⟩:=id P;refine h _ ⟨I.ok,I.os,I.bare,⟨λb o e n hb l=>?_,λb o e n hb l=>?_,I.base.free,λb o e l=>?_,I.base.nW,I.base.lP,I.base.tR⟩,⟨_,T,λj y W e1 e2 e3=>?_⟩,λy c e=>?_,I.free,I.gk,λp Y=>?_,g ⟨oL,U,I.free⟩ f,by simpa using I.len⟩ ⟨_,f,.inl rfl⟩
  .exact(f.2 b (Rt (RU (Rc e) I.ok.above))).trans (I.base.keep b o e n hb l)
  .obtain⟨sl,e1⟩:=I.base.slot b o e n hb l;exact⟨sl,(f.2 b (Rt (RU (Rc e) I.ok.above))).trans e1⟩
  .obtain⟨Z,e1⟩:=I.base.there b o e l;exact⟨Z,(f.2 b (Rt (RU (Rc e) I.ok.above))).trans e1⟩
  .by_cases C:j=i
   .subst C;rw[F]at e1;cases e1;rw[SH B]at e2;cases e2;exact⟨u,r,.inl ⟨hk,by simp⟩⟩
   .rw[Tg (Si C)]at e2;obtain⟨u',r',q⟩:=hl j y W e1 e2 e3;refine⟨u',r',?_⟩;rcases q with⟨k,e⟩|⟨k,c,e,z⟩
    .refine .inl ⟨k,?_⟩;have:y≠x:=λe=>C (rj hN e1 (e▸F));simp[this,e]
    .exact .inr ⟨k,c,e,z.sameBut f (JB y c e)⟩
  .obtain⟨S,z⟩:=I.cell y c e;exact⟨S,z.sameBut f (JB y c e)⟩
  .obtain⟨e,n,ne,nf,d⟩:=I.pin p Y;exact⟨(f.2 p.1 ne).trans e,n,ne,nf,d⟩
 .have D:X.fn x=true:=by
   rcases hf with z|z
   .exact z
   .rw[z]at hk;cases hk
  obtain⟨c,t⟩:=I.ok.has x (.inl hk);obtain⟨S,z⟩:=I.cell x c t;refine wpAny_storeName_cell I.ok.kind hk t z (λh' J f=>?_);obtain⟨oc,hoc,hocd⟩:=id z;refine h {s with heap:=h'} ⟨I.ok,I.os,I.bare,⟨λb o e n hb l=>?_,λb o e n hb l=>?_,I.base.free,λb o e l=>?_,I.base.nW,I.base.lP,I.base.tR⟩,⟨m,P.sameBut f (Si (JB x c t)),λj y W e1 e2 e3=>?_⟩,λy L e=>?_,I.free,I.gk,λp Y=>?_,g ⟨oc,hoc,I.gk x c t⟩ f,by simpa using I.len⟩ ⟨c,f,.inr t⟩
  .exact(f.2 b (Rt (RU (Rc e) (I.ok.JR x c D t)))).trans (I.base.keep b o e n hb l)
  .obtain⟨sl,e1⟩:=I.base.slot b o e n hb l;exact⟨sl,(f.2 b (Rt (RU (Rc e) (I.ok.JR x c D t)))).trans e1⟩
  .obtain⟨Z,e1⟩:=I.base.there b o e l;exact⟨Z,(f.2 b (Rt (RU (Rc e) (I.ok.JR x c D t)))).trans e1⟩
  .by_cases C:j=i
   .subst C;rw[F]at e1;cases e1;rw[SH B]at e2;cases e2;exact⟨u,r,.inr ⟨.inl hk,c,t,J⟩⟩
   .rw[Tg (Si C)]at e2;obtain⟨u',r',q⟩:=hl j y W e1 e2 e3;refine⟨u',r',?_⟩;rcases q with q|⟨k,L,e,z'⟩
    .exact .inl q
    .refine .inr ⟨k,L,e,z'.sameBut f ?_⟩;rintro rfl;exact C (rj hN e1 (I.ok.inj _ _ _ e t▸F))
  .by_cases K:L=c
   .subst K;exact⟨_,J⟩
   .obtain⟨w2,z2⟩:=I.cell y L e;exact⟨w2,z2.sameBut f K⟩
  .obtain⟨e,n,ne,nf,d⟩:=I.pin p Y;refine⟨(f.2 p.1 ?_).trans e,n,ne,nf,d⟩
   grind
def rk(I:Inv X ac σ H s)(b:X.N.Nodup)(c:X.N[i]?=some x)(d:JD X.env.scope x)(r:RelV v u)
 (h:∀a,Inv X ac (σ.set i (some v)) H a->Q () a) (e:autoParam (X.fn x=true\/X.env.scope.names.lookup x=some .local) ae):wpAny M A (storeName X.env x u) Q E s:=
 oJ I b c d r (λa f _=>h a f) e
def Inv.M4(I:Inv X ac σ H s)(d:s'.os=s.os)(u:Un (zg X.stack) ch H H' s.heap s'.heap)(aW:HOk X.prog X.w H' s'.heap)(f:AllBare s'.gens)
 (a:∀b∈ch,(b∈X.ex\/X.s₀.heap.objs.size<=b)/\b≠X.env.locals/\(∀x c,X.env.cells.lookup x=some c->c≠b)/\∀p∈X.pn++ac,p.1≠b):Inv X ac σ H' s':=by
 obtain⟨h',g',d',t',g⟩:=s';have e:g=s.os:=d;subst e;exact I.call (g':=g') (t':=t') (d':=d') u aW f a
end
abbrev XK:=Vz->Option Addr->Hp->Prop
noncomputable abbrev St:=List (Option V)
abbrev VK:=V->Hp->Prop
abbrev TE:=St->Hp->VK->Prop
abbrev TT:=St->Hp->(Bool->Hp->Prop)->Prop
abbrev TA:=St->Hp->(List V->Hp->Prop)->Prop
structure Ends where
 nx:St->Hp->Prop
 rt:VK
 bk:St->Hp->Prop:=λ_ _=>False
 ct:St->Hp->Prop:=λ_ _=>False
abbrev TS:=Ends->St->Hp->Prop
def EP(X:Cx)(ac:List (Addr×Obj))(σ:St)(Q:VK)(u:Vz)(a:Vw):Prop:=∃v H',Inv X ac σ H' a/\RelV v u/\Q v H'
def TP(X:Cx)(ac:List (Addr×Obj))(σ:St)(Q:Bool->Hp->Prop)(b:Bool)(a:Vw):Prop:=∃H',Inv X ac σ H' a/\Q b H'
def AP(X:Cx)(ac:List (Addr×Obj))(σ:St)(Q:List V->Hp->Prop)(us:List Vz)(a:Vw):Prop:=∃vs H',Inv X ac σ H' a/\Vals vs us/\Q vs H'
def SP(X:Cx)(ac:List (Addr×Obj))(D:Ends)(f:Flow)(b:Vw):Prop:=
 match f with
 |.next=>∃a H',Inv X ac a H' b/\D.nx a H'
 |.brk=>∃a H',Inv X ac a H' b/\D.bk a H'
 |.cont=>∃a H',Inv X ac a H' b/\D.ct a H'
 |.ret u=>∃v a H',Inv X ac a H' b/\RelV v u/\D.rt v H'
def PE(X:Cx)(e:Expr)(t:TE):Prop:=∀(ac:List (Addr×Obj))(s:Vw)(σ:St)(H:Hp)(Q:VK),Inv X ac σ H s->t σ H Q->wpAny (model X.prog X.w) X.A (eval e X.env) (EP X ac σ Q) X.xe s
def PT(X:Cx)(e:Expr)(t:TT):Prop:=∀(ac:List (Addr×Obj))(s:Vw)(σ:St)(H:Hp)(Q:Bool->Hp->Prop),Inv X ac σ H s->t σ H Q->wpAny (model X.prog X.w) X.A (isTrue e X.env (eval e X.env)) (TP X ac σ Q) X.xe s
def PW(X:Cx)(e:Expr)(t:TT):Prop:=∀(a:Sem Vz)(ac:List (Addr×Obj))(s:Vw)(σ:St)(H:Hp)(Q:Bool->Hp->Prop),Inv X ac σ H s->t σ H Q->wpAny (model X.prog X.w) X.A (isTrue e X.env a) (TP X ac σ Q) X.xe s
def PW.pt(h:PW X e t):PT X e t:=h _
def PA(X:Cx)(es:List Expr)(t:TA):Prop:=∀(a:Pos)(ac:List (Addr×Obj))(s:Vw)(σ:St)(H:Hp)(Q:List V->Hp->Prop),Inv X ac σ H s->t σ H Q->wpAny (model X.prog X.w) X.A (spliced (backTo a (starEach es X.env))) (AP X ac σ Q) X.xe s
def PS(X:Cx)(st:Stmt)(t:TS):Prop:=∀(ac:List (Addr×Obj))(s:Vw)(σ:St)(H:Hp)(D:Ends),Inv X ac σ H s->t D σ H->wpAny (model X.prog X.w) X.A (exec st X.env) (SP X ac D) X.xe s
def PSs(X:Cx)(st:List Stmt)(t:TS):Prop:=∀(ac:List (Addr×Obj))(s:Vw)(σ:St)(H:Hp)(D:Ends),Inv X ac σ H s->t D σ H->wpAny (model X.prog X.w) X.A (execs st X.env) (SP X ac D) X.xe s
def cc{α:Type}{t:Sem α}{Q b:α->Vw->Prop}{M:Model}{A:VA}{E:Vz->Vw->Prop}{s:Vw}(h:wpAny M A t Q E s)(c:∀a s,Q a s->b a s):wpAny M A t b E s:=S3 h c λ_ _ x=>x
section
variable{X:Cx}
noncomputable def au(i:Nat):TE:=λσ H Q=>∃v,σ[i]?=some (some v)/\Q v H
noncomputable def tC(v:V):TE:=λ_ H Q=>Q v H
def Gs(g:X.N[i]?=some x)(j:M9 X.env.scope x)(hd:autoParam (dB x) ab) (d:autoParam ((x==("__classdict__" : Str))=false) ab):PE X (.Name x pos) (au i):=by
 intro ac s σ H Q I h;obtain⟨v,e,h⟩:=h;obtain⟨m,k,n⟩:=I.loc;obtain⟨u,r,l⟩:=n i x v g e j;have b:EP X ac σ Q u s:=⟨v,H,I,r,h⟩;rcases l with⟨hk,hm⟩|⟨hk,c,f,a⟩
 .exact wpAny_Name (wpAny_loadName_local I.ok.kind hk k hm b) hd
 .rcases hk with hk|hk
  .exact wpAny_Name (wpAny_loadName_cell I.ok.kind hk f a b) hd
  .exact wpAny_Name (wpAny_loadName_free I.ok.kind hk f a b d) hd
def ay{i j pos}:PE X (.Constant (.int i) j pos) (tC (.int i)):=λ_ _ _ H _ I h=>wpAny_Constant_int ⟨.int i,H,I.tok _,⟨_,rfl⟩,h⟩
def iZ{b j pos}:PE X (.Constant (.bool b) j pos) (tC (.bl b)):=λ_ _ _ H _ I h=>Constant_bool ⟨.bl b,H,I,rfl,h⟩
def kr{j pos}:PE X (.Constant .none j pos) (tC .bz):=λ_ _ _ H _ I h=>Constant_none ⟨.bz,H,I,rfl,h⟩
def Gl(X:Cx)(x:Str):Prop:=X.env.kindOf x=some .globalImplicit
def pF(I:Inv X ac σ H s)(a:Gl X x)(hm:X.mg x=some u)(h:Q u s)
 (hd:autoParam (dB x) ab):wX X (eval (.Name x pos) X.env) Q E s:=
 Calls.Name_function_global I.ok.kind a (Calls.loadGlobal_global (by rw[I.ok.glob];exact I.mod.glob.keeps I.bk) hm h) hd
def ml(I:Inv X ac σ H s)(a:Gl X x)(hm:X.mg x=none)(b:bootBuiltins x=some u)(h:Q u s)
 (c:autoParam (x≠"__name__") ab) (hd:autoParam (dB x) ab):wX X (eval (.Name x pos) X.env) Q E s:=by
 obtain⟨d,h1,h2⟩:=I.mod.blt;exact Calls.Name_function_global I.ok.kind a (Calls.loadGlobal_builtin (by rw[I.ok.glob];exact I.mod.glob.keeps I.bk) hm (by rw[I.ok.blt];exact h1.keeps I.bk) ((h2 x c).trans b) h) hd
def pG(a:Gl X x)(hm:X.mg x=none)(b:bootBuiltins x=some u)(r:RelV v u)(c:autoParam (x≠"__name__") ab) (hd:autoParam (dB x) ab):PE X (.Name x pos) (tC v):=λ_ _ _ H _ I h=>ml I a hm b ⟨v,H,I,r,h⟩ c hd
variable{a b:Expr}{ta tb:TE}{pos:Pos}
def PC(X:Cx)(op:CmpOp)(a b:Expr)(t:TE):Prop:=
 ∀(ac:List (Addr×Obj))(s:Vw)(σ:St)(H:Hp)(Q:VK),Inv X ac σ H s->t σ H Q->
  wpAny (model X.prog X.w) X.A (eval a X.env) (λv c=>wpAny (model X.prog X.w) X.A (eval b X.env) (λu d=>wpAny (model X.prog X.w) X.A (compareOp op v u) (EP X ac σ Q) X.xe d) X.xe c) X.xe s
theorem zh(b:Expr)(h:op≠.In)(h2:op≠.NotIn):behindInMarks op b=false:=by
 have e1:(op==CmpOp.In)=false:=by cases op<;>first|rfl|exact absurd rfl h
 have e2:(op==CmpOp.NotIn)=false:=by cases op<;>first|rfl|exact absurd rfl h2
 cases b<;>simp[behindInMarks,e1,e2]
noncomputable def FA(ta:TE):TE:=λσ H Q=>ta σ H λx H1=>Q (.bl (!decide (x=.bz))) H1
def RelV.CL(r:RelV x v):(v==Value.none)=decide (x=.bz):=by
 cases x with
 |bz=>cases r;rfl
 |bl _=>cases r;rfl
 |int _=>obtain⟨t,rfl⟩:=r;rfl
 |str _=>obtain⟨t,rfl⟩:=r;rfl
 |vE _=>obtain⟨t,rfl⟩:=r;rfl
 |Gh _=>obtain⟨t,rfl⟩:=r;rfl
 |ref _=>cases r;rfl
 |ty _=>cases r;rfl
def Dv{j pos'}(ha:PE X a ta):PC X .IsNot a (.Constant .none j pos') (FA ta):=by intro ac s σ H Q I h;refine cc (ha ac s σ H _ I h) λv s1 ⟨x,H1,c,d,q1⟩=>?_;exact Constant_none (isnot_none_gen ⟨.bl _,H1,c,by rw[d.CL];rfl,q1⟩)
noncomputable def tB(t:TE):TT:=λσ H Q=>t σ H λx H1=>∃c,x=.bl c/\Q c H1
theorem Gu(h:PC X op a b t)(h1:behindInMarks op b=false:=by first|exact zh _ (by decide) (by decide)|rfl):PT X (.Compare a [op] [b] pos) (tB t):=by intro ac s σ H Q I e;refine wpAny_isTrue_Compare1 (cc (h ac s σ H _ I e) λv s1 h1=>cc h1 λu s2 h2=>cc h2 λc i ⟨x,H1,f,g,q1⟩=>?_) h1;obtain⟨d,rfl,q⟩:=q1;cases g;exact SR ⟨H1,f,q⟩
def ku(h:PE X e t)(f:autoParam (∀c,isTrue e X.env c=(do let v <- c;standAt e.pos;holding [v] (truthy v))) az):PT X e (tB t):=by intro ac s σ H Q I g;refine isTrue_plain (cc (h ac s σ H _ I g) λv s1 ⟨x,H1,i,j,q1⟩=>?_) (f _);obtain⟨d,rfl,q⟩:=q1;cases j;exact SR ⟨H1,i,q⟩
variable{tA tB':TT}{rest:List Expr}
noncomputable def Dw(t u:TT):TT:=λσ H Q=>t σ H λc H1=>if c=true then u σ H1 Q else Q false H1
noncomputable def FC(t u:TT):TT:=λσ H Q=>t σ H λc H1=>if c=true then Q true H1 else u σ H1 Q
noncomputable def rn(t:TT):TT:=λσ H Q=>t σ H λc H1=>Q (!c) H1
def pH(ha:PT X a tA):PW X (.BoolOp .And [a] pos) tA:=by
 intro d ac s σ H Q I h;refine isTrue_and (cc (ha ac s σ H Q I h) λc s1 e=>?_);cases c with
 |true=>exact isTrue_and_nil e
 |false=>exact e
def kz(ha:PT X a tA):PW X (.BoolOp .Or [a] pos) tA:=by
 intro d ac s σ H Q I h;refine isTrue_or (cc (ha ac s σ H Q I h) λc s1 e=>?_);cases c with
 |false=>exact isTrue_or_nil e
 |true=>exact e
theorem ud(ha:PT X a tA)(hb:PW X (.BoolOp .And (b::rest) pos) tB'):PW X (.BoolOp .And (a::b::rest) pos) (Dw tA tB'):=by
 intro e ac s σ H Q I h;refine isTrue_and (cc (ha ac s σ H _ I h) λc s1 ⟨H1,d,q1⟩=>?_);cases c with
 |true=>exact hb e ac s1 σ H1 Q d q1
 |false=>exact⟨H1,d,q1⟩
theorem mn(ha:PT X a tA)(hb:PW X (.BoolOp .Or (b::rest) pos) tB'):PW X (.BoolOp .Or (a::b::rest) pos) (FC tA tB'):=by
 intro e ac s σ H Q I h;refine isTrue_or (cc (ha ac s σ H _ I h) λc s1 ⟨H1,d,q1⟩=>?_);cases c with
 |true=>exact⟨H1,d,q1⟩
 |false=>exact hb e ac s1 σ H1 Q d q1
def je(ha:PT X a tA):PT X (.UnaryOp .Not a pos) (rn tA):=by intro ac s σ H Q I h;exact isTrue_not (ha ac s σ H (λc H1=>Q (!c) H1) I h)
noncomputable def FD(ta tb:TE):TE:=λσ H Q=>ta σ H λx H1=>∃c,x=.bl c/\if c=true then tb σ H1 Q else Q (.bl false) H1
noncomputable def JT(ta tb:TE):TE:=λσ H Q=>ta σ H λx H1=>∃c,x=.bl c/\if c=true then Q (.bl true) H1 else tb σ H1 Q
noncomputable def zi(ta:TE):TE:=λσ H Q=>ta σ H λx H1=>∃c,x=.bl c/\Q (.bl (!c)) H1
def uf{op}(h:PE X a t):PE X (.BoolOp op [a] pos) t:=λac s σ H Q I c=>BoolOp_one (h ac s σ H Q I c)
theorem zj(ha:PE X a ta)(hb:PE X (.BoolOp .And (b::rest) pos) tb):PE X (.BoolOp .And (a::b::rest) pos) (FD ta tb):=by
 intro ac s σ H Q I h;refine BoolOp_and (cc (ha ac s σ H _ I h) λv s1 ⟨x,H1,d,e,q1⟩=>?_);obtain⟨c,rfl,q1⟩:=q1;cases e;refine SR ?_;cases c with
 |true=>exact hb ac s1 σ H1 Q d q1
 |false=>exact⟨.bl false,H1,d,rfl,q1⟩
theorem JU(ha:PE X a ta)(hb:PE X (.BoolOp .Or (b::rest) pos) tb):PE X (.BoolOp .Or (a::b::rest) pos) (JT ta tb):=by
 intro ac s σ H Q I h;refine BoolOp_or (cc (ha ac s σ H _ I h) λv s1 ⟨x,H1,d,e,q1⟩=>?_);obtain⟨c,rfl,q1⟩:=q1;cases e;refine SR ?_;cases c with
 |false=>exact hb ac s1 σ H1 Q d q1
 |true=>exact⟨.bl true,H1,d,rfl,q1⟩
def ug(ha:PE X a ta):PE X (.UnaryOp .Not a pos) (zi ta):=by intro ac s σ H Q I h;refine UnaryOp_ (cc (ha ac s σ H _ I h) λv s1 ⟨x,H1,d,e,q1⟩=>?_);obtain⟨c,rfl,q1⟩:=q1;cases e;exact not_of (SR ⟨.bl (!c),H1,d,rfl,q1⟩)
end
def SqL(K:Vx)(H:Hp)(a:Addr)(xs:List V):Prop:=
 Rd H a (.lst xs)\/
  ∃(o:Obj)(its:Array Vz)(n:Nat),K.lookup a=some o/\o.cls=.type "list"/\o.dict=none/\o.data=.seq its n/\its.size<=sizeLine/\Vals xs its.toList
def SqT(K:Vx)(H:Hp)(a:Addr)(xs:List V):Prop:=
 Rd H a (.tup xs)\/
  ∃(o:Obj)(its:Array Vz)(n:Nat),K.lookup a=some o/\o.cls=.type "tuple"/\o.data=.seq its n/\its.size<=sizeLine/\Vals xs its.toList
noncomputable def Nt:Vz->Option V
 |.none=>some .bz
 |.bool b=>some (.bl b)
 |.int i _=>some (.int i)
 |.str x _=>some (.str x)
 |.bytes b _=>some (.vE b)
 |.float b _=>some (.Gh b)
 |.ref a=>some (.ref a)
 |.type n=>some (.ty n)
 |_=>none
def RelV.abs(r:RelV x u):Nt u=some x:=by
 cases x with
 |bz=>cases r;rfl
 |bl _=>cases r;rfl
 |int _=>obtain⟨t,rfl⟩:=r;rfl
 |str _=>obtain⟨t,rfl⟩:=r;rfl
 |vE _=>obtain⟨t,rfl⟩:=r;rfl
 |Gh _=>obtain⟨t,rfl⟩:=r;rfl
 |ref _=>cases r;rfl
 |ty _=>cases r;rfl
def RelV.inj(r:RelV x u)(q:RelV y u):x=y:=R0 (r.abs.symm.trans q.abs)
theorem Vals.inj{xs a:List V}{us:List Vz}(h:Vals xs us)(k:Vals a us):xs=a:=by
 induction h generalizing a with
 |nil=>cases k;rfl
 |cons r _ b=>
  cases k with
  |cons c t'=>rw[r.inj c,b t']
section
def SqL.of{K:Vx}(h:H a=some (.lst xs)):SqL K H a xs:=.inl (.inl h)
def SqT.of{K:Vx}(h:H a=some (.tup xs)):SqT K H a xs:=.inl (.inl h)
def Inv.list(I:Inv X ac σ H s)(h:SqL X.K H a xs):∃its:List Vz,Vals xs its/\PlainL s.heap a its.toArray/\xs.length<=sizeLine:=by
 rcases h with h|⟨o,its,n,b,c,hd,d,hz,r⟩
 .obtain⟨z,its,n,r,e⟩:=h.ok I.aW;exact⟨its,r,⟨_,n,e,rfl,rfl,rfl⟩,z⟩
 .refine⟨its.toList,r,⟨o,n,I.lg a o b,c,hd,by simpa using d⟩,?_⟩;have e:=r.length;simp only[Sn]at e;lia
def Inv.tuple(I:Inv X ac σ H s)(h:SqT X.K H a xs):∃its:List Vz,Vals xs its/\IsTup s.heap a its.toArray/\xs.length<=sizeLine:=by
 rcases h with h|⟨o,its,n,b,c,d,hz,r⟩
 .obtain⟨z,its,r,p⟩:=h.ok I.aW;exact⟨its,r,p,z⟩
 .refine⟨its.toList,r,⟨o,I.lg a o b,c,n,by simpa using d⟩,?_⟩;have e:=r.length;simp only[Sn]at e;lia
def Inv.tY(I:Inv X ac σ H s)(h:SqL X.K H a xs)(h':SqL X.K H a ys):xs=ys:=by
 obtain⟨its,r,⟨o,n,e,_,_,d⟩,_⟩:=I.list h;obtain⟨its',c,⟨f,g,b,_,_,d'⟩,_⟩:=I.list h';rw[e]at b;cases b;rw[d]at d';injection d' with d1 _;have:its=its':=by simpa using Sy Array.toList d1
 subst this;exact r.inj c
end
noncomputable abbrev Cx.oH(X:Cx)(E:Vz->Vw->Prop):Cx:={X with xe:=E}
abbrev Cx.MU(X:Cx):Cx:=X.oH λ_ _=>False
theorem Cx.Ok.oH{X:Cx}(ok:X.Ok)(E:Vz->Vw->Prop):(X.oH E).Ok:=⟨ok.mod,ok.kind,ok.glob,ok.blt,ok.above,ok.inj,ok.has,ok.JR,ok.hd,ok.frames,ok.bq,ok.O9,ok.bs,ok.CZ,ok.yX,ok.Cw,ok.k_,ok.Gj,ok.kt⟩
def Cx.Ok.iu{X:Cx}{E:Vz->Vw->Prop}(ok:(X.oH E).Ok):X.Ok:=⟨ok.mod,ok.kind,ok.glob,ok.blt,ok.above,ok.inj,ok.has,ok.JR,ok.hd,ok.frames,ok.bq,ok.O9,ok.bs,ok.CZ,ok.yX,ok.Cw,ok.k_,ok.Gj,ok.kt⟩
section
theorem Inv.oH(I:Inv X ac σ H s)(E:Vz->Vw->Prop):Inv (X.oH E) ac σ H s:=⟨I.ok.oH E,I.os,I.bare,I.base,I.loc,I.cell,I.free,I.gk,I.pin,I.aW,I.len⟩
theorem Inv.iu(I:Inv (X.oH E) ac σ H s):Inv X ac σ H s:=⟨I.ok.iu,I.os,I.bare,I.base,I.loc,I.cell,I.free,I.gk,I.pin,I.aW,I.len⟩
theorem SP.iu(h:SP (X.oH E) ac D f s'):SP X ac D f s':=by
 cases f with
 |next=>obtain⟨a,H',I,q⟩:=h;exact⟨a,H',I.iu,q⟩
 |brk=>obtain⟨a,H',I,q⟩:=h;exact⟨a,H',I.iu,q⟩
 |cont=>obtain⟨a,H',I,q⟩:=h;exact⟨a,H',I.iu,q⟩
 |ret u=>obtain⟨v,a,H',I,r,q⟩:=h;exact⟨v,a,H',I.iu,r,q⟩
theorem PSs.MU{st:List Stmt}(h:PSs X.MU st t):PSs X st t:=λac s σ H D I a=>S3 (h ac s σ H D (I.oH _) a) (λ_ _ q=>q.iu) λ_ _ z=>False.elim z
end
section
variable{X:Cx}{st:Stmt}{rest:List Stmt}{t u:TS}
noncomputable def cq:TS:=λD σ H=>D.nx σ H
noncomputable def aK(t u:TS):TS:=λD σ H=>t {D with nx:=u D} σ H
def bC:PSs X [] cq:=λ_ _ σ H _ I h=>U7 ⟨σ,H,I,h⟩
theorem av(h1:PS X st t)(h2:PSs X rest u):PSs X (st::rest) (aK t u):=by
 intro ac s σ H D I h;refine wpAny_execs_cons (cc (h1 ac s σ H {D with nx:=u D} I h) λf s1 q=>?_);cases f with
 |next=>obtain⟨a,H',b,q⟩:=q;exact h2 ac s1 a H' D b q
 |ret v=>exact q
 |brk=>exact q
 |cont=>exact q
def aB(h1:PS X st t):PSs X [st] t:=by
 intro ac s σ H D I h;refine wpAny_execs_cons (cc (h1 ac s σ H D I h) λf s1 q=>?_);cases f with
 |next=>exact U7 q
 |ret v=>exact q
 |brk=>exact q
 |cont=>exact q
def Inv.quiet(I:Inv X ac σ H s):interactive X.env=false:=by simp[interactive,I.ok.kind]
noncomputable def b8(te:TE):TS:=λD σ H=>te σ H λ_ H1=>D.nx σ H1
def bh(a:PE X e te)(b:autoParam (swapsWith e none pos.line X.env=pure false) aM):PS X (.Expr e pos) (b8 te):=by intro ac s σ H D I h;exact wpAny_Expr_any (cc (a ac s σ H _ I h) λv s1 ⟨x,H1,c,d,q1⟩=>⟨σ,H1,c,q1⟩) I.quiet b
noncomputable def cL(te:TE):TS:=λD σ H=>te σ H D.rt
def ba(a:PE X e te):PS X (.Return (some e) pos) (cL te):=by intro ac s σ H D I h;exact wpAny_Return_some (cc (a ac s σ H _ I h) λv s1 ⟨x,H1,b,c,q1⟩=>⟨x,σ,H1,b,c,q1⟩)
noncomputable def d8(c:TT)(t u:TS):TS:=λD σ H=>c σ H λb H1=>if b=true then t D σ H1 else u D σ H1
def cr(f:PT X c tc)(ha:PSs X a t)(hb:PSs X b u):PS X (.If c a b pos) (d8 tc t u):=by
 intro ac s σ H D I h;refine wpAny_If (cc (f ac s σ H _ I h) λd s1 ⟨H1,e,q1⟩=>?_);cases d with
 |true=>exact ha ac s1 σ H1 D e q1
 |false=>exact hb ac s1 σ H1 D e q1
end
abbrev TG:=V->St->Hp->(St->Hp->Prop)->Prop
abbrev JV:=List V->St->Hp->(St->Hp->Prop)->Prop
def PG(X:Cx)(a:Expr)(t:TG):Prop:=
 ∀(ac:List (Addr×Obj))(s:Vw)(σ:St)(H:Hp)(v:V)(u:Vz)(Q:St->Hp->Prop),Inv X ac σ H s->RelV v u->t v σ H Q->
  wpAny (model X.prog X.w) X.A (assign a X.env u) (λ_ c=>∃b H',Inv X ac b H' c/\Q b H') X.xe s
def M_(X:Cx)(b:List Expr)(t:JV):Prop:=
 ∀(ac:List (Addr×Obj))(s:Vw)(σ:St)(H:Hp)(vs:List V)(us:List Vz)(Q:St->Hp->Prop),Inv X ac σ H s->Vals vs us->t vs σ H Q->
  wpAny (model X.prog X.w) X.A (assignInOrder ((assignEach b X.env).map (·.2)) us) (λ_ c=>∃a H',Inv X ac a H' c/\Q a H') X.xe s
section
noncomputable def aA(i:Nat):TG:=λv σ H Q=>Q (σ.set i (some v)) H
def aI(a:X.N.Nodup)(b:X.N[i]?=some x)(c:JD X.env.scope x)(d:autoParam (X.fn x=true\/X.env.scope.names.lookup x=some .local) ae):PG X (.Name x pos) (aA i):=by intro ac s σ H v u Q I r h;exact wpAny_assign_Name (rk I a b c r (λf e=>⟨_,H,e,h⟩) d)
noncomputable def dP:JV:=λvs σ H Q=>vs=[]/\Q σ H
noncomputable def aX(t:TG)(u:JV):JV:=λvs σ H Q=>∃v r,vs=v::r/\t v σ H λa H'=>u r a H' Q
def cE:M_ X [] dP:=by intro ac s σ H vs us Q I r h;obtain⟨e,h⟩:=h;subst e;cases r;exact assignInOrder_nil ⟨σ,H,I,h⟩
def aU(h1:PG X e t)(h2:M_ X es u)
 (b:autoParam ((assignEach (e::es) X.env).map (·.2)=assign e X.env::(assignEach es X.env).map (·.2)) aM):M_ X (e::es) (aX t u):=by
 intro ac s σ H vs us Q I r h;obtain⟨v,f,e1,h⟩:=h;subst e1;cases r with
 |cons r c=>rw[b];refine assignInOrder_cons (cc (h1 ac s σ H _ _ _ I r h) λ_ s1 ⟨a,H1,d,q1⟩=>?_);exact h2 ac s1 a H1 _ _ Q d c q1
noncomputable def dQ(K:Vx)(n:Nat)(t:JV):TG:=λv σ H Q=>∃a xs,v=.ref a/\SqT K H a xs/\xs.length=n/\t xs σ H Q
def dF(g:X.calm=true)(h:M_ X es t)
 (i:autoParam ((assignEach es X.env).length=n) aM) (c:autoParam ((assignEach es X.env).findIdx? (·.1)=none) aM):PG X (.Tuple es k pos) (dQ X.K n t):=by
 intro ac s σ H v u Q I r d;obtain⟨a,xs,e1,j,l,d⟩:=d;subst e1;cases r;obtain⟨its,f,m,hz⟩:=I.tuple j;refine assign_Tuple_tuple (I.ok.hd g) m (by simp[i,<- l,f.length]) c λh' p=>?_;have q:Inv X ac σ H {s with heap:=h'}:=I.kept (t':=s.toks) λb o e=>p b o (Rt (Rc e)) e;exact h ac _ σ H xs _ Q q (by simpa using f) d
noncomputable def bb(te:TE)(g:TG):TS:=λD σ H=>te σ H λx H1=>g x σ H1 D.nx
def aH(a:X.N.Nodup)(b:X.N[i]?=some x)(c:JD X.env.scope x)(d:PE X e te)(f:autoParam (swapsWith e (some (.Name x pos')) pos.line X.env=pure false) aM)(g:autoParam (X.fn x=true\/X.env.scope.names.lookup x=some .local) ae) :
 PS X (.Assign [.Name x pos'] e pos) (bb te (aA i)):=by
 intro ac s σ H D I h;refine wpAny_Assign_Name (cc (d ac s σ H _ I h) λv s1 ⟨y,H1,j,k,q1⟩=>?_) f;exact rk j a b c k (λs2 l=>⟨_,H1,l,q1⟩) g
end
section
def kA(c:TT)(tb:TS):TS:=λD σ H=>∃W:Nat->St->Hp->Prop,(∃m,W m σ H)/\∀m σ H,W m σ H->
 c σ H λb H1=>if b=true then ∃N:St->Hp->Prop,(∀a H',N a H'->∃d,d<m/\W d a H')/\tb {D with nx:=N,ct:=N,bk:=D.nx} σ H1 else D.nx σ H1
def g6(m:PassesOwn (model X.prog X.w) X.A X.env X.xe)(r:PT X c tc)(hb:PSs X body tb):PS X (.While c body [] pos) (kA tc tb):=by
 intro ac s σ H D I h;obtain⟨W,⟨m0,t⟩,turn⟩:=h;refine wpAny_While (codeAny_whileLoop (λn u=>∃e H',Inv X ac e H' u/\W n e H') ?_ m0 ⟨σ,H,I,t⟩);rintro n s1 ⟨d,H1,x,y⟩;refine TH m (cc (r ac s1 d H1 _ x (turn n d H1 y)) λb s2 ⟨o,p,q2⟩=>?_);cases b with
 |true=>
  obtain⟨N,q,q2⟩:=q2;rw[Re rfl];refine TH m (cc (hb ac s2 d o _ p q2) λf z g=>?_);cases f with
  |next=>obtain⟨a,H3,i,j⟩:=g;obtain⟨k,hm,l⟩:=q a H3 j;exact⟨k,hm,a,H3,i,l⟩
  |cont=>obtain⟨a,H3,i,j⟩:=g;obtain⟨k,hm,l⟩:=q a H3 j;exact⟨k,hm,a,H3,i,l⟩
  |brk=>exact g
  |ret v=>exact g
 |false=>rw[Rf RF];exact U7 ⟨d,o,p,q2⟩
end
structure It where
 go:Nat->Hp->Prop
 Cv:Nat->Hp->V->Hp->Prop
 stop:Nat->Hp->Prop
def iS(X:Cx)(ac:List (Addr×Obj))(H:Hp)(b:Addr):Prop:=H b=none/\b≠X.env.locals/\b∉X.fs/\(b∈X.ex\/X.s₀.heap.objs.size<=b)/\(∀x c,X.env.cells.lookup x=some c->c≠b)/\∀p∈X.pn++ac,p.1≠b
def Inv.tO(I:Inv X ac σ H s)(hb:s.heap.objs.size<=b)(a:H' b=none):iS X ac H' b:=by
 refine⟨a,Ts (RU I.lt hb),I.Pb hb,.inr (Rx I.sz hb),λx c e z=>?_,λp d z=>?_⟩
 .obtain⟨v,q⟩:=I.cell x c e;exact absurd (RU q.lt (by rw[z];exact hb)) (T8 _)
 .exact absurd (RU (Rc (I.pin p d).1) (by rw[z];exact hb)) (T8 _)
structure Turn(P:Vy) (w:World) (K:Vx) (tg:Expr) (J:It) (fp:List Addr) (it:Addr) (tn:Nat->Heap->Prop):Prop where
 mem:it∈fp
 obj:∀i h,tn i h->∀b∈fp,∃o,h.get? b=some o/\∀v,o.data≠.cell v
 keep:∀i h h',tn i h->(∀b∈fp,∀o,h.get? b=some o->h'.get? b=some o)->tn i h'
 item:∀(X:Cx),X.prog=P->X.w=w->X.K=K->X.calm=true->∀(i:Nat)(ac:List (Addr×Obj))(s:Vw)(σ:St)(H:Hp)(E:Vz->Vw->Prop),Inv X ac σ H s->(∀b∈fp,iS X ac H b)->tn i s.heap->J.go i H->
  wpAny (model P w) X.A (pyNext (.ref it)) (λr s1=>∃u,r=some u/\
   wpAny (model P w) X.A (letOwnedTupleGo tg (.ref it) u) (λ_ s2=>∃x H',Inv X ac σ H' s2/\RelV x u/\J.Cv i H x H'/\tn (i+1) s2.heap/\∀b∈fp,H' b=none) E s1) E s
 done:∀(X:Cx),X.prog=P->X.w=w->X.K=K->X.calm=true->∀(i:Nat)(ac:List (Addr×Obj))(s:Vw)(σ:St)(H:Hp)(E:Vz->Vw->Prop),Inv X ac σ H s->(∀b∈fp,iS X ac H b)->tn i s.heap->J.stop i H->
  wpAny (model P w) X.A (pyNext (.ref it)) (λr s1=>r=none/\Inv X ac σ H s1) E s
 self:∀(A:VA)(i:Nat)(s:Vw)(Q:Vz->Vw->Prop)(E:Vz->Vw->Prop),tn i s.heap->Q (.ref it) s->wpAny (model P w) A (pyIter (.ref it)) Q E s
abbrev TI:=St->Hp->(It->Hp->Prop)->Prop
def Na(X:Cx)(ac:List (Addr×Obj))(σ:St)(tg:Expr)(R:It->Hp->Prop)(a:Vz)(s2:Vw):Prop:=∃(it:Addr)(fp:List Addr)(tn:Nat->Heap->Prop)(J:It)(H':Hp),a=.ref it/\Inv X ac σ H' s2/\Turn X.prog X.w X.K tg J fp it tn/\tn 0 s2.heap/\(∀b∈fp,iS X ac H' b)/\R J H'
def PI(X:Cx)(tg iter:Expr)(a:TI):Prop:=
 ∀(ac:List (Addr×Obj))(s:Vw)(σ:St)(H:Hp)(R:It->Hp->Prop),Inv X ac σ H s->a σ H R->
  wpAny (model X.prog X.w) X.A (eval iter X.env) (λv s1=>wpAny (model X.prog X.w) X.A (pyIter v) (Na X ac σ tg R) X.xe s1) X.xe s
def zk(b:s.heap.get? it=some o)(c:o.cls=.type n)(hd:o.data=.fields vs)
 (d:["enumerate","zip","dict_itemiterator","dict_reverseitemiterator","odict_iterator","itertools.zip_longest","itertools.pairwise"].contains n=false) (a:Q () s):wpAny M A (letOwnedTupleGo tg (.ref it) u) Q E s:=by
 unfold letOwnedTupleGo;cases tg<;>first
  |exact QX a
  |(cases u<;>first
     |exact QX a
     |(refine KE (wpAny_load b ?_)
       rw[c,hd];show wpAny M A (if(["enumerate","zip","dict_itemiterator","dict_reverseitemiterator","odict_iterator","itertools.zip_longest","itertools.pairwise"].contains n&&vs[0]?==some (rawInt _))=true then _ else _) Q E s;rw[Rf (by intro h;rw[d,UQ]at h;cases h)];exact QX a))
noncomputable def CO(K:Vx)(a:Addr):It:=⟨λi H=>∃xs x,SqL K H a xs/\xs[i]?=some x,λi H x H'=>H'=H/\∀xs,SqL K H a xs->xs[i]?=some x,λi H=>∃xs,SqL K H a xs/\xs.length<=i⟩
noncomputable def Nu(lo:Int)(n:Nat):It:=⟨λi _=>i<n,λi H x H'=>H'=H/\x=.int (lo+i),λi _=>n<=i⟩
def xn{K:Vx}{tg:Expr}(a it:Addr):Turn P w K tg (CO K a) [it] it (λi h=>h.IsListIter it a i) where
 mem:=by simp
 obj:=λi h st b hb=>by
  have e:b=it:=by simpa using hb
  subst e;obtain⟨o,e,c,d⟩:=st;exact⟨o,e,λv z=>by rw[d]at z;cases z⟩
 keep:=λi h h' st k=>st.at λo e=>k it (by simp) o e
 item:=by intro X hP hw hK hc i ac s σ H E I hf st hg;subst hP hw hK;obtain⟨xs,x,hq,hx⟩:=hg;obtain⟨its,rv,p,hz⟩:=I.list hq;obtain⟨u,hu,ru⟩:=rv.get hx;obtain⟨f0,f1,f2,f3,f4,f5⟩:=hf it (by simp);refine wpAny_pyNext_list_item st p.isList (x:=u) (by simpa using hu) λh' st' sb=>?_;have I1:Inv X ac σ H {s with heap:=h'}:=I.turned (t':=s.toks) (λb o hb e=>(sb.2 b hb).trans e) f0 f1 f3 f4 f5;obtain⟨o,e,c,d⟩:=id st';exact⟨u,rfl,zk (s:={s with heap:=h'}) e c d (by decide) ⟨x,H,I1,ru,⟨rfl,λys hy=>by rw[I.tY hy hq];exact hx⟩,st',λb hb=>(hf b hb).1⟩⟩
 done:=by intro X hP hw hK hc i ac s σ H E I hf st hg;subst hP hw hK;obtain⟨xs,hq,hx⟩:=hg;obtain⟨its,rv,p,hz⟩:=I.list hq;obtain⟨f0,f1,f2,f3,f4,f5⟩:=hf it (by simp);have hl:=rv.length;exact wpAny_pyNext_list_end (I.ok.hd hc) st p.isList (by simp;lia) λh' eb=>⟨rfl,I.turned (t':=s.toks) (λb o hb e=>eb b o hb e) f0 f1 f3 f4 f5⟩
 self:=λ_ _ _ _ _ st h=>wpAny_pyIter_listiter st h
def uh{K:Vx}{tg:Expr}(it:Addr)(lo:Int)(n:Nat):Turn P w K tg (Nu lo n) [it] it (λi h=>IsRangeIter h it (lo+(i:Nat)*1) ((n:Int)-(i:Nat)) 1) where
 mem:=by simp
 obj:=λi h st b hb=>by grind
 keep:=λi h h' st k=>k it (by simp) _ st
 item:=by intro X hP hw hK hc i ac s σ H E I hf st hg;subst hP hw hK;obtain⟨f0,f1,f2,f3,f4,f5⟩:=hf it (by simp);have W:=Walks.range (prog:=X.prog) (w:=X.w) (I.ok.hd hc) it lo 1 n;refine W.item i s _ _ hg st λv h' tk hv st' kk=>?_;obtain⟨t,rfl⟩:=hv;have I1:Inv X ac σ H {s with heap:=h',toks:=tk}:=I.turned (λb o hb e=>kk b o (by simpa using hb) e) f0 f1 f3 f4 f5;refine⟨_,rfl,zk (s:={s with heap:=h',toks:=tk}) (n:="range_iterator") st' rfl rfl (by decide) ⟨.int (lo+i),H,I1,⟨t,?_⟩,⟨rfl,rfl⟩,st',λb hb=>(hf b hb).1⟩⟩;rw[Int.mul_one]
 done:=by intro X hP hw hK hc i ac s σ H E I hf st hg;subst hP hw hK;obtain⟨f0,f1,f2,f3,f4,f5⟩:=hf it (by simp);exact wpAny_pyNext_range_end (I.ok.hd hc) st (by have:n<=i:=hg;lia) λh' eb=>⟨rfl,I.turned (t':=s.toks) (λb o hb e=>eb b o hb e) f0 f1 f3 f4 f5⟩
 self:=λ_ _ _ _ _ st h=>wpAny_pyIter_rangeiter st h
section
def cu(K:Vx)(b:TE):TI:=λσ H R=>b σ H λx H1=>∃a,x=.ref a/\(∃xs,SqL K H1 a xs)/\R (CO K a) H1
def bK{d:TE}(f:PE X l d):PI X tg l (cu X.K d):=by
 intro ac s σ H R I h;refine cc (f ac s σ H _ I h) λv s1 ⟨x,H1,c,g,q1⟩=>?_;obtain⟨a,e,⟨xs,i⟩,q⟩:=q1;subst e;cases g;obtain⟨its,j,p,hz⟩:=c.list i;refine UI p.isList ?_;refine⟨s1.heap.objs.size,[s1.heap.objs.size],_,_,H1,rfl,c.kept (t':=s1.toks) λb o e=>QZ _ e,xn a _,⟨_,Rb _ rfl,rfl,rfl⟩,λb hb=>?_,q⟩;have e:b=s1.heap.objs.size:=by simpa using hb
 subst e;exact c.tO (QY _) (c.aW.fresh (QY _))
def zl{s:Vw}{R:It->Hp->Prop}{E:Vz->Vw->Prop}{lo a:Int}{t u v:Tok}{tk:Nat}(I:Inv X ac σ H s)(h1:-(2^62)<=lo)(h2:lo<2^62)(h3:-(2^62)<=a)(d:a<2^62)
 (q:R (Nu lo (a-lo).toNat) H):wX X (pyIter (.ref s.heap.objs.size)) (Na X ac σ tg R) E { s with heap:=s.heap.push { cls:=.type "range",data:=.fields #[.int lo t,.int a u,.int 1 v] },toks:=tk }:=by
 refine wpAny_pyIter_range (IsRange.new ..) (small_one h1 h2 h3 d) ?_;have c:Inv X ac σ H { s with heap:=s.heap.push { cls:=.type "range",data:=.fields #[.int lo t,.int a u,.int 1 v] },toks:=tk }:=I.kept λb o e=>QZ _ e;refine⟨(s.heap.push { cls:=.type "range",data:=.fields #[.int lo t,.int a u,.int 1 v] }).objs.size,[(s.heap.push { cls:=.type "range",data:=.fields #[.int lo t,.int a u,.int 1 v] }).objs.size],_,_,H,rfl,
  c.kept (t':=tk) λb o e=>QZ _ e,uh _ lo (a-lo).toNat,?_,λb hb=>?_,q⟩
 .have e1:lo+((0:Nat):Int)*1=lo:=by simp
  have e2:(((a-lo).toNat:Nat):Int)-((0:Nat):Int)=Builtin.Range.rangeSize lo a 1:=by rw[rangeSize_one];split<;>lia
  show IsRangeIter _ _ (lo+((0:Nat):Int)*1) ((((a-lo).toNat:Nat):Int)-((0:Nat):Int)) 1;rw[e1,e2];exact Rb _ rfl
 .have e:b=(s.heap.push { cls:=.type "range",data:=.fields #[.int lo t,.int a u,.int 1 v] }).objs.size:=by simpa using hb
  subst e;exact c.tO (QY _) (c.aW.fresh (QY _))
def rp(ta:TA):TI:=λσ H R=>ta σ H λvs H1=>∃j:Int,vs=[.int j]/\-(2^62)<=j/\j<2^62/\R (Nu 0 j.toNat) H1
def iA{a:Expr}{ta:TA}{p b:Pos}(c:Gl X "range") (hm:X.mg "range"=none) (ha:PA X [a] ta) (d:autoParam (starEach [a] X.env=[(false,eval a X.env)]) aM):PI X tg (.Call (.Name "range" p) [a] [] b) (rp ta):=by
 intro ac s σ H R I h;refine Call_ (ml I c hm boot_range (T4 (cc (ha b ac s σ H _ I h) λus s1 ⟨vs,H1,f,g,q1⟩=>?_) d rfl));obtain⟨j,e,q1,q2,q⟩:=q1;subst e;cases g with
 |cons r i=>cases i;obtain⟨t,rfl⟩:=r;exact call_range_1 (zl f (by lia) (by lia) q1 q2 (by simpa using q))
def d9(d:TI)(g:TG)(tb:TS):TS:=λD σ H=>d σ H λJ H1=>∃W:Nat->Nat->St->Hp->Prop,(∃m,W 0 m σ H1)/\∀i m σ H,W i m σ H->
 (J.stop i H/\D.nx σ H)\/(J.go i H/\∃N:St->Hp->Prop,(∀a H',N a H'->∃c,c<m/\W (i+1) c a H')/\∀x H',J.Cv i H x H'->g x σ H' λb e=>tb {D with nx:=N,ct:=N,bk:=D.nx} b e)
noncomputable def mo(fp:List Addr)(h:Heap):List (Addr×Obj):=fp.filterMap λb=>(h.get? b).map λo=>(b,o)
def gm(hb:b∈fp)(e:h.get? b=some o):(b,o)∈mo fp h:=Uv.mpr ⟨b,hb,by rw[e];rfl⟩
def xo(a:p∈mo fp h):p.1∈fp/\h.get? p.1=some p.2:=by
 obtain⟨b,hb,e⟩:=Uv.mp a;cases q:h.get? b with
 |none=>rw[q]at e;cases e
 |some o=>rw[q]at e;have c:(b,o)=p:=R0 e;subst c;exact⟨hb,q⟩
def Inv.pinned(I:Inv X ac σ H s)(a:∀b∈fp,iS X ac H b)(d:∀b∈fp,∃o,s.heap.get? b=some o/\∀v,o.data≠.cell v):Inv X (ac++mo fp s.heap) σ H s:=
 I.xg λp c=>(Rj.mp c).elim (λz=>I.pin p (RM _ z)) λz=>by
  obtain⟨hb,e⟩:=xo z;obtain⟨f,g,h,_⟩:=a p.1 hb
  grind
def Inv.kq(I:Inv X (ac++pl) σ H s):Inv X ac σ H s:=I.xg λp a=>I.pin p (RM _ (RD _ a))
def b5(y:PassesOwn (model X.prog X.w) X.A X.env X.xe)(O:X.calm=true)(Y:PI X tg iter wi)(Z:PG X tg g)(hb:PSs X body tb)
 (hs:autoParam (∀x,foldedSetIterable iter X.env x=pure x) az):PS X (.For tg iter body [] pos) (d9 wi g tb):=by
 intro ac s σ H D I h;refine wpAny_For (cc (Y ac s σ H _ I h) λv s1 h1=>cc h1 λitv s2 h2=>?_) hs;obtain⟨it,fp,tn,J,H2,e,I2,T,E,P,W,⟨m0,w0⟩,turn⟩:=h2;subst e;have c:∀{H':Hp},(∀b∈fp,H' b=none)->∀b∈fp,iS X ac H' b:=λhn b hb=>⟨hn b hb,(P b hb).2⟩;refine codeAny_forLoop_any (λn Q=>∃i j H',Inv X ac j H' Q/\tn i Q.heap/\(∀b∈fp,H' b=none)/\W i n j H') ?_ m0 ⟨0,σ,H2,I2,E,λb hb=>(P b hb).1,w0⟩;rintro n R ⟨i,k,H3,S,z,B,w3⟩;rcases turn i n k H3 w3 with⟨stop,qn⟩|⟨go,N,hN,step⟩
 .refine TH y (cc (T.done X rfl rfl rfl O i ac R k H3 X.xe S (c B) z stop) λr s4 ⟨F,I4⟩=>?_);subst F;exact U7 ⟨k,H3,I4,qn⟩
 .refine TH y (cc (T.item X rfl rfl rfl O i ac R k H3 X.xe S (c B) z go) λr s4 ⟨u,F,h4⟩=>?_);subst F;refine TH y (cc h4 λ_ U ⟨x,V,I5,r5,y5,t,G⟩=>?_);have K:=I5.pinned (c G) (T.obj _ _ t);refine TH y (cc (Z _ U k V x u _ K r5 (step x V y5)) λ_ s6 ⟨L,H6,I6,q6⟩=>?_);refine TH y (cc (hb _ s6 L H6 _ I6 q6) λf M q=>?_);have again:∀{a:St}{l:Hp},Inv X (ac++mo fp U.heap) a l M->N a l->∃m,m<n/\∃i j H',Inv X ac j H' M/\tn i M.heap/\(∀b∈fp,H' b=none)/\W i m j H':=λ{a l} p C=>by obtain⟨m',hm,w7⟩:=hN a l C;refine⟨m',hm,i+1,a,l,p.kq,T.keep _ _ _ t λb hb o e=>(p.pin (b,o) (RM _ (RM _ (gm hb e)))).1,λb hb=>?_,w7⟩;obtain⟨o,e,d⟩:=T.obj _ _ t b hb;exact(p.pin (b,o) (RM _ (RM _ (gm hb e)))).2.1
  cases f with
  |next=>obtain⟨a,l,p,C⟩:=q;exact again p C
  |cont=>obtain⟨a,l,p,C⟩:=q;exact again p C
  |brk=>obtain⟨a,l,p,q⟩:=q;exact⟨a,l,p.kq,q⟩
  |ret v=>obtain⟨x7,a,l,p,r7,q⟩:=q;exact⟨x7,a,l,p.kq,r7,q⟩
end
def cM{K:Vx}{a:Addr}{xs:List V}{g:TG}{tb:TS}{D:Ends}{σ:St}{H:Hp}(b:Nat->St->Hp->Prop)(h0:b 0 σ H)(k:∀i σ H,i<=xs.length->b i σ H->SqL K H a xs)
 (l:∀i x σ H,xs[i]?=some x->b i σ H->g x σ H λc h=>tb {D with nx:=b (i+1),ct:=b (i+1),bk:=D.nx} c h) (hd:∀σ H,b xs.length σ H->D.nx σ H) :
 ∃W:Nat->Nat->St->Hp->Prop,(∃m,W 0 m σ H)/\∀i m σ H,W i m σ H->
  ((CO K a).stop i H/\D.nx σ H)\/((CO K a).go i H/\∃N:St->Hp->Prop,(∀d H',N d H'->∃j,j<m/\W (i+1) j d H')/\∀x H',(CO K a).Cv i H x H'->g x σ H' λc h=>tb {D with nx:=N,ct:=N,bk:=D.nx} c h):=by
 refine⟨λi m σ H=>m=xs.length-i/\i<=xs.length/\b i σ H,⟨xs.length,by simp,Rh _,h0⟩,?_⟩;rintro i m σ H ⟨rfl,n,p⟩;have q:=k i σ H n p;by_cases f:i<xs.length
 .refine .inr ⟨⟨xs,xs[i],q,by simp[f]⟩,b (i+1),λd H' o=>⟨xs.length-(i+1),by lia,rfl,f,o⟩,λx H' y=>?_⟩;obtain⟨e,y⟩:=y;subst e;exact l i x σ _ (y xs q) p
 .have e:i=xs.length:=by lia
  subst e;exact .inl ⟨⟨xs,q,QY _⟩,hd σ H p⟩
abbrev R2:=V->V->Hp->VK->Prop
def OpR(X:Cx)(f:Vz->Vz->Sem Vz)(r:R2):Prop:=
 ∀(ac:List (Addr×Obj))(s:Vw)(σ:St)(H:Hp)(x y:V)(v u:Vz)(Q:VK),Inv X ac σ H s->RelV x v->RelV y u->r x y H Q->
  wpAny (model X.prog X.w) X.A (f v u) (EP X ac σ Q) X.xe s
def CallR(X:Cx)(f:Vz)(r:List V->Hp->VK->Prop):Prop:=
 ∀(ac:List (Addr×Obj))(s:Vw)(σ:St)(H:Hp)(xs:List V)(us:List Vz)(Q:VK),Inv X ac σ H s->Vals xs us->r xs H Q->
  wpAny (model X.prog X.w) X.A (call f us) (EP X ac σ Q) X.xe s
def Nv(X:Cx)(r:V->Hp->(Bool->Hp->Prop)->Prop):Prop:=
 ∀(ac:List (Addr×Obj))(s:Vw)(σ:St)(H:Hp)(x:V)(v:Vz)(Q:Bool->Hp->Prop),Inv X ac σ H s->RelV x v->r x H Q->
  wpAny (model X.prog X.w) X.A (truthy v) (TP X ac σ Q) X.xe s
noncomputable def bj(r:R2)(ta tb:TE):TE:=λσ H Q=>ta σ H λx H1=>tb σ H1 λy a=>r x y a Q
noncomputable def rI(C:Int->Int->Prop)(g:Int->Int->V):R2:=λx y H Q=>∃i j,x=.int i/\y=.int j/\C i j/\Q (g i j) H
noncomputable def ui(g:Int->Int->V):R2:=λx y H Q=>∃i j,x=.int i/\y=.int j/\Q (g i j) H
section
def Gv(ha:PE X a ta)(hb:PE X b tb){R:V->V->Hp->Prop}(I:Inv X ac σ H s)
 (h:ta σ H λx H1=>tb σ H1 λy c=>R x y c) {Q:Vz->Vw->Prop} {f:Vz->Vz->Sem Vz}
 (g:∀v u s2 x y c,Inv X ac σ c s2->RelV x v->RelV y u->R x y c->wX X (f v u) Q X.xe s2) :
 wX X (eval a X.env) (λv d=>wX X (eval b X.env) (λu e=>wX X (f v u) Q X.xe e) X.xe d) X.xe s:=by
 refine cc (ha ac s σ H _ I h) λv s1 ⟨x,H1,i,j,q1⟩=>?_;refine cc (hb ac s1 σ H1 _ i q1) λu s2 ⟨y,c,k,l,q2⟩=>?_;exact g v u s2 x y c k j l q2
def aQ{op:Operator}(c:OpR X (binaryOp op) r)(ha:PE X a ta)(hb:PE X b tb):PE X (.BinOp a op b pos) (bj r ta tb):=by intro ac s σ H Q I h;exact wpAny_BinOp (Gv ha hb I h λv u s2 x y d e f g q=>c ac s2 σ d x y v u Q e f g q)
def Nw{f:Vz->Vz->Sem Vz}{C:Int->Int->Prop}{g:Int->Int->Int}
 (rule:∀(i j:Int)(t u:Tok)(s:Vw)(Q:Vz->Vw->Prop)(E:Vz->Vw->Prop),C i j->Q (.int (g i j) s.toks) {s with toks:=s.toks+1}->wX X (f (.int i t) (.int j u)) Q E s) :
 OpR X f (rI C λi j=>.int (g i j)):=by
 intro ac s σ H x y v u Q I a b h;obtain⟨i,j,rfl,rfl,c,q⟩:=h;obtain⟨t,rfl⟩:=a;obtain⟨t',rfl⟩:=b;exact rule i j t t' s _ _ c ⟨.int (g i j),H,I.tok _,⟨_,rfl⟩,q⟩
def Gw{f:Vz->Vz->Sem Vz}{g:Int->Int->Int}
 (rule:∀(i j:Int)(t u:Tok)(s:Vw)(Q:Vz->Vw->Prop)(E:Vz->Vw->Prop),Q (.int (g i j) s.toks) {s with toks:=s.toks+1}->wX X (f (.int i t) (.int j u)) Q E s) :
 OpR X f (ui λi j=>.int (g i j)):=by
 intro ac s σ H x y v u Q I a b h;obtain⟨i,j,rfl,rfl,q⟩:=h;obtain⟨t,rfl⟩:=a;obtain⟨t',rfl⟩:=b;exact rule i j t t' s _ _ ⟨.int (g i j),H,I.tok _,⟨_,rfl⟩,q⟩
def Gx{f:Vz->Vz->Sem Vz}{g:Int->Int->Bool}
 (rule:∀(i j:Int)(t u:Tok)(s:Vw)(Q:Vz->Vw->Prop)(E:Vz->Vw->Prop),Q (.bool (g i j)) s->wX X (f (.int i t) (.int j u)) Q E s) :
 OpR X f (ui λi j=>.bl (g i j)):=by
 intro ac s σ H x y v u Q I a b h;obtain⟨i,j,rfl,rfl,q⟩:=h;obtain⟨t,rfl⟩:=a;obtain⟨t',rfl⟩:=b;exact rule i j t t' s _ _ ⟨.bl (g i j),H,I,rfl,q⟩
def JW(i j:Int):Prop:=0<j/\j<1073741824
def CMul(i j:Int):Prop:=(-(2^64)<i/\i<2^64)\/(-(2^64)<j/\j<2^64)
def CMul.ok(h:CMul i j):IntMulOk i j:=by
 rcases h with⟨h1,h2⟩|⟨h1,h2⟩
 .exact .of_left (intBits_le_64 h1 h2)
 .exact .of_right (intBits_le_64 h1 h2)
def op_add:OpR X (binaryOp .Add) (ui λi j=>.int (i+j)):=Gw λ_ _ _ _ _ _ _ q=>add_int q
def zn:OpR X (binaryOp .Sub) (ui λi j=>.int (i-j)):=Gw λ_ _ _ _ _ _ _ q=>sub_int q
def gn:OpR X (binaryOp .Mult) (rI CMul λi j=>.int (i*j)):=Nw λ_ _ _ _ _ _ _ a q=>mul_int q a.ok
def db:OpR X (binaryOp .FloorDiv) (rI JW λi j=>.int (i/j)):=Nw λi j _ _ _ _ _ a q=>by have h1:(0:Int)<j:=a.1;have h2:j<1073741824:=a.2;exact floordiv_int (by lia) (by rw[Int.fdiv_eq_ediv_of_nonneg i (by lia)];exact q) (.inl (PyProof.noPylong_small (by lia)))
def b_:OpR X (binaryOp .Mod) (rI (λ_ j=>0<j) λi j=>.int (i%j)):=Nw λi j _ _ _ _ _ a q=>by have h1:(0:Int)<j:=a;exact mod_int' (by lia) (by rw[Int.fmod_eq_emod_of_nonneg i (by lia)];exact q)
def Gy:OpR X (binaryOp .BitXor) (ui λi j=>.int (Builtin.bitXor i j)):=Gw λ_ _ _ _ _ _ _ q=>xor_int q
end
noncomputable def JX:V->V->Bool
 |.bz,.bz=>true|.bz,.int _=>true|.int _,.bz=>true|.bz,.bl _=>true|.bl _,.bz=>true|.bz,.str _=>true|.str _,.bz=>true
 |.int _,.int _=>true|.bl _,.bl _=>true|.str _,.str _=>true|.vE _,.vE _=>true
 |.int _,.str _=>true|.str _,.int _=>true|.bl _,.str _=>true|.str _,.bl _=>true
 |_,_=>false
def oK:R2:=λx y H Q=>JX x y=true/\Q (.bl (decide (x=y))) H
def Nx:R2:=λx y H Q=>JX x y=true/\Q (.bl (!decide (x=y))) H
def vP:decide (V.int i=V.int j)=(i==j):=by rw[Uw];simp
def zo:decide (V.bl i=V.bl j)=(i==j):=by rw[Uw];simp
def vQ:decide (V.str i=V.str j)=(i==j):=by rw[Uw];simp
def vR:decide (V.vE i=V.vE j)=(i.toList==j.toList):=by rw[Uw];cases i;cases j;simp
section
def br(I:Inv X ac σ H s)(q:Q (.bl k) H)(e:k=k'):EP X ac σ Q (.bool k') s:=by subst e;exact⟨.bl k,H,I,rfl,q⟩
def eF:OpR X (compareOp .Eq) oK:=by
 intro ac s σ H x y v u Q I c a h;obtain⟨b,q⟩:=h;cases x with
 |bz=>
  cases c;cases y with
  |bz=>cases a;exact PySem.EqNone.eq_none_none (br I q (by simp))
  |bl j=>cases a;exact PySem.EqNone.eq_none_bool (br I q (by simp))
  |int j=>obtain⟨t',rfl⟩:=a;exact PySem.EqNone.eq_none_int (br I q (by simp))
  |str j=>obtain⟨t',rfl⟩:=a;exact PySem.EqNone.eq_none_str (br I q (by simp))
  |_=>exact absurd (show false=true from b) RF
 |bl i=>
  cases c;cases y with
  |bz=>cases a;exact PySem.EqNone.eq_bool_none (br I q (by simp))
  |bl j=>cases a;exact eq_bool (br I q zo)
  |str j=>obtain⟨t',rfl⟩:=a;exact PySem.EqMixed.eq_bool_str (br I q (by simp))
  |_=>exact absurd (show false=true from b) RF
 |int i=>
  obtain⟨t,rfl⟩:=c;cases y with
  |bz=>cases a;exact PySem.EqNone.eq_int_none (br I q (by simp))
  |int j=>obtain⟨t',rfl⟩:=a;exact eq_int (br I q vP)
  |str j=>obtain⟨t',rfl⟩:=a;exact PySem.EqMixed.eq_int_str (br I q (by simp))
  |_=>exact absurd (show false=true from b) RF
 |str i=>
  obtain⟨t,rfl⟩:=c;cases y with
  |bz=>cases a;exact PySem.EqNone.eq_str_none (br I q (by simp))
  |bl j=>cases a;exact PySem.EqMixed.eq_str_bool (br I q (by simp))
  |int j=>obtain⟨t',rfl⟩:=a;exact PySem.EqMixed.eq_str_int (br I q (by simp))
  |str j=>obtain⟨t',rfl⟩:=a;exact eq_str (br I q vQ)
  |_=>exact absurd (show false=true from b) RF
 |vE i=>
  obtain⟨t,rfl⟩:=c;cases y with
  |vE j=>obtain⟨t',rfl⟩:=a;exact PySem.W.eq_bytes (br I q vR)
  |_=>exact absurd (show false=true from b) RF
 |_=>cases y<;>exact absurd (show false=true from b) RF
def FE:OpR X (compareOp .NotEq) Nx:=by
 intro ac s σ H x y v u Q I c a h;obtain⟨b,q⟩:=h;cases x with
 |bz=>
  cases c;cases y with
  |bz=>cases a;exact PySem.EqNone.ne_none_none (br I q (by simp))
  |bl j=>cases a;exact PySem.EqNone.ne_none_bool (br I q (by simp))
  |int j=>obtain⟨t',rfl⟩:=a;exact PySem.EqNone.ne_none_int (br I q (by simp))
  |str j=>obtain⟨t',rfl⟩:=a;exact PySem.EqNone.ne_none_str (br I q (by simp))
  |_=>exact absurd (show false=true from b) RF
 |bl i=>
  cases c;cases y with
  |bz=>cases a;exact PySem.EqNone.ne_bool_none (br I q (by simp))
  |bl j=>cases a;exact ne_bool (br I q (Sy not zo))
  |str j=>obtain⟨t',rfl⟩:=a;exact PySem.EqMixed.ne_bool_str (br I q (by simp))
  |_=>exact absurd (show false=true from b) RF
 |int i=>
  obtain⟨t,rfl⟩:=c;cases y with
  |bz=>cases a;exact PySem.EqNone.ne_int_none (br I q (by simp))
  |int j=>obtain⟨t',rfl⟩:=a;exact ne_int (br I q (Sy not vP))
  |str j=>obtain⟨t',rfl⟩:=a;exact PySem.EqMixed.ne_int_str (br I q (by simp))
  |_=>exact absurd (show false=true from b) RF
 |str i=>
  obtain⟨t,rfl⟩:=c;cases y with
  |bz=>cases a;exact PySem.EqNone.ne_str_none (br I q (by simp))
  |bl j=>cases a;exact PySem.EqMixed.ne_str_bool (br I q (by simp))
  |int j=>obtain⟨t',rfl⟩:=a;exact PySem.EqMixed.ne_str_int (br I q (by simp))
  |str j=>obtain⟨t',rfl⟩:=a;exact ne_str (br I q (Sy not vQ))
  |_=>exact absurd (show false=true from b) RF
 |vE i=>
  obtain⟨t,rfl⟩:=c;cases y with
  |vE j=>obtain⟨t',rfl⟩:=a;exact PySem.W.ne_bytes (br I q (Sy not vR))
  |_=>exact absurd (show false=true from b) RF
 |_=>cases y<;>exact absurd (show false=true from b) RF
def rq:OpR X (compareOp .Lt) (ui λi j=>.bl (decide (i<j))):=Gx λ_ _ _ _ _ _ _ q=>lt_int q
def rA:OpR X (compareOp .Gt) (ui λi j=>.bl (decide (j<i))):=Gx λ_ _ _ _ _ _ _ q=>gt_int q
def JY:OpR X (compareOp .GtE) (ui λi j=>.bl (decide (j<=i))):=Gx λ_ _ _ _ _ _ _ q=>ge_int q
def Gz:OpR X (compareOp .Is) (λx y H Q=>y=.bz/\Q (.bl (decide (x=.bz))) H):=by
 intro ac s σ H x y v u Q I a b h;obtain⟨rfl,q⟩:=h;cases b;refine is_none_gen (br I q ?_);cases x<;>first
  |(cases a;rfl)
  |(obtain⟨t,rfl⟩:=a;rfl)
def OpR.or(h:OpR X f r)(h':OpR X f r'):OpR X f (λx y H Q=>r x y H Q\/r' x y H Q):=by
 intro ac s σ H x y v u Q I a b q;rcases q with q|q
 .exact h ac s σ H x y v u Q I a b q
 .exact h' ac s σ H x y v u Q I a b q
def bA(b:Expr)(h:autoParam (op≠.In) ab)(h2:autoParam (op≠.NotIn) ab):behindInMarks op b=false:=by
 have e1:(op==CmpOp.In)=false:=by cases op<;>first|rfl|exact absurd rfl h
 have e2:(op==CmpOp.NotIn)=false:=by cases op<;>first|rfl|exact absurd rfl h2
 cases b<;>simp[behindInMarks,e1,e2]
def jz(c:OpR X (compareOp op) r)(ha:PE X a ta)(hb:PE X b tb)(hm:behindInMarks op b=false):PE X (.Compare a [op] [b] pos) (bj r ta tb):=by intro ac s σ H Q I h;exact wpAny_Compare1 (Gv ha hb I h λv u s2 x y d e f g q=>c ac s2 σ d x y v u Q e f g q) hm
noncomputable def bI(t:TE):TT:=λσ H Q=>t σ H λx H'=>∃k,x=.bl k/\Q k H'
def aY(d:OpR X (compareOp op) r)(ha:PE X a ta)(hb:PE X b tb)(hm:behindInMarks op b=false):PT X (.Compare a [op] [b] pos) (bI (bj r ta tb)):=by intro ac s σ H Q I h;refine wpAny_isTrue_Compare1 (cc (ha ac s σ H _ I h) λv s1 ⟨x,H1,f,g,q1⟩=>cc (hb ac s1 σ H1 _ f q1) λu s2 ⟨y,i,j,l,q2⟩=>cc (d ac s2 σ i x y v u _ j g l q2) λc p ⟨z,H3,m,n,k,e,o⟩=>?_) hm;subst e;cases n;exact SR ⟨H3,m,o⟩
noncomputable def zp(r a:R2)(ta tb b:TE):TE:=λσ H Q=>ta σ H λx H1=>tb σ H1 λy c=>r x y c λz H3=>∃k,z=.bl k/\
 (if k=true then b σ H3 λd H4=>a y d H4 Q else Q (.bl false) H3)
def zq(l:OpR X (compareOp op) r)(f:OpR X (compareOp op') r')(ha:PE X a ta)(hb:PE X b tb)(m:PE X c tc)
 (hm:lastMarks [op,op'] [b,c]=false:=by with_unfolding_all rfl):PT X (.Compare a [op,op'] [b,c] pos) (bI (zp r r' ta tb tc)):=by
 intro ac s σ H Q I h;refine isTrue_chain (cc (ha ac s σ H _ I h) λv s1 ⟨x,H1,n,o,q1⟩=>test_link (cc (hb ac s1 σ H1 _ n q1) λu s2 ⟨y,p,q,g,q2⟩=>cc (l ac s2 σ p x y v u _ q o g q2) λd t ⟨z,H3,i,w,k,e,j⟩=>?_)) hm;subst e;cases w;refine SR ?_;cases k with
 |false=>obtain⟨O,A,B⟩:=j;cases A;exact ite_ff ⟨H3,i,B⟩
 |true=>refine ite_tt (test_last (cc (m ac t σ H3 _ i j) λC D ⟨E,H4,F,G,J⟩=>cc (f ac D σ H4 y E u C _ F g G J) λd' P ⟨R,K,L,M,k2,e2,N⟩=>?_));subst e2;cases M;exact SR ⟨K,L,N⟩
def GA(K:Vx)(x:V)(H:Hp)(k:Bool):Prop:=
 match x with
 |.bz=>k=false
 |.bl b=>k=b
 |.int i=>k=(i != 0)
 |.str y=>y.length<=sizeLine/\k=((y.length:Int) != 0)
 |.vE y=>y.size<=sizeLine/\k=((y.size:Int) != 0)
 |.ref p=>(∃xs,SqL K H p xs/\k=!xs.isEmpty)\/(∃xs,SqT K H p xs/\k=!xs.isEmpty)\/∃kvs,H p=some (.dK kvs)/\k=!kvs.isEmpty
 |_=>False
def uj{κ:Type}{kvs:List (κ×V)}{vs:List (κ×Vz)}(r:KV kvs vs):(!vs.isEmpty)=!kvs.isEmpty:=by cases r<;>rfl
def mq(r:Vals xs its):(!its.toArray.isEmpty)=!xs.isEmpty:=by cases r<;>simp
def kC:(sizeLine:Nat)<2^63:=by rw[RB];decide
def GB:Nv X (λx H Q=>∃k,GA X.K x H k/\Q k H):=by
 intro ac s σ H x v Q I c h;obtain⟨k,e,q⟩:=h;have l:=kC;have n:sizeLine=16777216:=RB;cases x with
 |bz=>cases c;have a:k=false:=e;subst a;exact truthy_none ⟨H,I,q⟩
 |bl b=>cases c;have a:k=b:=e;subst a;exact SR ⟨H,I,q⟩
 |int i=>obtain⟨t,rfl⟩:=c;have a:k=(i != 0):=e;subst a;exact PySem.P.truthy_int ⟨H,I,q⟩
 |str y=>obtain⟨t,rfl⟩:=c;obtain⟨g,a⟩ : y.length<=sizeLine/\k=((y.length:Int) != 0):=e;subst a;exact PySem.P.truthy_str (by lia) ⟨H,I.tok _,q⟩
 |vE y=>obtain⟨t,rfl⟩:=c;obtain⟨g,a⟩ : y.size<=sizeLine/\k=((y.size:Int) != 0):=e;subst a;exact PySem.W.truthy_bytes (by lia) ⟨H,I.tok _,q⟩
 |ref p=>
  cases c;have a:(∃xs,SqL X.K H p xs/\k=!xs.isEmpty)\/(∃xs,SqT X.K H p xs/\k=!xs.isEmpty)\/∃kvs,H p=some (.dK kvs)/\k=!kvs.isEmpty:=e;rcases a with⟨xs,d,a⟩|⟨xs,d,a⟩|⟨kvs,d,a⟩
  .subst a;obtain⟨its,r,pl,hz⟩:=I.list d;have f:=r.length;exact wpAny_truthy_list pl.isList (by simp only[Ra];lia) ⟨H,I.tok _,by rw[mq r];exact q⟩
  .subst a;obtain⟨its,r,pl,hz⟩:=I.tuple d;have f:=r.length;exact truthy_tuple pl (by simp only[Ra];lia) ⟨H,I.tok _,by rw[mq r];exact q⟩
  .subst a;obtain⟨hz,j,vs,r,m⟩ : kvs.length<=sizeLine/\(p==sysModules)=false/\∃vs,KV kvs vs/\s.heap.DictOf (aO X.prog X.w) p vs:=I.aW p _ d;have f:kvs.length=vs.length:=Ta r;exact wpAny_truthy_dict j m (by lia) ⟨H,I.tok _,by rw[uj r];exact q⟩
 |_=>exact(show False from e).elim
def jA(ha:PE X a ta)(c:∀b,isTrue a X.env b=(do let v <- b;standAt a.pos;holding [v] (truthy v))) :
 PT X a (λσ H Q=>ta σ H λx H'=>∃k,GA X.K x H' k/\Q k H'):=by
 intro ac s σ H Q I h;exact isTrue_plain (cc (ha ac s σ H _ I h) λv s1 ⟨x,H1,d,e,q1⟩=>GB ac s1 σ H1 x v Q d e q1) (c _)
def uk:OpR X (binaryOp .Add) (λx y H Q=>∃i j,x=.str i/\y=.str j/\i.length+j.length<=sizeLine/\Q (.str (i++j)) H):=by intro ac s σ H x y v u Q I a b h;obtain⟨i,j,rfl,rfl,hz,q⟩:=h;obtain⟨t,rfl⟩:=a;obtain⟨t',rfl⟩:=b;exact add_str (λt' tk=>⟨.str (i++j),H,I.tok _,⟨_,rfl⟩,q⟩) hz
def dR(r:Vals [x] us):∃u,us=[u]/\RelV x u:=by
 cases r with
 |cons a b=>cases b;exact⟨_,rfl,a⟩
def vS(r:Vals [x,y] us):∃u a,us=[u,a]/\RelV x u/\RelV y a:=by
 cases r with
 |cons b c=>
  cases c with
  |cons d e=>cases e;exact⟨_,_,rfl,b,d⟩
end
structure vM(h:Heap) (x dx C:Addr) (mA:Str->Option Vz):Prop where
 obj:h.get? x=some (instObj C dx)
 ns:h.Ns1 dx mA
 ne:dx≠x
def xq{h:Heap}{b:Str->Option Vz}(n:h.Ns1 dx b):∃od,h.get? dx=some od/\∀name,lookIn name od=some (b name):=by
 obtain⟨o,es,ep,c,hd,d,_,hm⟩:=n;refine⟨o,c,λname=>?_⟩;have e:=hm name;unfold nsFind findBy at e;rw[<- Array.find?_toList]at e;unfold lookIn;rw[hd];dsimp only;split
 .rename_i y q;rw[q]at e;exact Sy some e
 .rename_i q;rw[q]at e;have a:es.toList.any (·.refKey)=false:=by rw[List.any_eq_false];intro y f;obtain⟨z,t,g⟩:=d y (Array.mem_toList_iff.mp f);simp[DictEntry.refKey,g]
  have i:¬es.toList.any (·.refKey)=true:=by rw[a];exact RF
  rw[Rf i];exact Sy some e
def vM.look(I:vM h x dx C mA):∃od,PySem.W.InstAt h x (instObj C dx) C (some od)/\∀name,lookIn name od=some (mA name):=
 let ⟨od,a,b⟩:=xq I.ns
 ⟨od,⟨I.obj,rfl,rfl,a⟩,b⟩
section
variable{prog:Vy}{w:World}{A:VA}{E:Vz->Vw->Prop}{s:Vw}{K:Vx}{x dx C f:Addr}{mA:Str->Option Vz}{name:Str}{v:Vz}
theorem Dx(X:K.In s.heap)(I:vM s.heap x dx C mA)(b:plainGet K C name=true)(c:hasDictIn K C=true)
 (ha:findIn K (.ref C) name=some none) (d:mA name=some v) (a:PySem.W.handedIn v=true) (h:Q v {s with toks:=s.toks+1}) :
 wpAny (model prog w) A (getAttr (.ref x) name expr) Q E s:=by
 obtain⟨od,J,e⟩:=I.look;exact PySem.W.get_value X J (U8 b).1 (PySem.W.findObj_own c ha rfl (by rw[e,d])) a h
def zt(X:K.In s.heap)(I:vM s.heap x dx C mA)(a:plainGet K C name=true)
 (b:findIn K (.ref C) name=some (some (.ref f))) (c:isFn K (.ref f)=true) (d:mA name=none) (h:Q (.ref f,[.ref x]) s) :
 wpAny (model prog w) A (getMethod (.ref x) name pl) Q E s:=by
 obtain⟨od,J,e⟩:=I.look;exact PySem.W.method_fn X J (U8 a).1 (U8 a).2 b (U5.mp c) (by show(lookIn name od).map (·.isSome)=some false;rw[e,d];rfl) h
theorem Dy(X:K.In s.heap)(I:vM s.heap x dx C mA)
 (k:findIn K (.ref C) "__setattr__"=some (some (.builtin "object.__setattr__"))) (l:PySem.W.plainOver K C=true) (m:PySem.W.takerIn K C name=some none) (n:hasDictIn K C=true)
 (o:PySem.Within mA ns) (hsz:ns.length<=sizeLine)
 (h:∀h',vM h' x dx C (λy=>if y=name then some v else mA y)->Heap.SameBut dx s.heap h'->Q () {s with heap:=h',toks:=s.toks+2}) :
 wpAny (model prog w) A (setAttr (.ref x) name v) Q E s:=by
 obtain⟨od,J,z⟩:=I.look;refine PySem.W.set_plain X J k (PySem.W.osa_open (s:={s with toks:=s.toks+1}) (r:=none) X J l m λb=>?_);obtain⟨B,p,e⟩:=PySem.W.any_some n;have q:s.heap.get? x=some ⟨.ref C,some dx,.plain,#[]⟩:=I.obj;refine KE (QX (KE (KE (wpAny_loadPart q (KE (PySem.W.Looks.here (s:={s with toks:=s.toks+1}) (PySem.W.looks_clsIn X p) ?_))))));rw[e];refine QX (a:=some dx) (KE (QX (KE ?_)));refine wpAny_nsSet1 (s:={s with toks:=s.toks+1}) I.ns λh' c d=>?_;obtain⟨oD,t,u,g,i,j⟩:=c.count (PySem.Within.cons name v o);refine KE (wpAny_lookBehind g (by rw[i];exact pastItsLine_dict (Rx j (by rw[Rq];lia))) ?_);exact QX (h _ ⟨(d.2 _ (Si I.ne)).trans I.obj,c,I.ne⟩ d)
theorem zu(X:K.In s.heap)(hm:PySem.W.makesIn K C=true)
 (a:findIn K (.ref C) "__init__"=some (some (.ref f))) (b:PySem.W.typeIn K (.ref f)=some (.type "function"))
 (h:codeAny (model prog w) (A.under (.builtin "type.__call__" ⟨.ref C::vs,kw⟩)) (.call (.ref f) ⟨.ref (s.heap.objs.size+1)::vs,kw⟩) (PySem.W.InitBack (s.heap.objs.size+1) R)
   {s with heap:=(s.heap.push emptyDict).push (instObj C s.heap.objs.size)}) :
 codeAny (model prog w) A (.call (.ref C) ⟨vs,kw⟩) R s:=by
 obtain⟨c,g,d,t,os⟩:=s;exact PySem.W.make_core (PySem.W.makes_of X hm) (PySem.W.looks_findIn X a) (λself=>PySem.W.bind_fn X self b) (.inl rfl) h
end
noncomputable def ga(f:Str)(v:V):List (Str×V)->List (Str×V)
 |[]=>[(f,v)]
 |(g,x)::r=>if g=f then(g,v)::r else(g,x)::ga f v r
theorem li(f g:Str)(v:V):∀fs:List (Str×V),(ga f v fs).lookup g=if g=f then some v else fs.lookup g
 |[]=>by
  show List.lookup g [(f,v)]=_
  grind
 |(k,x)::r=>by
  have a:=li f g v r
  grind [ga]
theorem kD(f:Str)(v:V):∀fs:List (Str×V),f∈(ga f v fs).map (·.1)/\∀g,g∈fs.map (·.1)->g∈(ga f v fs).map (·.1)
 |[]=>⟨by simp[ga],λg h=>by simp at h⟩
 |(k,x)::r=>by
  obtain⟨a,b⟩:=kD f v r
  grind [ga]
theorem lj(f:Str)(v:V):∀fs:List (Str×V),(ga f v fs).length<=fs.length+1
 |[]=>by simp[ga]
 |(k,x)::r=>by
  have b:=lj f v r;rw[show ga f v ((k,x)::r)=(if k=f then(k,v)::r else(k,x)::ga f v r)from rfl];by_cases a:k=f
  .rw[Re a,Rq,Rq];lia
  .rw[Rf a,Rq,Rq];lia
def RelO.some_of(r:RelO (some v) o):∃u,o=some u/\RelV v u:=by
 cases o with
 |none=>exact(show False from r).elim
 |some u=>exact⟨u,rfl,r⟩
def RelO.none_of(r:RelO none o):o=none:=by
 cases o with
 |none=>rfl
 |some u=>exact(show False from r).elim
def xt(r:RelV v u):PySem.W.handedIn u=true:=by
 cases v with
 |bz=>cases(show u=Value.none from r);rfl
 |bl b=>cases(show u=Value.bool b from r);rfl
 |int i=>obtain⟨t,e⟩:=(show ∃t,u=Value.int i t from r);cases e;rfl
 |str x=>obtain⟨t,e⟩:=(show ∃t,u=Value.str x t from r);cases e;rfl
 |vE b=>obtain⟨t,e⟩:=(show ∃t,u=Value.bytes b t from r);cases e;rfl
 |Gh b=>obtain⟨t,e⟩:=(show ∃t,u=Value.float b t from r);cases e;rfl
 |ref a=>cases(show u=Value.ref a from r);rfl
 |ty n=>cases(show u=Value.type n from r);rfl
section
def lQ(aW:HOk P w H h)(e:H a=some (.ins C dx fs)):∃b,vM h a dx C b/\(∀f,RelO (fs.lookup f) (b f))/\PySem.Within b (fs.map (·.1))/\fs.length<=1000/\H dx=some (.own a):=by obtain⟨d,z,ne,c,b,n,r,q⟩:=(show ObjOk P w H h a (.ins C dx fs)from aW a _ e);exact⟨b,⟨c,n,ne⟩,r,q,z,d⟩
end
structure qX(K:Vx) (C:Addr):Prop where
 pg:plainGet K C Str.empty=true
 hd:hasDictIn K C=true
 po:PySem.W.plainOver K C=true
 sa:findIn K (.ref C) "__setattr__"=some (some (.builtin "object.__setattr__"))
theorem qX.get{K:Vx}(c:qX K C)(f:Str):plainGet K C f=true:=c.pg
def NoAttr(K:Vx)(C:Addr)(f:Str):Prop:=findIn K (.ref C) f=some none
def NoAttr.taker{K:Vx}(n:NoAttr K C f):PySem.W.takerIn K C f=some none:=by unfold PySem.W.takerIn;rw[show findIn K (.ref C) f=some none from n];rfl
structure Meth(K:Vx) (C:Addr) (m:Str) (f:Addr):Prop where
 at_:findIn K (.ref C) m=some (some (.ref f))
 fn:isFn K (.ref f)=true
 kp:keepIn K (.ref f)=true
section
def ul(I:Inv X ac σ H s)(e:H a=some (.ins C dx fs))(c:qX X.K C)(n:NoAttr X.K C f)(l:fs.lookup f=some v)
 (h:∀u d,Inv X ac σ H d->RelV v u->Q u d):wpAny (model X.prog X.w) A (getAttr (.ref a) f b) Q E s:=by
 obtain⟨g,O,r,_,_,_⟩:=lQ I.aW e;obtain⟨u,i,ru⟩:=RelO.some_of (v:=v) (o:=g f) (by rw[<- l];exact r f);exact Dx I.lg O (c.get f) c.hd n i (xt ru) (h u _ (I.tok _) ru)
def mr(I:Inv X ac σ H s)(e:H a=some (.ins C dx fs))(c:qX X.K C)(k:Meth X.K C m g)(l:fs.lookup m=none)
 (h:Q (.ref g,[.ref a]) s):wpAny (model X.prog X.w) A (getMethod (.ref a) m pl) Q E s:=by
 obtain⟨b,O,r,_,_,_⟩:=lQ I.aW e;have d:b m=none:=RelO.none_of (by rw[<- l];exact r m);exact zt I.lg O (c.get m) k.at_ k.fn d h
def um(I:Inv X ac σ H s)(e:H a=some (.ins C dx fs))(c:qX X.K C)(n:NoAttr X.K C f)(v:fs.length<1000)(B:RelV y u)
 (h:∀i,Inv X ac σ (upd H a (.ins C dx (ga f y fs))) i->Q () i):wpAny (model X.prog X.w) A (setAttr (.ref a) f u) Q E s:=by
 obtain⟨l,O,r,j,_,k⟩:=lQ I.aW e;have hz:(fs.map (·.1)).length<=sizeLine:=by rw[Q0,RB];lia
 refine Dy I.lg O c.sa c.po n.taker c.hd j hz λh' d m=>h _ ?_;have hd:∃o,h'.get? dx=some o:=let ⟨o,_,_,p,_⟩:=d.ns;⟨o,p⟩;refine I.write (x:=a) (e:=dx) (by rw[e];exact True.intro) (.inr k) (λb q hb z=>(m.2 b hb).trans z) hd ?_;refine⟨by rw[ai O.ne];exact k,?_,O.ne,d.obj,_,d.ns,λg=>?_,λg t=>?_⟩
 .have:=lj f y fs;lia
 .grind [RelO,ga,li]
 .by_cases q:g=f
  .rw[q];exact(kD f y fs).1
  .refine(kD f y fs).2 g (j g λz=>t ?_);show(if g=f then some u else l g)=none;rw[Rf q];exact z
def Inv.made(I:Inv X ac σ H s):Inv X ac σ (upd (upd H s.heap.objs.size (.own (s.heap.objs.size+1))) (s.heap.objs.size+1) (.ins C s.heap.objs.size []))
 {s with heap:=(s.heap.push emptyDict).push (instObj C s.heap.objs.size)}:=by
 have e1:(s.heap.push emptyDict).get? s.heap.objs.size=some emptyDict:=Rb s.heap rfl;have e2:((s.heap.push emptyDict).push (instObj C s.heap.objs.size)).get? (s.heap.objs.size+1)=some (instObj C s.heap.objs.size):=by
  have:=Rb (s.heap.push emptyDict) (o:=instObj C s.heap.objs.size) rfl
  rwa [TY]at this
 have e3:(s.heap.push emptyDict).Ns s.heap.objs.size (λ_=>none):=⟨emptyDict,#[],_,e1,rfl,(λe c=>absurd c (by simp)),λ_=>rfl⟩;have d:=I.laid (a:=s.heap.objs.size) (o:=.own (s.heap.objs.size+1)) (h':=s.heap.push emptyDict) (t':=s.toks) (λb u q=>QZ _ q) (QY _) ⟨_,e1⟩;refine d.laid (a:=s.heap.objs.size+1) (o:=.ins C s.heap.objs.size []) (t':=s.toks) (λb u q=>QZ _ q) (Vq (TY _ _)) ?_;have ne:s.heap.objs.size≠s.heap.objs.size+1:=Rt (SQ _);refine⟨by rw[ai ne,ag],Rh _,ne,e2,λ_=>none,(Heap.Ns1.of_empty e3).at λo q=>QZ _ q,λ_=>True.intro,λy f=>absurd rfl f⟩
def Dz(hb:attributeBase e f env (eval e env)=eval e env)
 (h:wpAny (model prog w) A (eval e env) (λo a=>wpAny (model prog w) A (getAttr o f true) Q E a) E s):wpAny (model prog w) A (eval (.Attribute e f pos) env) Q E s:=
 Attribute_any_ h (by rw[arm_eval_Attribute,hb])
end
def d_(K:Vx)(ta:TE)(f:Str):TE:=λσ H Q=>ta σ H λx H1=>∃a C dx fs v,x=.ref a/\H1 a=some (.ins C dx fs)/\qX K C/\NoAttr K C f/\fs.lookup f=some v/\Q v H1
def pI(K:Vx)(ta c:TE)(f:Str):TS:=λD σ H=>c σ H λy H1=>ta σ H1 λx b=>∃a C dx fs,x=.ref a/\b a=some (.ins C dx fs)/\qX K C/\NoAttr K C f/\fs.length<1000/\
 D.nx σ (upd b a (.ins C dx (ga f y fs)))
section
def cn(b:PE X e ta)(hb:attributeBase e f X.env (eval e X.env)=eval e X.env):PE X (.Attribute e f pos) (d_ X.K ta f):=by intro ac s σ H Q I h;refine Dz hb (cc (b ac s σ H _ I h) λu s1 z=>?_);obtain⟨x,H1,d,g,a,C,dx,fs,v,rfl,i,c,n,l,q⟩:=z;obtain rfl:u=Value.ref a:=g;exact ul d i c n l λk s2 j ru=>⟨v,H1,j,ru,q⟩
def g7(ha:PE X o ta)(b:PE X value tv)(d:swapsWith value (some (.Attribute o f pos')) pos.line X.env=pure false):PS X (.Assign [.Attribute o f pos'] value pos) (pI X.K ta tv f):=by intro ac s σ H D I h;refine plainObj_wpAny_Assign_Attribute (cc (b ac s σ H _ I h) λu s1 ⟨y,H1,e,g,q⟩=>cc (ha ac s1 σ H1 _ e q) λi s2 z=>?_) d;obtain⟨x,r,j,k,a,C,dx,fs,rfl,m,c,n,l,q2⟩:=z;obtain rfl:i=Value.ref a:=k;exact um j m c n l g λt p=>⟨σ,_,p,q2⟩
end
section
inductive k8(K:Vx) (H:Hp):V->Vz->Prop where
 |bz:k8 K H .bz (.type "NoneType")
 |bl (x:Bool):k8 K H (.bl x) (.type "bool")
 |int (i:Int):k8 K H (.int i) (.type "int")
 |str (x:Str):k8 K H (.str x) (.type "str")
 |Gh (x:UInt64):k8 K H (.Gh x) (.type "float")
 |lst {a:Addr} {xs:List V} (e:H a=some (.lst xs)):k8 K H (.ref a) (.type "list")
 |bw {a:Addr} {o:Obj} {xs:List V} (e:H a=some (.bw o (.lst xs))):k8 K H (.ref a) (.type "list")
 |tup {a:Addr} {xs:List V} (e:H a=some (.tup xs)):k8 K H (.ref a) (.type "tuple")
 |dK {a:Addr} {kvs:List (bW×V)} (e:H a=some (.dK kvs)):k8 K H (.ref a) (.type "dict")
 |dT {a:Addr} {kvs:List (List bW×V)} (e:H a=some (.dT kvs)):k8 K H (.ref a) (.type "dict")
 |ins {a C dx:Addr} {fs:List (Str×V)} (e:H a=some (.ins C dx fs)) (cl:qX K C) (ha:findIn K (.ref C) "__class__"=some (some (.builtin "object.__class__")))
  (hn:PySem.W.specialIn K (.builtin "object.__class__") "__get__"=some (some (.builtin "getset_descriptor.__get__"))) (htk:PySem.W.takesIn K (.builtin "object.__class__")=some true)
  (hm:PySem.W.mroIn K C (.type "object")=some true):k8 K H (.ref a) (.ref C)
def xu(I:Inv X ac σ H s)(d:RelV x u)(ty:k8 X.K H x t)(e:kitOne X.K t c=some b)(h:∀tk,Q (.bool b) {s with toks:=tk}) :
 wpAny (model X.prog X.w) A (call (.builtin "isinstance") [u,c]) Q E s:=by
 cases ty with
 |bz=>cases(show u=Value.none from d);exact SI PySem.W.kitx_none I.lg True.intro e (λz=>nomatch z) h
 |bl y=>cases(show u=Value.bool y from d);exact SI PySem.W.kitx_bool I.lg True.intro e (λz=>nomatch z) h
 |int i=>obtain⟨t,q⟩:=(show ∃t,u=Value.int i t from d);cases q;exact SI PySem.W.kitx_int I.lg True.intro e (λz=>nomatch z) h
 |str y=>obtain⟨t,q⟩:=(show ∃t,u=Value.str y t from d);cases q;exact SI PySem.W.kitx_str I.lg True.intro e (λz=>nomatch z) h
 |Gh y=>obtain⟨t,q⟩:=(show ∃t,u=Value.float y t from d);cases q;exact SI PySem.W.kitx_float I.lg True.intro e (λz=>nomatch z) h
 |@lst a xs f=>cases(show u=Value.ref a from d);obtain⟨_,_,n,_,h1⟩:=(show ObjOk X.prog X.w H s.heap a (.lst xs)from I.aW a _ f);exact SI PySem.W.kitx_list I.lg ⟨_,h1,rfl⟩ e (λz=>nomatch z) h
 |@bw a j xs f=>cases(show u=Value.ref a from d);obtain⟨_,_,_,n,_,h1⟩:=(show ObjOk X.prog X.w H s.heap a (.bw j (.lst xs))from I.aW a _ f);exact SI PySem.W.kitx_list I.lg ⟨_,h1,rfl⟩ e (λz=>nomatch z) h
 |@tup a xs f=>cases(show u=Value.ref a from d);obtain⟨_,_,_,p⟩:=(show ObjOk X.prog X.w H s.heap a (.tup xs)from I.aW a _ f);obtain⟨o,h1,h2,_⟩:=p;exact SI PySem.W.kitx_tuple I.lg ⟨o,h1,h2⟩ e (λz=>nomatch z) h
 |@dK a kvs f=>cases(show u=Value.ref a from d);obtain⟨_,_,vs,_,p⟩:=(show ObjOk X.prog X.w H s.heap a (.dK kvs)from I.aW a _ f);obtain⟨o,es,ep,h1,h2,_⟩:=p;exact SI Vg I.lg ⟨o,h1,h2.1⟩ e (λz=>nomatch z) h
 |@dT a kvs f=>cases(show u=Value.ref a from d);obtain⟨_,_,xs,_,o,es,ep,h1,h2,_⟩:=(show ObjOk X.prog X.w H s.heap a (.dT kvs)from I.aW a _ f);exact SI Vg I.lg ⟨o,h1,h2.1⟩ e (λz=>nomatch z) h
 |@ins a C dx fs f cl ha k g hm=>cases(show u=Value.ref a from d);obtain⟨l,O,_⟩:=lQ I.aW f;obtain⟨od,J,_⟩:=O.look;exact SI (PySem.W.kitx_own (cl.get _) cl.hd ha k g hm) I.lg J e (λz=>nomatch z) h
end
structure c9(k:Nat) (A:VA):Prop where
 hd:A.handled=none
 dp:A.depth+3*k+5<recursionLimit
 un:A.units+16*k+200<cLine
def c9.mono(r:c9 k A)(h:j<=k):c9 j A:=⟨r.hd,by have:=r.dp;lia,by have:=r.un;lia⟩
theorem c9.deeper(r:c9 (k+1) A)(env:Env):c9 k (A.deeper env):=⟨r.hd,by have:=r.dp;show A.depth+1+3*k+5<_;lia,by have:=r.un;show A.units+3+16*k+200<_;lia⟩
def uq{A:VA}{C:Addr}:(A.under (.builtin "type.__call__" ⟨.ref C::us,kw⟩)).depth=A.depth+1:=by
 first|rfl|simp[Around.under,Code.weight,Code.isCreation,Code.isGuard,Code.isCaller,Code.frames,Code.isFrame,guardIds]
def ur{A:VA}{C:Addr}:(A.under (.builtin "type.__call__" ⟨.ref C::us,kw⟩)).units=A.units+1:=by
 first|rfl|simp[Around.under,Code.cUnits,Code.frames,Code.isFrame]
def c9.make(r:c9 (k+1) A) (C:Addr) (us:List Vz) (a:List (Str×Vz)):c9 k (A.under (.builtin "type.__call__" ⟨.ref C::us,a⟩)):=⟨r.hd,by have:=r.dp;rw[uq];lia,by have:=r.un;rw[ur];lia⟩
theorem c9.depth(r:c9 k A):A.depth<recursionLimit:=by have:=r.dp;lia
theorem c9.units(r:c9 k A):A.units+64<cLine:=by have:=r.un;lia
noncomputable def aE:TA:=λ_ H Q=>Q [] H
noncomputable def aj(ta:TE)(tr:TA):TA:=λσ H Q=>ta σ H λx H1=>tr σ H1 λxs a=>Q (x::xs) a
section
def ao:PA X [] aE:=λ_ _ _ _ H Q I h=>UJ ⟨[],H,I,.nil,h⟩
def aa(ha:PE X e te)(b:PA X es t)(c:autoParam (starEach (e::es) X.env=(false,eval e X.env)::starEach es X.env) aM):PA X (e::es) (aj te t):=by intro a ac s σ H Q I h;rw[c];show wpAny _ _ (spliced ((false,eval e X.env)::backTo a (starEach es X.env))) _ _ s;refine T1 (cc (ha ac s σ H _ I h) λu s1 ⟨x,H1,d,f,q1⟩=>?_);exact cc (b a ac s1 σ H1 _ d q1) λus s2 ⟨xs,g,i,j,q2⟩=>⟨x::xs,g,i,.cons f j,q2⟩
def cI(t:TA):TE:=λσ H Q=>t σ H λxs H1=>xs.length<=sizeLine/\∀p,H1 p=none->Q (.ref p) (upd H1 p (.tup xs))
def dS(t:TA):TE:=λσ H Q=>t σ H λxs H1=>xs.length<=sizeLine/\∀p,H1 p=none->Q (.ref p) (upd H1 p (.lst xs))
def bo{x1}(h:PA X es t):PE X (.Tuple es x1 pos) (cI t):=by intro ac s σ H Q I c;refine wpAny_Tuple_spliced (cc (h pos ac s σ H _ I c) λus s1 ⟨xs,H1,a,r,z,q⟩=>⟨by rw[<- r.length];exact z,?_⟩);have d:H1 s1.heap.objs.size=none:=a.aW.fresh (QY _);refine⟨.ref s1.heap.objs.size,upd H1 s1.heap.objs.size (.tup xs),a.laid (t':=s1.toks) (λb u e=>QZ _ e) (QY _) ?_,rfl,q _ d⟩;exact⟨z,us,r,⟨_,Rb _ rfl,rfl,_,rfl⟩⟩
def bH(h:PA X es t):PE X (.List es pos) (dS t):=by intro ac s σ H Q I c;refine wpAny_List_spliced (cc (h pos ac s σ H _ I c) λus s1 ⟨xs,H1,a,r,z,q⟩=>⟨by rw[<- r.length];exact z,?_⟩);have d:H1 s1.heap.objs.size=none:=a.aW.fresh (QY _);refine⟨.ref s1.heap.objs.size,upd H1 s1.heap.objs.size (.lst xs),a.laid (t':=s1.toks) (λb u e=>QZ _ e) (QY _) ?_,rfl,q _ d⟩;exact⟨z,us,0,r,Rb _ rfl⟩
end
abbrev Sp:=List V->Hp->VK->XK->Prop
abbrev CS:=List Env->Hp->Vw->XK->Vz->Vw->Prop
structure vJ(P:Vy) (w:World) (K:Vx) (mg:Str->Option Vz) (base:Heap) (A:VA) (outer:List Env) (s:Vw) (H:Hp):Prop where
 frames:A.frames=some outer
 mod:Mod K mg base
 bs:∀b o,base.get? b=some o->s.heap.get? b=some o/\H b=none
 CZ:base.objs.size<=s.heap.objs.size
 k_:s.heap.FunFrames base outer
 Gj:∀b∈zg outer,H b=none
 aW:HOk P w H s.heap
 bare:AllBare s.gens
 kt:Nq K H
def CE(outer:List Env)(P:Vy)(w:World)(H:Hp)(s:Vw)(Q:VK)(u:Vz)(a:Vw):Prop:=∃v H',a.os=s.os/\AllBare a.gens/\Un (zg outer) [] H H' s.heap a.heap/\HOk P w H' a.heap/\RelV v u/\Q v H'
def CR(CX:CS)(outer:List Env)(P:Vy)(w:World)(H:Hp)(s:Vw)(Q:VK)(E:XK)(r:Result)(a:Vw):Prop:=
 match r with
 |.ok (.ret u)=>CE outer P w H s Q u a
 |.ok _=>False
 |.error e=>CX outer H s E e a
structure bF(P:Vy) (w:World) (K:Vx) (mg:Str->Option Vz) (base:Heap) (CX:CS) (k:Nat) (f:Addr) (fd:FuncData) (ps:List Str) (sp:Sp):Prop where
 len:∀vs H Q E,sp vs H Q E->vs.length=ps.length
 run:∀(A:VA)(outer:List Env)(s:Vw)(H:Hp)(args:Args)(us:List Vz)(vs:List V)(Q:VK)(E:XK),c9 k A->vJ P w K mg base A outer s H->BindsTo s fd args (ps.zip us)->Vals vs us->sp vs H Q E->
  codeAny (model P w) A (.call (.ref f) args) (CR CX outer P w H s Q E) s
def bF.imp{P:Vy}{w:World}{K:Vx}{mg:Str->Option Vz}{base:Heap}{CX:CS}(F:bF P w K mg base CX k f fd ps sp)
 (h:∀vs H Q E,sp' vs H Q E->sp vs H Q E):bF P w K mg base CX k f fd ps sp':=
 ⟨λvs H Q E q=>F.len vs H Q E (h _ _ _ _ q),λA outer s H args us vs Q E a b hb c d=>F.run A outer s H args us vs Q E a b hb c (h _ _ _ _ d)⟩
def vJ.make{P:Vy}{w:World}{K:Vx}{mg:Str->Option Vz}{base:Heap}(e:vJ P w K mg base A outer s H)(C:Addr)(us:List Vz)(a:List (Str×Vz)) :
 vJ P w K mg base (A.under (.builtin "type.__call__" ⟨.ref C::us,a⟩)) outer s H:=⟨by first|exact e.frames|(simpa[Around.under,Code.envs,Code.isFrame,pushEnvs]using e.frames),e.mod,e.bs,e.CZ,e.k_,e.Gj,e.aW,e.bare,e.kt⟩
section
def Inv.MR(I:Inv X ac σ H s):vJ X.prog X.w X.K X.mg X.base X.A X.stack s H:=⟨I.ok.frames,I.ok.mod,I.bs,Rx I.ok.CZ I.sz,I.stack,I.xh,I.aW,I.bare,I.kt⟩
def Inv.after(I:Inv X ac σ H s)(h:CE X.stack X.prog X.w H s Q u s'):EP X ac σ Q u s':=by obtain⟨v,H',os,bare,un,aW,r,q⟩:=h;obtain⟨c,g,d,t,a⟩:=s';obtain rfl:a=s.os:=os;exact⟨v,H',I.call (h':=c) (g':=g) (d':=d) (t':=t) (ch:=[]) un aW bare (λb z=>absurd z (by simp)),r,q⟩
end
noncomputable def bO(sp:Sp)(a:List V)(E:XK)(t:TA):TE:=λσ H Q=>t σ H λvs H1=>sp (vs++a) H1 Q E
def eG(C:Addr)(m:Str)(sp:Sp)(b:List V)(E:XK)(ta:TE)(t:TA):TE:=λσ H Q=>ta σ H λx H1=>∃a dx fs,x=.ref a/\H1 a=some (.ins C dx fs)/\fs.lookup m=none/\
 t σ H1 λvs c=>sp (x::(vs++b)) c Q E
def vT(C:Addr)(sp:Sp)(a:List V)(E:XK)(t:TA):TE:=λσ H Q=>t σ H λvs H1=>∀x dx,H1 x=none->H1 dx=none->dx≠x->
 sp (.ref x::(vs++a)) (upd (upd H1 dx (.own x)) x (.ins C dx [])) (λv b=>v=.bz/\Q (.ref x) b) E
def Binds(K:Vx)(fd:FuncData)(ps:List Str)(ds:List Vz):Prop:=∀(s:Vw)(us:List Vz),K.In s.heap->(us++ds).length=ps.length->BindsTo s fd ⟨us,[]⟩ (ps.zip (us++ds))
def Binds.all{K:Vx}(h:∀us:List Vz,us.length=ps.length->bindArgs fd ⟨us,[]⟩=pure (ps.zip us)):Binds K fd ps []:=λs us _ a=>by rw[R_]at a ⊢;exact .of_eq (h us a)
def fh(CX:CS)(X:Cx)(E:XK):Prop:=∀(ac:List (Addr×Obj))(σ:St)(H:Hp)(s:Vw)(e:Vz)(a:Vw),Inv X ac σ H s->CX X.stack H s E e a->X.xe e a
section
def ut(F:bF X.prog X.w X.K X.mg X.base CX k f fd ps sp)(c:c9 k X.A)(hb:Binds X.K fd ps ds)(hd:Vals dvs ds)(d:fh CX X E)
 (I:Inv X ac σ H s) (r:Vals vs us) (h:sp (vs++dvs) H Q E):wX X (call (.ref f) us) (EP X ac σ Q) X.xe s:=by
 have b:Vals (vs++dvs) (us++ds):=r.append hd;have g:(us++ds).length=ps.length:=by rw[<- b.length];exact F.len _ _ _ _ h
 refine wpAny_call (UR (F.run X.A X.stack s H ⟨us,[]⟩ (us++ds) (vs++dvs) Q E c I.MR (hb s us I.lg g) b h) λr i a=>?_);cases r with
 |error e=>exact d ac σ H s e i I a
 |ok fl=>
  cases fl with
  |ret u=>exact I.after a
  |next=>exact False.elim a
  |brk=>exact False.elim a
  |cont=>exact False.elim a
def aS(F:bF X.prog X.w X.K X.mg X.base CX k f fd ps sp)(d:c9 k X.A)(g:Gl X x)(hm:X.mg x=some (.ref f))(i:keepIn X.K (.ref f)=true)(hb:Binds X.K fd ps ds)(hd:Vals dvs ds)(j:fh CX X E)
 (ha:PA X (e::es) t) (a:autoParam (dB x) ab) (l:autoParam (sE X e es) aM) (b:autoParam (bT X pos es) aM) :
 PE X (.Call (.Name x p) (e::es) [] pos) (bO sp dvs E t):=by
 intro ac s σ H Q I h;refine T2 (pF I g hm ?_ a);refine Vd (h₀:=X.base) I.ok.mod.MV i (cc (ha pos ac s σ H _ I h) λus s1 ⟨vs,H1,c,r,q⟩=>⟨c.lg,?_⟩) l b;exact ut F d hb hd j c r q
def eL(n:PE X o ta)(c:qX X.K C)(hm:Meth X.K C m f)(F:bF X.prog X.w X.K X.mg X.base CX k f fd ps sp)(p:c9 k X.A)(hb:Binds X.K fd ps ds)(hd:Vals dvs ds)(v:fh CX X E)(ha:PA X (e::es) t)
 (b:autoParam (starEach (e::es) X.env=(false,eval e X.env)::starEach es X.env) aM) (d:autoParam (bT X pos es) aM)
 (y:autoParam (eval (.Call (.Attribute o m apos) (e::es) [] pos) X.env=(do
   let g <- eval o X.env
   standAt apos.atName
   let (f,first) <- holding [g] (getMethod g m pl)
   callWith pos f first (backTo pos (starEach (e::es) X.env)) (backToKw pos (keywordEach [] X.env)))) aM) :
 PE X (.Call (.Attribute o m apos) (e::es) [] pos) (eG C m sp dvs E ta t):=by
 intro ac s σ H Q I h;refine PySem.W.methodCall_KW (pl:=pl) (cc (n ac s σ H _ I h) λu s1 z=>?_) y;obtain⟨x,H1,i,B,a,dx,fs,rfl,D,l,q⟩:=z;obtain rfl:u=Value.ref a:=B;refine mr i D c hm l ?_;refine Vd (first:=[.ref a]) (h₀:=X.base) I.ok.mod.MV hm.kp (cc (ha pos ac s1 σ H1 _ i q) λus s2 ⟨vs,G,j,r,q2⟩=>⟨j.lg,?_⟩) b d;exact ut (us:=.ref a::us) (vs:=.ref a::vs) F p hb hd v j (.cons rfl r) q2
def mw(e:PE X o ta)(c:qX X.K C)(hm:Meth X.K C m f)(F:bF X.prog X.w X.K X.mg X.base CX k f fd ps sp)(g:c9 k X.A)(hb:Binds X.K fd ps ds)(hd:Vals dvs ds)(i:fh CX X E)
 (j:autoParam (eval (.Call (.Attribute o m apos) [] [] pos) X.env=(do
   let d <- eval o X.env
   standAt apos.atName
   let (f,first) <- holding [d] (getMethod d m pl)
   callWith pos f first (backTo pos (starEach [] X.env)) (backToKw pos (keywordEach [] X.env)))) aM) :
 PE X (.Call (.Attribute o m apos) [] [] pos) (eG C m sp dvs E ta aE):=by
 intro ac s σ H Q I h;refine PySem.W.methodCall_KW (pl:=pl) (cc (e ac s σ H _ I h) λu s1 z=>?_) j;obtain⟨x,H1,b,n,a,dx,fs,rfl,p,l,q⟩:=z;obtain rfl:u=Value.ref a:=n;refine mr b p c hm l ?_;exact PySem.W.callWith_K0 (first:=[.ref a]) b.lg hm.kp (ut (us:=[.ref a]) (vs:=[.ref a]) F g hb hd i b (.cons rfl .nil) q)
structure Mk(K:Vx) (C f:Addr):Prop where
 makes:PySem.W.makesIn K C=true
 init:findIn K (.ref C) "__init__"=some (some (.ref f))
 fn:isFn K (.ref f)=true
 kp:keepIn K (.ref C)=true
def rB(M:Mk X.K C f)(F:bF X.prog X.w X.K X.mg X.base CX k f fd ps sp)(g:c9 (k+1) X.A)(hb:Binds X.K fd ps ds)(hd:Vals dvs ds)
 (i:fh CX X E) (I:Inv X ac σ H s) (r:Vals vs us)
 (h:∀x dx,H x=none->H dx=none->dx≠x->sp (.ref x::(vs++dvs)) (upd (upd H dx (.own x)) x (.ins C dx [])) (λv j=>v=.bz/\Q (.ref x) j) E) :
 wX X (call (.ref C) us) (EP X ac σ Q) X.xe s:=by
 have c:=h (s.heap.objs.size+1) s.heap.objs.size (I.aW.fresh (Vj _)) (I.aW.fresh (QY _)) (Rt (SQ _));have b:=Inv.made (C:=C) I;have d:Vals (V.ref (s.heap.objs.size+1)::(vs++dvs)) (Value.ref (s.heap.objs.size+1)::(us++ds)):=.cons rfl (r.append hd);have l:(Value.ref (s.heap.objs.size+1)::us++ds).length=ps.length:=by have e:=d.length;rw[F.len _ _ _ _ c]at e;exact e.symm
 refine wpAny_call (zu (f:=f) I.lg M.makes M.init (U5.mp M.fn) (UR (F.run _ X.stack _ _ ⟨Value.ref (s.heap.objs.size+1)::us,[]⟩ (Value.ref (s.heap.objs.size+1)::(us++ds)) _ _ E (g.make C us [])
  (b.MR.make C us []) (hb _ (Value.ref (s.heap.objs.size+1)::us) b.lg l) d c) λr m a=>?_))
 cases r with
 |error e=>exact i ac σ _ _ e m b a
 |ok fl=>
  cases fl with
  |ret u=>obtain⟨v,H',n,o,p,q⟩:=b.after a;subst p;exact⟨o,⟨V.ref (s.heap.objs.size+1),H',n,rfl,q⟩⟩
  |next=>exact False.elim a
  |brk=>exact False.elim a
  |cont=>exact False.elim a
def DA(M:Mk X.K C f)(F:bF X.prog X.w X.K X.mg X.base CX k f fd ps sp)(d:c9 (k+1) X.A)(g:Gl X x)(hm:X.mg x=some (.ref C))(hb:Binds X.K fd ps ds)(hd:Vals dvs ds)(i:fh CX X E)
 (ha:PA X (e::es) t) (a:autoParam (dB x) ab) (j:autoParam (sE X e es) aM) (b:autoParam (bT X pos es) aM) :
 PE X (.Call (.Name x p) (e::es) [] pos) (vT C sp dvs E t):=by
 intro ac s σ H Q I h;refine T2 (pF I g hm ?_ a);refine Vd (h₀:=X.base) I.ok.mod.MV M.kp (cc (ha pos ac s σ H _ I h) λus s1 ⟨vs,H1,c,r,q⟩=>⟨c.lg,?_⟩) j b;exact rB M F d hb hd i c r q
def zv(M:Mk X.K C f)(F:bF X.prog X.w X.K X.mg X.base CX k f fd ps sp)(b:c9 (k+1) X.A)(c:Gl X x)(hm:X.mg x=some (.ref C))(hb:Binds X.K fd ps ds)(hd:Vals dvs ds)(d:fh CX X E)
 (a:autoParam (dB x) ab):PE X (.Call (.Name x p) [] [] pos) (vT C sp dvs E aE):=by
 intro ac s σ H Q I h;refine T2 (pF I c hm ?_ a);exact PySem.W.callWith_K0 I.lg M.kp (rB (us:=[]) M F b hb hd d I .nil h)
end
structure aP(N P:List Str) (sc:Scope):Prop where
 kind:sc.kind=.function
 co:sc.isCoroutine=false
 gen:sc.isGenerator=false
 nd:N.Nodup
 pre:N.take P.length=P
 par:∀x∈P,sc.names.lookup x=some .local\/sc.names.lookup x=some .cell
 Jw:∀y∈sc.names,y.2≠.free
theorem oM{kindOf:Str->Option NameKind}:∀{binds:List (Str×Vz)}{m:Str->Option Vz},(∀v,(x,v)∉binds)->bindL kindOf binds m x=m x
 |[],_,_=>rfl
 |(n,v)::r,m,h=>by
  unfold bindL;rw[oM λw a=>h w (Q7 _ a)];split
  .have:x≠n:=by rintro rfl;exact h v Q5
   simp[this]
  .rfl
theorem oN{kindOf:Str->Option NameKind}:∀{binds:List (Str×Vz)}{m:Str->Option Vz},(∀v,(x,v)∉binds)->bindC kindOf binds m x=m x
 |[],_,_=>rfl
 |(n,v)::r,m,h=>by
  unfold bindC;rw[oN λw a=>h w (Q7 _ a)];split
  .rfl
  .have:x≠n:=by rintro rfl;exact h v Q5
   simp[this]
theorem oO{kindOf:Str->Option NameKind}:∀{P:List Str}{vs:List Vz}{i:Nat}{m:Str->Option Vz},P.Nodup->P[i]?=some x->vs[i]?=some v->kindOf x=some .local->
 bindL kindOf (P.zip vs) m x=some v
 |[],_,_,_,_,h,_,_=>by simp at h
 |_::_,[],_,_,_,_,h,_=>by simp at h
 |p::P,w::vs,0,m,nd,h1,h2,a=>by simp at h1 h2;subst h1;subst h2;show bindL kindOf ((p,w)::P.zip vs) m p=_;unfold bindL;rw[oM λv b=>(Se.mp nd).1 (List.of_mem_zip b).1,Re a];simp
 |p::P,w::vs,i+1,m,nd,h1,h2,a=>by show bindL kindOf ((p,w)::P.zip vs) m x=_;unfold bindL;exact oO (i:=i) (Se.mp nd).2 (by simpa using h1) (by simpa using h2) a
theorem oP{kindOf:Str->Option NameKind}:∀{P:List Str}{vs:List Vz}{i:Nat}{m:Str->Option Vz},P.Nodup->P[i]?=some x->vs[i]?=some v->kindOf x≠some .local->
 bindC kindOf (P.zip vs) m x=some v
 |[],_,_,_,_,h,_,_=>by simp at h
 |_::_,[],_,_,_,_,h,_=>by simp at h
 |p::P,w::vs,0,m,nd,h1,h2,a=>by simp at h1 h2;subst h1;subst h2;show bindC kindOf ((p,w)::P.zip vs) m p=_;unfold bindC;rw[oN λv b=>(Se.mp nd).1 (List.of_mem_zip b).1,Rf a];simp
 |p::P,w::vs,i+1,m,nd,h1,h2,a=>by show bindC kindOf ((p,w)::P.zip vs) m x=_;unfold bindC;exact oP (i:=i) (Se.mp nd).2 (by simpa using h1) (by simpa using h2) a
noncomputable def bp(N:List Str)(vs:List V):St:=vs.map some++List.replicate (N.length-vs.length) none
noncomputable def uu(CX:CS)(P:Vy)(w:World)(K:Vx)(mg:Str->Option Vz)(base:Heap)(N:List Str)(qual:Str)(scope:Scope)(f:Addr)(cd:Vz)(A:VA)(outer:List Env)(s:Vw)(H:Hp)(E:XK):Cx where
 prog:=P
 w:=w
 K:=K
 mg:=mg
 base:=base
 A:=A.deeper (envOfC qual scope s.heap.objs.size f cd)
 N:=N
 s₀:=s
 H₀:=H
 env:=envOfC qual scope s.heap.objs.size f cd
 outer:=outer
 stack:=envOfC qual scope s.heap.objs.size f cd::outer
 ex:=[]
 calm:=true
 fn:=λ_=>true
 pn:=[]
 xe:=λe s'=>wpAny (model P w) (A.deeper (envOfC qual scope s.heap.objs.size f cd)) (leaving (envOfC qual scope s.heap.objs.size f cd) e) (λ_ s''=>CX outer H s E e s'') (λe' s''=>CX outer H s E e' s'') s'
def rC{a:Scope}(h:a.names.lookup x=some .cell):∃c,(cellsFrom n a.names []).lookup x=some c:=by have q:=PySem.W.cellsFrom_some a.names n [] (.inl h);exact Option.isSome_iff_exists.mp q
def xw{CX:CS}{P:Vy}{w:World}{K:Vx}{mg:Str->Option Vz}{base:Heap}{N ps:List Str}{qual:Str}{scope:Scope}
 (S:aP N ps scope) (hd:A.handled=none) (e0:vJ P w K mg base A outer s H) (t:vs.length=ps.length) (r:Vals vs us)
 (x:InCallC s s.heap.objs.size (bindL (envOfC qual scope s.heap.objs.size f cd).kindOf (ps.zip us) λ_=>none) (cellsFrom (s.heap.objs.size+1) scope.names []) (bindC (envOfC qual scope s.heap.objs.size f cd).kindOf (ps.zip us) λ_=>none) s1) :
 Inv (uu CX P w K mg base N qual scope f cd A outer s H E) [] (bp N vs) H s1:=by
 have m:ps.length<=N.length:=by have:=Sy List.length S.pre;rw[Sa]at this;lia
 obtain⟨h1,tk,rfl,j⟩:=x.done;have a:∀b:Addr,b∉(uu CX P w K mg base N qual scope f cd A outer s H E).ex:=λb z=>absurd (show b∈([]:List Addr)from z) (by simp);refine⟨⟨e0.mod,S.kind,rfl,rfl,QY _,λy z c h1 h2=>?_,λy hy=>?_,λy c _ h=>?_,λ_=>hd,Around.frames_deeper e0.frames,.inr ⟨rfl,rfl⟩,λb z=>absurd z (a b),e0.bs,e0.CZ,λb _ _=>a b,λb z=>absurd z (a b),e0.k_,e0.Gj,e0.kt⟩,
  rfl,e0.bare,Un.kept j,⟨_,x.toInCall.ns,λi y v h1 h2 h3=>?_⟩,λy c h=>⟨_,x.cell y c h⟩,e0.aW.fresh (QY _),λy c h=>?_,λp d=>absurd (show p∈([]:List (Addr×Obj))from d) (by simp),e0.aW.kept j,?_⟩
 .exact name_of_addr x.apart (S5 h1) (S5 h2)
 .have hy:scope.names.lookup y=some .cell\/scope.names.lookup y=some .free:=hy;rcases hy with hy|hy
  .exact rC hy
  .exact absurd rfl (S.Jw _ (S5 hy))
 .exact SG (x.above y c (S5 h))
 .have B:i<vs.length:=by
   grind [bp]
  have ha:vs[i]?=some v:=by grind [bp]
  obtain⟨u,l,o⟩:=r.get ha;have d:ps[i]?=some y:=by rw[<- S.pre,List.getElem?_take_of_lt (by lia)];exact h1
  have g:ps.Nodup:=by rw[<- S.pre];exact S.nd.sublist (List.take_sublist _ _)
  refine⟨u,o,?_⟩;rcases S.par y (RE d)with k|k
  .exact .inl ⟨k,oO g d l k⟩
  .obtain⟨c,e⟩:=rC (n:=s.heap.objs.size+1) k;refine .inr ⟨.inl k,c,e,?_⟩;have q:=x.cell y c e;rw[oP g d l (by show scope.names.lookup y≠_;rw[k];decide)]at q;exact q
 .exact e0.aW.fresh (SG (x.above y c (S5 h)))
 .unfold bp;show _=N.length;rw[Q8,Q0,List.length_replicate];lia
def JZ{CX:CS}{P:Vy}{w:World}{K:Vx}{mg:Str->Option Vz}{base:Heap}{k:Nat}{f:Addr}{name qual:Str}{a:Arguments}{c:List Stmt}{scope:Scope}{C kV doc pm cdv ct oc:Vz}{an od:Option Addr}
 {osl:Array (Option Vz)} {N ps:List Str} {sp:Sp} (lk:K.lookup f=some ⟨oc,od,.func (fnOf name qual a c scope C kV doc pm an cdv ct),osl⟩) (m:codeIn K cdv qual=true) (S:aP N ps scope)
 (len:∀vs H Q E,sp vs H Q E->vs.length=ps.length)
 (g:∀(A:VA)(outer:List Env)(s:Vw)(H:Hp)(vs:List V)(Q:VK)(E:XK),c9 k (A.deeper (envOfC qual scope s.heap.objs.size f cdv))->sp vs H Q E->
   ∃t,PSs (uu CX P w K mg base N qual scope f cdv A outer s H E) c t/\t {nx:=λ_ H'=>Q .bz H',rt:=Q} (bp N vs) H) :
 bF P w K mg base CX (k+1) f (fnOf name qual a c scope C kV doc pm an cdv ct) ps sp:=by
 refine⟨len,λA outer s H args us vs Q E p e0 hb r j=>?_⟩;have F:=len _ _ _ _ j;have D:K.In s.heap:=e0.mod.MV.keeps λb o e=>(e0.bs b o e).1;have lim:s.heap.NoLimit:=e0.mod.nolimit.keeps λb o e=>(e0.bs b o e).1;have h:∀y∈ps.zip us,scope.names.lookup y.1=some .local\/(scope.names.lookup y.1=some .cell/\((cellsFrom (s.heap.objs.size+1) scope.names []).lookup y.1).isSome=true):=λ⟨n,v⟩ G=>by
  rcases S.par n (List.of_mem_zip G).1 with q|q
  .exact .inl q
  .exact .inr ⟨q,PySem.W.cellsFrom_some _ _ _ (.inl q)⟩
 refine codeAny_call_function p.depth (D _ _ lk) rfl S.co S.gen rfl (PySem.W.codeRec_of D m) (hb _ _ _ _ ?_);refine wpAny_newFunctionEnv_cells S.kind h λenv L s1 x=>?_;subst L;refine⟨lim.keeps x.toInCall.keep,codeAny_func ?_⟩;obtain⟨t,M,O⟩:=g A outer s H vs Q E (p.deeper _) j;have I:Inv (uu CX P w K mg base N qual scope f cdv A outer s H E) [] (bp N vs) H s1:=xw S p.hd e0 F r x;refine S3 (M [] s1 (bp N vs) H _ I O) (λfl z i=>?_) λe z i=>i;have l:∀{d:St}{H':Hp}{v:V}{u:Vz},Inv (uu CX P w K mg base N qual scope f cdv A outer s H E) [] d H' z->RelV v u->Q v H'->CE outer P w H s Q u z:=λ{d H' v u} J B q=>⟨v,H',J.os,J.bare,J.base,J.aW,B,q⟩;cases fl with
 |ret u=>obtain⟨v,d,H',J,B,q⟩:=i;exact l J B q
 |next=>obtain⟨d,H',J,q⟩:=i;exact l (v:=V.bz) (u:=Value.none) J rfl q
 |brk=>obtain⟨_,_,_,q⟩:=i;exact False.elim q
 |cont=>obtain⟨_,_,_,q⟩:=i;exact False.elim q
section
variable{X:Cx}{x:Str}{p pos:Pos}{e:Expr}{es:List Expr}{t:TA}{id T:String}{r:List V->Hp->VK->Prop}
noncomputable def fK(r:List V->Hp->VK->Prop)(t:TA):TE:=λσ H Q=>t σ H λvs H1=>r vs H1 Q
theorem aR(c:CallR X (.builtin id) r) (d:Gl X x) (hm:X.mg x=none) (f:bootBuiltins x=some (.builtin id)) (ha:PA X (e::es) t) (g:autoParam (x≠"__name__") ab) (a:autoParam (dB x) ab)
 (i:autoParam (starEach (e::es) X.env=(false,eval e X.env)::starEach es X.env) aM) (b:autoParam (bT X pos es) aM):PE X (.Call (.Name x p) (e::es) [] pos) (fK r t):=by
 intro ac s σ H Q I h;refine T2 (ml I d hm f ?_ g a);exact PyProof.Rows.callWith_builtin1 (cc (ha pos ac s σ H _ I h) λus s1 ⟨vs,H1,j,k,q1⟩=>c ac s1 σ H1 vs us Q j k q1) i b
theorem bX(c:CallR X (.type T) r) (d:Gl X x) (hm:X.mg x=none) (f:bootBuiltins x=some (.type T)) (ha:PA X (e::es) t) (g:autoParam (x≠"__name__") ab) (a:autoParam (dB x) ab)
 (i:autoParam (starEach (e::es) X.env=(false,eval e X.env)::starEach es X.env) aM) (b:autoParam (bT X pos es) aM):PE X (.Call (.Name x p) (e::es) [] pos) (fK r t):=by
 intro ac s σ H Q I h;refine T2 (ml I d hm f ?_ g a);exact T4 (cc (ha pos ac s σ H _ I h) λus s1 ⟨vs,H1,j,k,q1⟩=>c ac s1 σ H1 vs us Q j k q1) i b
end
end L2
namespace HT
open PySem PyProof.Rows
section
def cat_tup(m:IsTup s.heap t vs.toArray)(hb:IsTup s.heap b ws.toArray)(j:vs≠[])
 (h1:ws=[]->Q (.ref t) s) (h2:ws≠[]->Q (.ref s.heap.objs.size) { s with heap:=s.heap.push { cls:=.type "tuple",data:=.seq (vs++ws).toArray } })
 (hsz:vs.length+ws.length<=sizeLine):wpAny (model prog w) A (binaryOp .Add (.ref t) (.ref b)) Q E s:=by
 obtain⟨⟨cls,dd,data,sl⟩,h,k,n,hd⟩:=id m;obtain⟨⟨l,c,data2,d⟩,a,f,n2,g⟩:=id hb;simp only at k hd f g;subst k hd f g;have e:vs.toArray++ws.toArray=(vs++ws).toArray:=by simp
 by_cases i:ws=[]
 .exact concat_meets ⟨_,h,rfl⟩ ⟨_,a,rfl⟩ noFill_tuple_add seq_tuple_add PySem.F.slot_tuple_add PySem.F.entry_tuple_add (PySem.F.args_tuple_add_2 _ _)
   (tuple_addW1 t b vs.toArray ws.toArray n n2 dd c sl d (by simpa using j) (by simp[i])) ⟨h,a,h1 i⟩
 .refine concat_meets ⟨_,h,rfl⟩ ⟨_,a,rfl⟩ noFill_tuple_add seq_tuple_add PySem.F.slot_tuple_add PySem.F.entry_tuple_add (PySem.F.args_tuple_add_2 _ _)
   (tuple_addW2 t b vs.toArray ws.toArray n n2 dd c sl d (by simpa using j) (by simpa using i) (by rw[Ra,Ra];exact hsz)) ⟨h,a,?_⟩
  rw[e];exact h2 i
noncomputable def sIx(n d:Nat):Option Int->Nat
 |none=>d
 |some v=>if v<0 then(v+(n:Int)).toNat else min v.toNat n
def sIx_nat(n d k:Nat):sIx n d (some (k:Int))=min k n:=by show(if(k:Int)<0 then((k:Int)+(n:Int)).toNat else min (k:Int).toNat n)=min k n;rw[Rf (by lia),T9]
def GC(n d:Nat)(hd:d<=n)(o:Option Int):sIx n d o<=n:=by
 cases o with
 |none=>exact hd
 |some v=>
  show(if v<0 then(v+(n:Int)).toNat else min v.toNat n)<=n
  grind
def vU(v:Int)(n d:Nat):(if v<0 then max (v+(n:Int)) 0 else min v (n:Int))=((sIx n d (some v):Nat):Int):=by
 show(if v<0 then max (v+(n:Int)) 0 else min v (n:Int))=(((if v<0 then(v+(n:Int)).toNat else min v.toNat n):Nat):Int)
 grind
def uv(lo a:Option Int)(n:Nat):Builtin.Slice.sliceAdjust lo a 1 (n:Int)=(((sIx n 0 lo:Nat):Int),((sIx n n a:Nat):Int)):=by
 have h1:¬((1:Int)<0):=by lia
 unfold Builtin.Slice.sliceAdjust;simp only[h1,Sx];refine U2 ?_ ?_
 .cases lo with
  |none=>rfl
  |some v=>exact vU v n 0
 .cases a with
  |none=>rfl
  |some v=>exact vU v n n
def uw(i j:Nat):Builtin.Slice.slicePlaces (i:Int) (j:Int) 1=j-i:=by
 unfold Builtin.Slice.slicePlaces
 grind
def mB(p:IsPart v o)(h:Q o s):wpAny (model prog w) A (Builtin.Slice.slicePartIndex v) Q E s:=by
 cases p with
 |none=>exact slicePart_none h
 |int i t=>exact slicePart_int h
def sliceApplied_gen{lo a:Option Int}{n:Nat}{Q:Int×Int×Nat->Vw->Prop}(d:s.heap.IsSliceOf sl vl vu .none)(pl:IsPart vl lo)(e:IsPart vu a)
 (h:Q (((sIx n 0 lo:Nat):Int),1,sIx n n a-sIx n 0 lo) s):wpAny (model prog w) A (Builtin.Slice.sliceApplied (.ref sl) (pure (n:Int))) Q E s:=by
 obtain⟨os,b,f,c⟩:=id d;unfold Builtin.Slice.sliceApplied Builtin.Slice.sliceFields;refine KE (KE (UK b c (x:=vl) rfl (KE (UK b c (x:=vu) rfl (KE (UK b c (x:=.none) rfl (QX ?_)))))));refine KE (slicePart_none ?_);show wpAny _ _ (if((1:Int)==0)=true then _ else _) _ _ s;rw[Rf (by decide)];refine KE (mB pl (KE (mB e (KE (QX ?_)))));show wpAny _ _ (match Builtin.Slice.sliceAdjust lo a 1 (n:Int)with|(lo,a)=>pure (lo,(1:Int),Builtin.Slice.slicePlaces lo a 1)) _ _ s;rw[uv lo a n];show wpAny _ _ (pure (((sIx n 0 lo:Nat):Int),(1:Int),Builtin.Slice.slicePlaces ((sIx n 0 lo:Nat):Int) ((sIx n n a:Nat):Int) 1)) _ _ s;rw[uw];exact QX h
def zx(xs:Array Vz)(i k:Nat):((List.range k).filterMap λ(m:Nat)=>xs[((i:Int)+(m:Int)*1).toNat]?).toArray=((xs.toList.drop i).take k).toArray:=by
 have e:(λ(m:Nat)=>xs[((i:Int)+(m:Int)*1).toNat]?)=λm=>xs[i+m]?:=by grind
 rw[e];have:=pick_run xs i k;rw[List.filterMap_map]at this;have e2:((λx=>xs[x]?) ∘ λx=>i+x)=λm=>xs[i+m]?:=rfl;rw[e2]at this;rw[this]
def getItem_tuple_cut{i j:Vz}{lo b:Option Int}{Q:Vz->Vw->Prop}(c:IsTup s.heap t items)(k:s.heap.IsSliceOf sl i j .none)(pl:IsPart i lo)(l:IsPart j b)
 (o:¬(sIx items.size 0 lo=0/\sIx items.size items.size b=items.size))
 (h:Q (.ref s.heap.objs.size) { s with heap:=s.heap.push { cls:=.type "tuple",data:=.seq ((items.toList.drop (sIx items.size 0 lo)).take (sIx items.size items.size b-sIx items.size 0 lo)).toArray } })
 (hsz:items.size<=sizeLine):wpAny (model prog w) A (getItem (.ref t) (.ref sl)) Q E s:=by
 have a:sizeOk (.seq ((items.toList.drop (sIx items.size 0 lo)).take (sIx items.size items.size b-sIx items.size 0 lo)).toArray):=by
  show((items.toList.drop (sIx items.size 0 lo)).take (sIx items.size items.size b-sIx items.size 0 lo)).toArray.size<=sizeLine
  grind
 have p:sIx items.size items.size b<=items.size:=GC _ _ (QY _) b;obtain⟨os,d,e,n⟩:=id k;have f:s.TypeIs (.ref sl) "slice":=⟨os,d,e⟩;unfold getItem
 try with_reducible refine Sk ?_
 first|refine KE (QX ?_)|skip
 refine KE (wpAny_sequenceKey c.typeIs (by decide) ?_);refine KE (SK (name:=Str.ofString "__getitem__") c.typeIs Sv
  (R7 Sv c.typeIs entry_tuple_getitem ?_ (args_tuple_getitem _ _)))
 show wpAny _ _ (Builtin.Tuple.tupleItemsOf (.ref t) >>= _) _ _ s;refine KE (tupleItemsOf_ c ?_);refine KE (T5 f ?_);rw[Re (by decide)];refine KE (sliceApplied_gen k pl l ?_);have g:¬((((sIx items.size 0 lo:Nat):Int)==0&&(1:Int)==1&&(sIx items.size items.size b-sIx items.size 0 lo)==items.size)=true):=by grind
 show wpAny _ _ (if(((sIx items.size 0 lo:Nat):Int)==0&&(1:Int)==1&&(sIx items.size items.size b-sIx items.size 0 lo)==items.size)=true then _ else _) _ _ s;rw[Rf g,zx]
 first
  |exact KE (m:=Builtin.Tuple.tupleExact _) (R3 (QX ⟨_,rfl,QX h⟩) a)
  |exact KE (m:=Builtin.Tuple.tupleExact _) (R3 (KE (QX (QX ⟨_,rfl,QX h⟩))) a)
  |exact KE (KE (m:=Builtin.Tuple.tupleExact _) (R3 (QX (QX ⟨_,rfl,QX h⟩)) a))
  |exact KE (KE (m:=Builtin.Tuple.tupleExact _) (R3 (QX ⟨_,rfl,QX h⟩) a))
end
end HT
namespace L2
open PySem PySem.Spec PyProof.Rows
abbrev TO:=St->Hp->(Option Int->Hp->Prop)->Prop
def PO(X:Cx)(e:Option Expr)(t:TO):Prop:=
 ∀(ac:List (Addr×Obj))(s:Vw)(σ:St)(H:Hp)(Q:Option Int->Hp->Prop),Inv X ac σ H s->t σ H Q->
  wpAny (model X.prog X.w) X.A (evalPart e X.env) (λu a=>∃o H',Inv X ac σ H' a/\IsPart u o/\Q o H') X.xe s
noncomputable def lR:TO:=λ_ H Q=>Q none H
noncomputable def lq(t:TE):TO:=λσ H Q=>t σ H λx H1=>∃i,x=.int i/\Q (some i) H1
section
variable{X:Cx}{e:Expr}{te:TE}{lo hi:Option Expr}{tl th:TO}{pos p2:Pos}
def pJ:PO X none lR:=by intro ac s σ H Q I h;rw[evalPart_none];exact QX ⟨none,H,I,.none,h⟩
def gp(h:PE X e te):PO X (some e) (lq te):=by intro ac s σ H Q I a;rw[evalPart_some];refine cc (h ac s σ H _ I a) λu s1 ⟨x,H1,b,c,q1⟩=>?_;obtain⟨i,rfl,q⟩:=q1;obtain⟨t,rfl⟩:=c;exact⟨some i,H1,b,.int i t,q⟩
def J0(X:Cx)(r:V->Option Int->Option Int->Hp->VK->Prop):Prop:=
 ∀(ac:List (Addr×Obj))(s:Vw)(σ:St)(H:Hp)(x:V)(v a b:Vz)(lo hi:Option Int)(sl:Addr)(Q:VK),Inv X ac σ H s->RelV x v->s.heap.IsSliceOf sl a b .none->IsPart a lo->IsPart b hi->r x lo hi H Q->
  ∃T id,typeLookup (.type T) "__getitem__"=pure (some (.builtin id))/\s.TypeIs v T/\wpAny (model X.prog X.w) X.A (getItem v (.ref sl)) (EP X ac σ Q) X.xe s
noncomputable def GD(r:V->Option Int->Option Int->Hp->VK->Prop)(te:TE)(tl th:TO):TE:=λσ H Q=>te σ H λx H1=>tl σ H1 λl a=>th σ a λu H3=>r x l u H3 Q
def g8(d:J0 X r)(f:PE X e te)(g:PO X lo tl)(i:PO X hi th):PE X (.Subscript e (.Slice lo hi none p2) pos) (GD r te tl th):=by intro ac s σ H Q I h;refine Subscript_ (cc (f ac s σ H _ I h) λv s1 ⟨x,H1,j,k,q1⟩=>?_);refine wpAny_Slice (cc (g ac s1 σ H1 _ j q1) λc s2 ⟨l,m,n,pl,q2⟩=>cc (i ac s2 σ m _ n q2) λvu a ⟨u,H3,o,p,t⟩=>?_);rw[evalPart_none];refine QX ?_;have w:Inv X ac σ H3 { a with heap:=a.heap.push { cls:=.type "slice",data:=.fields #[c,vu,.none] } }:=o.kept (t':=a.toks) λb B q=>QZ _ q;obtain⟨T,id,y,z,A⟩:=d ac { a with heap:=a.heap.push { cls:=.type "slice",data:=.fields #[c,vu,.none] } } σ H3 x v c vu l u a.heap.objs.size Q w k (Heap.IsSliceOf.new ..) pl p t;show wX X (subscriptTail e (.Slice lo hi none p2) v (.ref a.heap.objs.size)) (EP X ac σ Q) X.xe { a with heap:=a.heap.push { cls:=.type "slice",data:=.fields #[c,vu,.none] } };exact tail_any (ops:=[.ref a.heap.objs.size,v]) z y A (by with_unfolding_all rfl)
def dU(xs:List V)(lo hi:Option Int):List V:=(xs.drop (HT.sIx xs.length 0 lo)).take (HT.sIx xs.length xs.length hi-HT.sIx xs.length 0 lo)
theorem g_(xs:List V)(lo hi:Option Int):(dU xs lo hi).length<=xs.length:=by unfold dU;rw[Sa,Um];lia
def Ny(K:Vx):V->Option Int->Option Int->Hp->VK->Prop:=λx lo hi H Q=>∃a xs,x=.ref a/\SqT K H a xs/\
 ¬(HT.sIx xs.length 0 lo=0/\HT.sIx xs.length xs.length hi=xs.length)/\∀p,H p=none->Q (.ref p) (upd H p (.tup (dU xs lo hi)))
theorem GE:J0 X (Ny X.K):=by
 intro ac s σ H x v l m lo hi sl Q I f g pl i h;obtain⟨a,xs,rfl,j,k,q⟩:=h;cases f;obtain⟨its,r,d,hz⟩:=I.tuple j;have c:its.toArray.size=xs.length:=by rw[Ra];exact r.length.symm
 refine⟨"tuple",_,Sv.lookup,d.typeIs,?_⟩;refine HT.getItem_tuple_cut d g pl i (by rw[c];exact k) ?_ (by rw[c];exact hz);rw[c];refine⟨.ref s.heap.objs.size,_,I.laid (t':=s.toks) (o:=.tup (dU xs lo hi)) (λb n q=>QZ _ q) (QY _) ?_,rfl,q _ (I.aW.fresh (QY _))⟩;exact⟨Rx (g_ xs lo hi) hz,_,(r.drop (HT.sIx xs.length 0 lo)).take (HT.sIx xs.length xs.length hi-HT.sIx xs.length 0 lo),IsTup.new _ _⟩
def J1(K:Vx):R2:=λx y H Q=>∃a b xs c,x=.ref a/\y=.ref b/\SqT K H a xs/\SqT K H b c/\xs≠[]/\xs.length+c.length<=sizeLine/\
 (c=[]->Q (.ref a) H)/\(c≠[]->∀p,H p=none->Q (.ref p) (upd H p (.tup (xs++c))))
def Vals.qT(r:Vals xs us):us=[]↔xs=[]:=by
 cases r with
 |nil=>simp
 |cons _ _=>simp
theorem op_catT:OpR X (binaryOp .Add) (J1 X.K):=by intro ac s σ H x y v u Q I g i h;obtain⟨a,b,xs,j,rfl,rfl,ha,hb,k,hz,q1,q2⟩:=h;cases g;cases i;obtain⟨its,d,p1,_⟩:=I.tuple ha;obtain⟨f,c,p2,_⟩:=I.tuple hb;refine HT.cat_tup p1 p2 (λz=>k (d.qT.mp z)) (λz=>⟨.ref a,H,I,rfl,q1 (c.qT.mp z)⟩) (λz=>?_) (by rw[<- d.length,<- c.length];exact hz);refine⟨.ref s.heap.objs.size,_,I.laid (t':=s.toks) (o:=.tup (xs++j)) (λb l q=>QZ _ q) (QY _) ?_,rfl,q2 (λw=>z (c.qT.mpr w)) _ (I.aW.fresh (QY _))⟩;exact⟨by rw[Q8];exact hz,_,d.append c,IsTup.new _ _⟩
end
noncomputable def zy(n:Nat)(i:Int):Option Nat:=if 0<=i then(if i<n then some i.toNat else none)else if -(n:Int)<=i then some (i+n).toNat else none
def f_{α:Type}(xs:List α)(i:Int):Option α:=(zy xs.length i).bind λj=>xs[j]?
def DB(h:zy n i=some j):seqIndex? i n=some j/\j<n/\-(n:Int)<=i/\i<n:=by
 unfold zy at h;by_cases h0:0<=i
 .rw[Re h0]at h;by_cases h1:i<n
  .rw[Re h1]at h;have e:i.toNat=j:=R0 h;exact⟨by rw[seqIndex_of h0 h1,e],by lia,by lia,h1⟩
  .rw[Rf h1]at h;cases h
 .rw[Rf h0]at h;by_cases h1:-(n:Int)<=i
  .rw[Re h1]at h;have e:(i+n).toNat=j:=R0 h;exact⟨by rw[seqIndex_neg (by lia) h1,e],by lia,h1,by lia⟩
  .rw[Rf h1]at h;cases h
def pK{α:Type}{xs:List α}{i:Int}{v:α}(h:f_ xs i=some v):∃j,seqIndex? i xs.length=some j/\xs[j]?=some v/\j<xs.length/\-(xs.length:Int)<=i/\i<xs.length:=by
 unfold f_ at h;cases e:zy xs.length i with
 |none=>rw[e]at h;cases h
 |some j=>rw[e]at h;obtain⟨h1,h2,h3,a⟩:=DB e;exact⟨j,h1,h,h2,h3,a⟩
def ce{α:Type}{xs:List α}{j:Nat}{v:α}(h:xs[j]?=some v):f_ xs (j:Int)=some v:=by grind [zy,f_]
def vV(b:Expr):Prop:=∀o i,subscripted b false o i=operate [o,i] (getItem o i)
def IxR(X:Cx)(r:R2):Prop:=
 ∀(b a:Expr)(ac:List (Addr×Obj))(s:Vw)(σ:St)(H:Hp)(x y:V)(v u:Vz)(Q:VK),Inv X ac σ H s->RelV x v->RelV y u->r x y H Q->
  subscripted a false v u=operate [v,u] (getItem v u)->wpAny (model X.prog X.w) X.A (subscriptTail b a v u) (EP X ac σ Q) X.xe s
def FF(X:Cx)(id:String)(r:V->List V->Hp->VK->Prop):Prop:=
 ∀(ac:List (Addr×Obj))(s:Vw)(σ:St)(H:Hp)(x:V)(xs:List V)(v:Vz)(us:List Vz)(Q:VK),Inv X ac σ H s->RelV x v->Vals xs us->r x xs H Q->
  wpAny (model X.prog X.w) X.A (call (.builtin id) (v::us)) (EP X ac σ Q) X.xe s
section
variable{X:Cx}
def IxR.or(h:IxR X r)(h':IxR X r'):IxR X (λx y H Q=>r x y H Q\/r' x y H Q):=by
 intro a b ac s σ H x y v u Q I c d q e;rcases q with q|q
 .exact h a b ac s σ H x y v u Q I c d q e
 .exact h' a b ac s σ H x y v u Q I c d q e
def aN(c:IxR X r)(ha:PE X a ta)(hb:PE X b tb)(d:vV b):PE X (.Subscript a b pos) (bj r ta tb):=by intro ac s σ H Q I h;exact Subscript_ (Gv ha hb I h λv u s2 x y e f g i q=>c a b ac s2 σ e x y v u Q f g i q (d _ _))
def kE(K:Vx):R2:=λx y H Q=>∃p xs i v,x=.ref p/\y=.int i/\SqL K H p xs/\f_ xs i=some v/\Q v H
def kF(K:Vx):R2:=λx y H Q=>∃p xs i v,x=.ref p/\y=.int i/\SqT K H p xs/\f_ xs i=some v/\Q v H
def J2:R2:=λx y H Q=>∃z i c,x=.str z/\y=.int i/\z.length<=sizeLine/\f_ z.cps.toList i=some c/\Q (.str ⟨#[c]⟩) H
def ix_list:IxR X (kE X.K):=by
 intro b c ac s σ H x y v u Q I k l h f;obtain⟨p,xs,i,z,rfl,rfl,m,n,q⟩:=h;cases k;obtain⟨t,rfl⟩:=l;obtain⟨its,r,pl,hz⟩:=I.list m;obtain⟨j,h1,h2,h3,o,A⟩:=pK n;obtain⟨w,g,d⟩:=r.get h2;have B:=r.length;have D:=kC;have a:EP X ac σ Q w s:=⟨z,H,I,d,q⟩;by_cases h0:0<=i
 .have e:i.toNat=j:=by rw[seqIndex_of h0 A]at h1;exact R0 h1
  exact item_listR pl.isList h0 (by lia) (by rw[e];simpa using g) a f
 .have e:(i+(its.toArray.size:Int)).toNat=j:=by rw[seqIndex_neg (by lia) o]at h1;rw[Ra,<- B];exact R0 h1
  exact subscriptTail_builtinR (x:=w) pl.isList.typeIs slot_list_getitem.lookup
   (wpAny_getItem_list_neg (Q:=λr C=>r=w/\EP X ac σ Q r C) pl.isList (by lia) (by rw[Ra]<;>lia) (by lia) (by rw[e];simpa using g) ⟨rfl,a⟩) f
def ix_tup:IxR X (kF X.K):=by
 intro a b ac s σ H x y v u Q I e f h g;obtain⟨p,xs,i,z,rfl,rfl,k,l,q⟩:=h;cases e;obtain⟨t,rfl⟩:=f;obtain⟨its,r,pl,hz⟩:=I.tuple k;obtain⟨j,h1,h2,h3,A,B⟩:=pK l;obtain⟨w,m,c⟩:=r.get h2;have n:=r.length;have C:=kC;have d:EP X ac σ Q w s:=⟨z,H,I,c,q⟩;exact subscriptTail_builtinR (x:=w) pl.typeIs slot_tuple_getitem.lookup
  (getItem_tuple (j:=j) (Q:=λr o=>r=w/\EP X ac σ Q r o) pl (by lia) (by lia) (by rw[Ra,<- n];exact h1) (by simpa using m) ⟨rfl,d⟩) g
def GF:IxR X J2:=by
 intro a b ac s σ H x y v u Q I d e h f;obtain⟨z,i,c,rfl,rfl,hz,g,q⟩:=h;obtain⟨t,rfl⟩:=d;obtain⟨t',rfl⟩:=e;obtain⟨j,h1,h2,h3,k,l⟩:=pK g;have m:z.cps.toList.length=z.length:=by simp[Str.length]
 rw[m]at h1 k l;have n:=kC;exact tail_any (typeIs_str s z t) slot_str_getitem.lookup (getItem_str (c:=c) (by have e1:decide (i < -(2^63:Int))=false:=RK (by lia);have e2:decide (i>=2^63)=false:=RK (by lia);rw[e1,e2,Bool.or_false]) (by rw[h1];simpa using h2) ⟨.str ⟨#[c]⟩,H,I.tok _,⟨_,rfl⟩,q⟩) f
def PL(K:Vx):R2:=λx y H Q=>kE K x y H Q\/kF K x y H Q\/J2 x y H Q
def GG:IxR X (PL X.K):=ix_list.or (ix_tup.or GF)
def pM(lo a:Option Int)(n:Nat):(sliceBounds lo a none n).1=((HT.sIx n 0 lo:Nat):Int)/\(sliceBounds lo a none n).2.1=((HT.sIx n n a:Nat):Int)/\(sliceBounds lo a none n).2.2=1:=by
 refine⟨?_,?_,rfl⟩
 .cases lo with
  |none=>simp[sliceBounds,HT.sIx]
  |some i=>
   simp only[sliceBounds,HT.sIx,Option.getD_none,show(1:Int)>0 by decide,TB]
   grind
 .cases a with
  |none=>simp[sliceBounds,HT.sIx]
  |some i=>
   simp only[sliceBounds,HT.sIx,Option.getD_none,show(1:Int)>0 by decide,TB]
   grind
def nY(its:List Vz)(lo a:Option Int):slicePick its.toArray lo a none=((its.drop (HT.sIx its.length 0 lo)).take (HT.sIx its.length its.length a-HT.sIx its.length 0 lo)).toArray:=by obtain⟨h1,h2,h3⟩:=pM lo a its.toArray.size;unfold slicePick;rw[h1,h2,h3];simp only[sliceRange_one,pick_run,Ra]<;>rfl
def zA(K:Vx):V->Option Int->Option Int->Hp->VK->Prop:=λx lo b H Q=>∃a xs,x=.ref a/\SqL K H a xs/\∀p,H p=none->Q (.ref p) (upd H p (.lst (dU xs lo b)))
def lS:J0 X (zA X.K):=by intro ac s σ H x v k l lo c sl Q I e f pl g h;obtain⟨a,xs,rfl,i,q⟩:=h;cases e;obtain⟨its,r,d,hz⟩:=I.list i;have j:=r.length;refine⟨"list",_,slot_list_getitem.lookup,d.isList.typeIs,?_⟩;refine wpAny_getItem_list_slice d.isList f pl g .none (by simp) ?_ (by rw[Ra]<;>lia);rw[nY,<- j];refine⟨.ref s.heap.objs.size,_,I.laid (t':=s.toks) (o:=.lst (dU xs lo c)) (λb m q=>QZ _ q) (QY _) ?_,rfl,q _ (I.aW.fresh (QY _))⟩;exact⟨Rx (g_ xs lo c) hz,_,0,(r.drop (HT.sIx xs.length 0 lo)).take (HT.sIx xs.length xs.length c-HT.sIx xs.length 0 lo),Rb _ rfl⟩
def call_len_seq:CallR X (.builtin "len") (λxs H Q=>∃p a,xs=[.ref p]/\(SqL X.K H p a\/SqT X.K H p a)/\Q (.int a.length) H):=by
 intro ac s σ H xs us Q I r h;obtain⟨p,a,rfl,hq,q⟩:=h;obtain⟨u,rfl,d⟩:=dR r;cases d;have e:=kC;rcases hq with hq|hq
 .obtain⟨its,b,pl,hz⟩:=I.list hq;have c:=b.length;exact Calls.call_len_list pl.isList (by simp only[Ra]<;>lia) ⟨.int a.length,H,I.tok _,⟨s.toks+1,by rw[Ra,c]⟩,q⟩
 .obtain⟨its,b,pl,hz⟩:=I.tuple hq;have c:=b.length;exact len_tuple pl (by simp only[Ra]<;>lia) ⟨.int a.length,H,I.tok _,⟨s.toks+1,by rw[Ra,c]⟩,q⟩
def pN:CallR X (.builtin "len") (λxs H Q=>∃z,xs=[.str z]/\z.length<=sizeLine/\Q (.int z.length) H):=by intro ac s σ H xs us Q I r h;obtain⟨z,rfl,hz,q⟩:=h;obtain⟨u,rfl,t,rfl⟩:=dR r;have a:=kC;exact len_str (by lia) ⟨.int z.length,H,I.tok _,⟨_,rfl⟩,q⟩
def CallR.or(h:CallR X f r)(h':CallR X f r'):CallR X f (λxs H Q=>r xs H Q\/r' xs H Q):=by
 intro ac s σ H xs us Q I rs q;rcases q with q|q
 .exact h ac s σ H xs us Q I rs q
 .exact h' ac s σ H xs us Q I rs q
def pO:CallR X (.type "list") (λxs H Q=>∃p a,xs=[.ref p]/\(SqL X.K H p a\/SqT X.K H p a)/\∀l,H l=none->Q (.ref l) (upd H l (.lst a))):=by
 intro ac s σ H xs us Q I r h;obtain⟨p,a,rfl,hq,q⟩:=h;obtain⟨u,rfl,k⟩:=dR r;cases k;have f:∀(its:List Vz),Vals a its->a.length<=sizeLine->∀(h':Heap)(c:Nat),(∀b j,s.heap.get? b=some j->h'.get? b=some j)->
  h'.get? s.heap.objs.size=some { cls:=.type "list",dict:=none,data:=.seq its.toArray c,slots:=#[] }->EP X ac σ Q (.ref s.heap.objs.size) {s with heap:=h'}:=λits d hz h' c kp e=>
  ⟨.ref s.heap.objs.size,_,I.laid (t':=s.toks) kp (QY _) (show ObjOk X.prog X.w _ h' _ (.lst a)from⟨hz,its,c,d,e⟩),rfl,q _ (I.aW.fresh (QY _))⟩
 rcases hq with hq|hq
 .obtain⟨its,d,pl,hz⟩:=I.list hq;have m:=d.length;obtain⟨o,g,i,n,hd⟩:=pl.isList;exact call_list_seq p (.inl rfl) g i hd (λh' c kp e=>f its d hz h' c kp e) (by simp only[Ra]<;>lia)
 .obtain⟨its,d,pl,hz⟩:=I.tuple hq;have m:=d.length;obtain⟨o,g,i,n,hd⟩:=pl;exact call_list_seq p (.inr rfl) g i hd (λh' c kp e=>f its d hz h' c kp e) (by simp only[Ra]<;>lia)
def J3(K:Vx)(T:String)(x:V)(H:Hp):Prop:=match x with
 |.str _=>T="str"
 |.int _=>T="int"
 |.ref p=>(T="list"/\∃xs,SqL K H p xs)\/(T="tuple"/\∃o,K.lookup p=some o/\o.cls=.type "tuple"/\o.dict=none)\/
  (T="dict"/\((∃kvs,H p=some (.dK kvs))\/∃kvs,H p=some (.dT kvs)))\/(T="set"/\∃S n,H p=some (.set S n))
 |_=>False
def zB(I:Inv X ac σ H s)(r:RelV x v)(ty:J3 X.K T x H) :
 s.TypeIs v T/\∀a,v=.ref a->∃d,s.heap.get? a=some d/\d.dict=none:=by
 cases x with
 |str z=>obtain⟨t,rfl⟩:=r;cases(show T="str" from ty);exact⟨typeIs_str s z t,λ_ e=>nomatch e⟩
 |int i=>obtain⟨t,rfl⟩:=r;cases(show T="int" from ty);exact⟨typeIs_int s i t,λ_ e=>nomatch e⟩
 |ref p=>
  cases r;rcases ty with⟨rfl,xs,f⟩|⟨rfl,o,b,g,hd⟩|⟨rfl,b⟩|⟨rfl,S,n,b⟩
  .obtain⟨its,_,pl,_⟩:=I.list f;refine⟨pl.isList.typeIs,λa e=>?_⟩;cases e;obtain⟨o,n,e,c,hd,_⟩:=pl;exact⟨o,e,hd⟩
  .refine⟨⟨o,I.lg p o b,g⟩,λa e=>?_⟩;cases e;exact⟨o,I.lg _ o b,hd⟩
  .have z:∃o,s.heap.get? p=some o/\o.ExactDict:=by
    rcases b with⟨kvs,b⟩|⟨kvs,b⟩
    .obtain⟨_,_,_,_,o,_,_,e,ex,_⟩:=I.aW p _ b;exact⟨o,e,ex⟩
    .obtain⟨_,_,_,_,o,_,_,e,ex,_⟩:=I.aW p _ b;exact⟨o,e,ex⟩
   obtain⟨o,e,ex⟩:=z;refine⟨⟨o,e,ex.1⟩,λa e2=>?_⟩;cases e2;exact⟨o,e,ex.2.1⟩
  .obtain⟨o,_,_,_,e,ex,_⟩:=I.aW p _ b;refine⟨⟨o,e,ex.1⟩,λa e2=>?_⟩;cases e2;exact⟨o,e,ex.2.1⟩
 |_=>exact False.elim ty
noncomputable def zC(K:Vx)(T:String)(r:V->List V->Hp->VK->Prop)(to:TE):TE:=λσ H Q=>to σ H λx H1=>J3 K T x H1/\r x [] H1 Q
noncomputable def qZ(K:Vx)(T:String)(r:V->List V->Hp->VK->Prop)(to:TE)(t:TA):TE:=λσ H Q=>to σ H λx H1=>J3 K T x H1/\t σ H1 λxs a=>r x xs a Q
variable{o e:Expr}{es:List Expr}{to:TE}{t:TA}{name:Str}{apos cpos:Pos}{T id:String}{r:V->List V->Hp->VK->Prop}
def pP(g:PlainAttrs T)(slot:Slot T name id)(c:typeOf (.builtin id)=pure (.type "method_descriptor")) (hm:FF X id r) (i:PE X o to)
 (a:autoParam (attributeBase o name X.env (eval o X.env)=eval o X.env) aM) (b:autoParam ((apos.endLine==cpos.line)=true) aM):PE X (.Call (.Attribute o name apos) [] [] cpos) (zC X.K T r to):=by
 intro ac s σ H Q I h;refine wpAny_Call_method0_late a b (cc (i ac s σ H _ I h) λv s1 ⟨x,H1,d,f,ty,q1⟩=>?_);obtain⟨h1,h2⟩:=zB d f ty;exact⟨T,id,g,slot,c,h1,h2,S1 rfl (PySem.evalArgs_none (hm ac s1 σ H1 x [] v [] Q d f .nil q1))⟩
theorem cw(k:PlainAttrs T)(slot:Slot T name id)(f:typeOf (.builtin id)=pure (.type "method_descriptor")) (hm:FF X id r) (l:PE X o to) (ha:PA X (e::es) t)
 (b:autoParam (attributeBase o name X.env (eval o X.env)=eval o X.env) aM)
 (d:autoParam (((backTo cpos (starEach (e::es) X.env)).all (λx=>!x.1)&&(backToKw cpos (keywordEach [] X.env)).all (λx=>x.1.isSome)
   && decide ((e::es).length+([]:List Keyword).length+(if([]:List Keyword).isEmpty then 0 else 1)<30))=true) aM)
 (c:autoParam ((apos.endLine==cpos.line)=true) aM) (m:autoParam (starEach (e::es) X.env=(false,eval e X.env)::starEach es X.env) aM) (a:autoParam (bT X cpos es) aM) :
 PE X (.Call (.Attribute o name apos) (e::es) [] cpos) (qZ X.K T r to t):=by
 intro ac s σ H Q I h;refine wpAny_Call_method_late b d c rfl (cc (l ac s σ H _ I h) λv s1 ⟨x,H1,g,i,ty,q1⟩=>?_);obtain⟨h1,h2⟩:=zB g i ty;refine⟨T,id,k,slot,f,h1,h2,?_⟩;have j:=ha cpos ac s1 σ H1 _ g q1;rw[m]at j ⊢;refine S1 (by show(false ||(backTo cpos (starEach es X.env)).any (·.1))=false;rw[a]<;>rfl) (Uc ?_);exact cc j λus s2 ⟨vs,n,p,q,q2⟩=>hm ac s2 σ n x vs v us Q p i q q2
end
def Nz(X:Cx)(id:String)(r:V->List V->Hp->VK->Prop):Prop:=
 ∀(ac:List (Addr×Obj))(s:Vw)(σ:St)(H:Hp)(x:V)(xs:List V)(v:Vz)(us:List Vz)(Q:VK),Inv X ac σ H s->RelV x v->Vals xs us->r x xs H Q->
  wpAny (model X.prog X.w) X.A (call (.builtin id) (v::us)) (EP X ac σ Q) X.xe s
def Vals.one{x:V}{us:List Vz}(h:Vals [x] us):∃u,us=[u]/\RelV x u:=dR h
def Vals.zero:∀{us:List Vz},Vals [] us->us=[]
 |_,.nil=>rfl
theorem Vals.dropLast(h:Vals xs us):Vals xs.dropLast us.dropLast:=by
 induction h with
 |nil=>exact .nil
 |cons r t a=>
  cases t with
  |nil=>exact .nil
  |cons q t'=>exact .cons r a
def ux{α:Type}(l:List α):l.eraseIdx (l.length-1)=l.dropLast:=by
 induction l with
 |nil=>rfl
 |cons a r c=>
  cases r with
  |nil=>rfl
  |cons b r=>
   have e:(a::b::r).length-1=((b::r).length-1)+1:=by have h1:(a::b::r).length=r.length+2:=rfl;have h2:(b::r).length=r.length+1:=rfl;lia
   rw[e,List.eraseIdx_cons_succ,c]
   all_goals rfl
section
def Inv.Jy{its its':List Vz}{f:Array Vz->Array Vz}(I:Inv X ac σ H s)(a:H l=some (.lst xs))
 (e:s.heap.get? l=some { cls:=.type "list",data:=.seq its.toArray n }) (b:f its.toArray=its'.toArray) (c:Vals ys its') (hz:ys.length<=sizeLine) :
 Inv X ac σ (upd H l (.lst ys)) {s with heap:=s.heap.update l (Obj.mapSeq f),toks:=t'}:=by
 have q:=PySem.IsL.update e f;rw[b]at q;refine I.write (x:=l) (e:=l) (by rw[a];exact trivial) (.inl rfl) (λg u hb d=>(Tp s.heap (Obj.mapSeq f) (Si hb)).trans d) ⟨_,q⟩ ?_;exact⟨hz,its',_,c,q⟩
def Inv.MY(I:Inv X ac σ H s)(a:Vals ys its)(hz:ys.length<=sizeLine) :
 Inv X ac σ (upd H s.heap.objs.size (.lst ys)) { s with heap:=s.heap.push { cls:=.type "list",data:=.seq its.toArray },toks:=t' }:=
 I.laid (λ_ _ q=>QZ _ q) (QY _) ⟨hz,its,0,a,Rb _ rfl⟩
theorem Inv.fresh(I:Inv X ac σ H s):H s.heap.objs.size=none:=I.aW.fresh (QY _)
def Inv.y9(I:Inv X ac σ H s)(a:H l=some (.lst xs)):xs.length<=sizeLine/\∃(its:List Vz)(n:Nat),Vals xs its/\xs.length=its.length/\s.heap.get? l=some { cls:=.type "list",data:=.seq its.toArray n }:=by obtain⟨z,its,n,r,e⟩:=I.aW l _ a;exact⟨z,its,n,r,r.length,e⟩
def zD(h:n<=sizeLine):Builtin.List.listTooLong n=false:=by unfold Builtin.List.listTooLong;exact RK (by lia)
end
section
def cT:V->List V->Hp->VK->Prop:=λx vs H Q=>∃l xs y,x=.ref l/\vs=[y]/\H l=some (.lst xs)/\xs.length<sizeLine/\Q .bz (upd H l (.lst (xs++[y])))
def bP:Nz X "list.append" cT:=by intro ac s σ H x vs v us Q I b c h;obtain⟨l,xs,y,rfl,rfl,a,hz,q⟩:=h;cases b;obtain⟨u,rfl,ru⟩:=c.one;obtain⟨z,its,n,r,d,e⟩:=I.y9 a;refine call_meets F.slot_list_append ⟨_,e,rfl⟩ F.entry_list_append (F.args_list_append_2 _ _) (PySem.list_append l its.toArray n u (by rw[Ra];lia)) ⟨e,?_⟩;refine⟨.bz,_,I.Jy (its':=its++[u]) a e (by simp) (r.append (.cons ru .nil)) ?_,rfl,q⟩;rw[Q8,RN];lia
def jB:V->List V->Hp->VK->Prop:=λx vs H Q=>∃l b xs zs,x=.ref l/\vs=[.ref b]/\H l=some (.lst xs)/\H b=some (.lst zs)/\xs.length+zs.length<=sizeLine/\Q .bz (upd H l (.lst (xs++zs)))
def iB:Nz X "list.extend" jB:=by
 intro ac s σ H x vs v us Q I f g h;obtain⟨l,b,xs,zs,rfl,rfl,d,i,hz,q⟩:=h;cases f;obtain⟨u,rfl,ru⟩:=g.one;cases ru;obtain⟨z,its,n,r,m,e⟩:=I.y9 d;obtain⟨o,a,n2,j,k,e2⟩:=I.y9 i;have hsz:its.toArray.size+a.toArray.size<=sizeLine:=by rw[Ra,Ra];lia
 have c:¬(!its.toArray.isEmpty&&Builtin.List.listTooLong (its.toArray.size+a.toArray.size))=true:=by rw[zD hsz,Uh];exact RF
 refine call_meets F.slot_list_extend ⟨_,e,rfl⟩ F.entry_list_extend (F.args_list_extend_2 _ _)
  (AutoSeq1.list_extend_list_list_0 l its.toArray n b a.toArray n2 c (by rw[Ra];lia) (by lia)) ⟨e,e2,?_⟩
 refine⟨.bz,_,I.Jy (its':=its++a) d e (by simp) (r.append j) ?_,rfl,q⟩;rw[Q8];lia
def GH:V->List V->Hp->VK->Prop:=λx vs H Q=>∃l xs y,x=.ref l/\vs=[]/\H l=some (.lst xs)/\xs[xs.length-1]?=some y/\Q y (upd H l (.lst xs.dropLast))
def zE:Nz X "list.pop" GH:=by
 intro ac s σ H x vs v us Q I d f h;obtain⟨l,xs,y,rfl,rfl,c,g,q⟩:=h;cases d;have a:=f.zero;subst a;obtain⟨z,its,n,r,i,e⟩:=I.y9 c;obtain⟨u,j,ru⟩:=r.get g;have b:its.toArray[its.toArray.size-1]?=some u:=by show its.toArray[its.length-1]?=some u;rw[<- RH,<- i];exact j
 refine call_meets F.slot_list_pop ⟨_,e,rfl⟩ F.entry_list_pop (F.args_list_pop_1 _) (MeetsSeq.list_pop_last l its.toArray n u b (by rw[Ra];lia)) ⟨e,?_⟩;refine⟨y,_,I.Jy (its':=its.dropLast) c e ?_ r.dropLast ?_,ru,q⟩
 .show its.toArray.eraseIdxIfInBounds (its.toArray.size-1)=its.dropLast.toArray;rw[Ra,List.eraseIdxIfInBounds_toArray,ux]
 .rw[List.length_dropLast];lia
def GI:R2:=λx y H Q=>∃l b xs zs,x=.ref l/\y=.ref b/\H l=some (.lst xs)/\H b=some (.lst zs)/\xs.length+zs.length<=sizeLine/\∀p,H p=none->Q (.ref p) (upd H p (.lst (xs++zs)))
def zF:OpR X (binaryOp .Add) GI:=by
 intro ac s σ H x y v u Q I c d h;obtain⟨l,b,xs,zs,rfl,rfl,f,g,hz,q⟩:=h;cases c;cases d;obtain⟨z,its,n,r,m,e⟩:=I.y9 f;obtain⟨o,a,n2,i,j,e2⟩:=I.y9 g;refine PySem.P.add_list e e2 ?_ (by rw[Ra,Ra];lia);have k:its.toArray++a.toArray=(its++a).toArray:=by simp
 rw[k];exact⟨.ref _,_,I.MY (t':=s.toks) (r.append i) (by rw[Q8];lia),rfl,q _ I.fresh⟩
end
section
variable{κ:Type}[DecidableEq κ]
noncomputable def cJ(kvs:List (κ×V))(k:κ):Option V:=(kvs.find? λkv=>decide (kv.1=k)).map (·.2)
noncomputable def bY(kvs:List (κ×V))(k:κ)(v:V):List (κ×V):=if(kvs.any λkv=>decide (kv.1=k))=true then kvs.map (λkv=>if kv.1=k then(kv.1,v)else kv)else kvs++[(k,v)]
noncomputable def i5(kvs:List (κ×V))(k:κ):List (κ×V):=kvs.filter λkv=>decide (kv.1≠k)
def fj{p:κ×V}(e:p.1=k):cJ (p::r) k=some p.2:=by simp[cJ,Tn,e]
def fq{p:κ×V}(e:¬p.1=k):cJ (p::r) k=cJ r k:=by simp[cJ,Tn,e]
theorem hG(k:κ):∀kvs:List (κ×V),(kvs.any λkv=>decide (kv.1=k))=(cJ kvs k).isSome
 |[]=>rfl
 |p::r=>by
  rw[Ux];by_cases e:p.1=k
  .simp only[fj e,Rm e,Bool.true_or,Option.isSome_some]
  .rw[fq e,RK e,Bool.false_or];exact hG k r
def dW(kvs:List (κ×V))(k:κ)(v:V):(bY kvs k v).length<=kvs.length+1:=by grind [bY]
def dX{kvs:List (κ×V)}(v:V)(h:cJ kvs k=none):bY kvs k v=kvs++[(k,v)]:=by unfold bY;rw[hG,h];exact Rf (by decide)
def RelO.fg(r:RelO o u):o.isSome=u.isSome:=by
 cases o with
 |none=>cases u with
  |none=>rfl
  |some _=>exact(show False from r).elim
 |some _=>cases u with
  |none=>exact(show False from r).elim
  |some _=>rfl
theorem RelO.getD(r:RelO o u)(rd:RelV d d'):RelV (o.getD d) (u.getD d'):=by
 cases o with
 |none=>cases u with
  |none=>exact rd
  |some _=>exact(show False from r).elim
 |some _=>cases u with
  |none=>exact(show False from r).elim
  |some _=>exact r
def KV.val{kvs:List (κ×V)}(r:KV kvs vs)(k:κ):RelO (cJ kvs k) (valueAt vs k):=by
 unfold KV at r;induction r with
 |nil=>exact True.intro
 |@cons p q ps a h t d=>
  obtain⟨h1,h2⟩:=h;by_cases e:p.1=k
  .have c:q.1=k:=h1.symm.trans e;have b:valueAt (q::a) k=some q.2:=by simp[valueAt,Tn,c]
   rw[fj e,b];exact h2
  .have c:¬q.1=k:=λz=>e (h1.trans z);have b:valueAt (q::a) k=valueAt a k:=by simp[valueAt,Tn,c]
   rw[fq e,b];exact d
theorem KV.any(r:KV kvs vs)(k:κ):(kvs.any λkv=>decide (kv.1=k))=vs.any λkv=>decide (kv.1=k):=by
 unfold KV at r;induction r with
 |nil=>rfl
 |cons h t a=>rw[Ux,Ux,a,h.1]
def KV.JA(r:KV kvs vs)(k:κ)(b:RelV y u) :
 KV (kvs.map λkv=>if kv.1=k then(kv.1,y)else kv) (vs.map λkv=>if kv.1=k then(kv.1,u)else kv):=by
 unfold KV at r ⊢;induction r with
 |nil=>exact .nil
 |@cons p q ps c h t a=>
  rw[Rn,Rn];refine .cons ?_ a
  grind
def KV.put(r:KV kvs vs)(k:κ)(a:RelV y u):KV (bY kvs k y) (stored vs k u):=by
 unfold bY stored;rw[r.any k];by_cases e:(vs.any λkv=>decide (kv.1=k))=true
 .rw[Re e,Re e];exact r.JA k a
 .rw[Rf e,Rf e];exact Paired.snoc r ⟨rfl,a⟩
theorem KV.drop(r:KV kvs vs)(k:κ):KV (i5 kvs k) (without vs k):=by
 unfold KV at r ⊢;unfold i5 without;induction r with
 |nil=>exact .nil
 |@cons p q ps f h t c=>
  obtain⟨h1,h2⟩:=h;rw[SB,SB];by_cases e:p.1=k
  .grind
  .have d:¬q.1=k:=λz=>e (h1.trans z);have a:decide (p.1≠k)=true:=by simp[e]
   have b:decide (q.1≠k)=true:=by simp[d]
   rw[Re a,Re b];exact .cons ⟨h1,h2⟩ c
theorem KV.length(r:KV kvs vs):kvs.length=vs.length:=Ta r
def zG(kvs:List (κ×V))(k:κ):(i5 kvs k).length<=kvs.length:=SS _ _
end
def jC(r:RelV (kV k) u):(aO P w).is k u=true:=by
 cases k with
 |inl i=>obtain⟨t,e⟩:=(show ∃t,u=Value.int i t from r);subst e;exact q_ P w i t
 |inr x=>obtain⟨t,e⟩:=(show ∃t,u=Value.str x t from r);subst e;exact rf P w x t
theorem oQ:∀{ks:List bW}{us:List Vz},Vals (ks.map kV) us->ItemsAre (aO P w) ks us
 |[],_,r=>by rw[TR]at r;cases r;exact .nil
 |k::ks,_,r=>by
  rw[Rn]at r;cases r with
  |cons h t=>exact .cons (jC h) (oQ t)
abbrev KT(H:Hp):List (List bW×V)->List (List bW×Addr×Vz)->Prop:=Paired λp q=>p.1=q.1/\H q.2.1=some (.tup (p.1.map kV))/\RelV p.2 q.2.2
def KT.val{H:Hp}(r:KT H kvs xs)(k:List bW):RelO (cJ kvs k) ((atKey xs k).map (·.2)):=by
 induction r with
 |nil=>exact True.intro
 |@cons p q ps a h t d=>
  obtain⟨h1,_,h2⟩:=h;by_cases e:p.1=k
  .have c:q.1=k:=h1.symm.trans e;have b:atKey (q::a) k=some q.2:=by simp[atKey,Tn,c]
   rw[fj e,b];exact h2
  .have c:¬q.1=k:=λz=>e (h1.trans z);have b:atKey (q::a) k=atKey a k:=by simp[atKey,Tn,c]
   rw[fq e,b];exact d
def KT.JA(r:KT H kvs xs)(k:List bW)(b:RelV y u) :
 KT H (kvs.map λkv=>if kv.1=k then(kv.1,y)else kv) (xs.map (putAt k u)):=by
 induction r with
 |nil=>exact .nil
 |@cons p q ps c h t a=>
  rw[Rn,Rn];refine .cons ?_ a;obtain⟨h1,h2,h3⟩:=h;unfold putAt
  grind
def KT.put(r:KT H kvs xs)(k:List bW)(hb:H b=some (.tup (k.map kV)))(a:RelV y u) :
 KT H (bY kvs k y) (storedH xs k b u):=by
 have e:(kvs.any λkv=>decide (kv.1=k))=(atKey xs k).isSome:=by rw[hG,(r.val k).fg,Vh]
 unfold bY storedH;rw[e];by_cases q:(atKey xs k).isSome=true
 .rw[Re q,Re q];exact r.JA k a
 .rw[Rf q,Rf q];exact Paired.snoc r ⟨rfl,hb,a⟩
def KT.keeps(r:KT H kvs xs)(c:∀b a,H b=some (.tup a)->H' b=some (.tup a)):KT H' kvs xs:=Paired.Fu r λ_ _ z=>⟨z.1,c _ _ z.2.1,z.2.2⟩
section
def zH(ok:HOk P w H h)(e:Rd H a u):ObjOk P w H h a u:=e.ok ok
def i6(ok:HOk P w H h)(e:Rd H a (.dK kvs)):kvs.length<=sizeLine/\(a==sysModules)=false/\∃vs,KV kvs vs/\h.DictOf (aO P w) a vs:=show ObjOk P w H h a (.dK kvs)from zH ok e
def vW(ok:HOk P w H h)(e:H a=some (.dK kvs)):kvs.length<=sizeLine/\(a==sysModules)=false/\∃vs,KV kvs vs/\h.DictOf (aO P w) a vs:=i6 ok (.inl e)
theorem dc(ok:HOk P w H h)(e:H a=some (.tup (ks.map kV))):(tupleKind (aO P w)).is h ks a:=by obtain⟨_,its,r,o,h1,h2,n,h3⟩:=(show ObjOk P w H h a (.tup (ks.map kV))from ok a _ e);exact⟨o,its.toArray,n,h1,h2,h3,by simpa using oQ r⟩
def i7(ok:HOk P w H h)(e:Rd H a (.dT kvs)):kvs.length<=sizeLine/\(a==sysModules)=false/\
 ∃xs,KT H kvs xs/\h.DictOfH (tupleKind (aO P w)) a xs:=by
 obtain⟨z,y,xs,r,o,es,ep,h1,h2,h3,c,d⟩:=(show ObjOk P w H h a (.dT kvs)from zH ok e);refine⟨z,y,xs,r,o,es,ep,h1,h2,h3,c,λx b=>?_,d⟩;have all:∀{l:List (List bW×V)}{m:List (List bW×Addr×Vz)},KT H l m->∀x∈m,(tupleKind (aO P w)).is h x.1 x.2.1:=by
  intro l m q;induction q with
  |nil=>intro x b;exact nomatch b
  |@cons p q ps f g t i=>grind [dc]
 exact all r x b
def FG(ok:HOk P w H h)(e:H a=some (.dT kvs)):kvs.length<=sizeLine/\(a==sysModules)=false/\
 ∃xs,KT H kvs xs/\h.DictOfH (tupleKind (aO P w)) a xs:=i7 ok (.inl e)
end
def DGet(H:Hp)(a:Addr)(y:V)(r:Option V):Prop:=(∃kvs k,Rd H a (.dK kvs)/\y=kV k/\r=cJ kvs k)\/∃kvs k b,Rd H a (.dT kvs)/\y=.ref b/\H b=some (.tup (k.map kV))/\r=cJ kvs k
def DPut(H:Hp)(a:Addr)(y v:V)(H':Hp):Prop:=
 (∃kvs k,H a=some (.dK kvs)/\y=kV k/\kvs.length<sizeLine/\H'=upd H a (.dK (bY kvs k v)))\/
 ∃kvs k b,H a=some (.dT kvs)/\y=.ref b/\H b=some (.tup (k.map kV))/\kvs.length<sizeLine/\H'=upd H a (.dT (bY kvs k v))
def DGet.t{kvs:List (List bW×V)}{k:List bW}(e:H a=some (.dT kvs))(c:H b=some (.tup (k.map kV))):DGet H a (.ref b) (cJ kvs k):=.inr ⟨kvs,k,b,.inl e,rfl,c,rfl⟩
def DPut.t{kvs:List (List bW×V)}{k:List bW}{v:V}(e:H a=some (.dT kvs))(c:H b=some (.tup (k.map kV)))(d:kvs.length<sizeLine) :
 DPut H a (.ref b) v (upd H a (.dT (bY kvs k v))):=.inr ⟨kvs,k,b,e,rfl,c,d,rfl⟩
section
def Inv.big(I:Inv X ac σ H s):sysModules<s.heap.objs.size:=by have h:mainGlobals<s.heap.objs.size:=(I.mod.glob.keeps I.bk).lt;exact Nat.lt_trans (by decide) h
def xx(r:A.units+1<cLine)(I:Inv X ac σ H s)(g:DGet H a y (some v))(n:RelV y u)(h:∀f q,Inv X ac σ H q->RelV v f->Q f q) :
 wpAny (model X.prog X.w) A (getItem (.ref a) u) Q E s:=by
 rcases g with⟨kvs,k,e,i,l⟩|⟨kvs,k,b,e,i,t,l⟩
 .subst i;obtain⟨z,hd,vs,c,dd⟩:=i6 I.aW e;obtain⟨f,j,d⟩:=RelO.some_of (v:=v) (o:=valueAt vs k) (by rw[l];exact c.val k);exact wpAny_getItem_of (jC n) dd.mapOf j (h f _ (I.tok _) d)
 .subst i;cases(show u=Value.ref b from n);obtain⟨z,hd,xs,c,dd⟩:=i7 I.aW e;obtain⟨f,j,d⟩:=RelO.some_of (v:=v) (o:=(atKey xs k).map (·.2)) (by rw[l];exact c.val k);obtain⟨p,x,m⟩:=Ss.mp j;refine wpAny_getItem_heap (Tt r) (dc I.aW t) dd x ?_;rw[m];exact h f _ (I.tok _) d
def DC(j:A.units+1<cLine)(I:Inv X ac σ H s)(g:DGet H a y o)(f:RelV y u)(h:∀i,Inv X ac σ H i->Q (.bool (!o.isSome)) i) :
 wpAny (model X.prog X.w) A (compareOp .NotIn u (.ref a)) Q E s:=by
 rcases g with⟨kvs,k,e,d,l⟩|⟨kvs,k,b,e,d,m,l⟩
 .subst d;obtain⟨z,hd,vs,c,dd⟩:=i6 I.aW e;refine wpAny_notIn_of (jC f) hd dd.mapOf ?_;rw[<- (c.val k).fg,<- l];exact h _ (I.tok _)
 .subst d;cases(show u=Value.ref b from f);obtain⟨z,hd,xs,c,dd⟩:=i7 I.aW e;refine wpAny_notIn_heap (Tt j) (dc I.aW m) hd dd ?_;have q:=(c.val k).fg;rw[Vh]at q;rw[<- q,<- l];exact h _ (I.tok _)
def jD(I:Inv X ac σ H s)(c:JC (H a))(d:Heap.SameBut a s.heap h')(f:∃q,h'.get? a=some q)(new:ObjOk X.prog X.w (upd H a ob) h' a ob) :
 Inv X ac σ (upd H a ob) {s with heap:=h',toks:=t'}:=
 I.write (x:=a) (e:=a) c (.inl rfl) (λb q hb z=>(d.2 b hb).trans z) f new
def uy(z:kvs.length<=sizeLine)(hd:(a==sysModules)=false)(b:KV kvs vs)(dd:h'.DictOf (aO P w) a vs) :
 ObjOk P w H' h' a (.dK kvs):=⟨z,hd,vs,b,dd⟩
def xy(D:A.units+1<cLine)(I:Inv X ac σ H s)(g:DPut H a y v H')(p:RelV y u)(t:RelV v r)(h:∀x,Inv X ac σ H' x->Q () x) :
 wpAny (model X.prog X.w) A (setItem (.ref a) u r) Q E s:=by
 rcases g with⟨kvs,k,e,j,l,m⟩|⟨kvs,k,b,e,j,B,l,m⟩
 .subst j m;obtain⟨z,hd,vs,d,dd⟩:=vW I.aW e;have hz:vs.length<=sizeLine:=by rw[<- d.length];exact z
  have n:(bY kvs k v).length<=sizeLine:=by have:=dW kvs k v;lia
  refine wpAny_setItem_pairs (hsz:=hz) (jC p) dd λh' f o=>h _ ?_;have F:∃q,h'.get? a=some q:=let ⟨q,_,_,i,_⟩:=f;⟨q,i⟩;exact jD I (by rw[e];exact True.intro) o F (uy n hd (d.put k t) f)
 .subst j m;cases(show u=Value.ref b from p);obtain⟨z,hd,xs,d,dd⟩:=FG I.aW e;have hz:xs.length<=sizeLine:=by rw[<- Ta d];exact z
  have n:(bY kvs k v).length<=sizeLine:=by have:=dW kvs k v;lia
  refine wpAny_setItem_heap (hsz:=hz) (Tt D) (dc I.aW B) dd λh' f o=>h _ ?_;obtain⟨q,es,ep,i,h2,h3,G,_,J⟩:=f;refine jD I (by rw[e];exact True.intro) o ⟨q,i⟩ ⟨n,hd,_,(d.put k B t).keeps λc K C=>?_,q,es,ep,i,h2,h3,G,J⟩;rw[ai (zf C e (λz=>nomatch z))];exact C
end
section
def J4(I:Inv X ac σ H s)(e:H a=some (.dK kvs))(f:RelV (kV k) u)(l:cJ kvs k=some v)(hm:more=[]\/∃x,more=[x])
 (h:∀c j,Inv X ac σ (upd H a (.dK (i5 kvs k))) j->RelV v c->Q c j):wpAny (model X.prog X.w) A (call (.builtin "dict.pop") (.ref a::u::more)) Q E s:=by
 obtain⟨z,hd,vs,b,dd⟩:=vW I.aW e;obtain⟨c,m,g⟩:=RelO.some_of (v:=v) (o:=valueAt vs k) (by rw[<- l];exact b.val k);have n:(keyPart u).isSome=true:=by
  cases k with
  |inl i=>obtain⟨t,q⟩:=(show ∃t,u=Value.int i t from f);subst q;rfl
  |inr x=>obtain⟨t,q⟩:=(show ∃t,u=Value.str x t from f);subst q;rfl
 have ha:argsOk "dict.pop" ⟨.ref a::u::more,[]⟩:=by
  rcases hm with q|⟨x,q⟩
  .subst q;exact PySem.F.args_dict_pop_2 _ _
  .subst q;exact PySem.F.args_dict_pop_3 _ _ _
 refine Ut PySem.F.slot_dict_pop dd.typeIs PySem.F.entry_dict_pop ha (meets_dict_pop_there (aO X.prog X.w) a (jC f) more hm n)
  ⟨vs,c,dd,by rw[<- b.length];exact z,m,λh' d p=>h c _ ?_ g⟩
 have r:∃q,h'.get? a=some q:=let ⟨q,_,_,y,_⟩:=d;⟨q,y⟩;exact jD I (by rw[e];exact True.intro) p r (uy (Rx (zG kvs k) z) hd (b.drop k) d)
end
def J5(i:Expr):Prop:=∀a b,subscripted i false a b=operate [a,b] (getItem a b)
def DD{E:Vz->Vw->Prop}{env:Env}{b a:Expr}{l:Pos}{T id:String}{Q:Vz->Vw->Prop}
 (n:typeLookup (.type T) "__getitem__"=pure (some (.builtin id))) (p:J5 a)
 (h:wpAny (model prog w) A (eval b env) (λo e=>wpAny (model prog w) A (eval a env) (λi c=>c.TypeIs o T/\wpAny (model prog w) A (getItem o i) Q E c) E e) E s) :
 wpAny (model prog w) A (eval (.Subscript b a l) env) Q E s:=by
 refine Subscript_ (S3 h (λo e j=>S3 j (λi c d=>?_) λ_ _ x=>x) λ_ _ x=>x);obtain⟨m,d⟩:=d;unfold subscriptTail;refine KE ?_;rw[getitemInPython_of_ne m.not_modules];refine KE (wpAny_specialOf m n ?_);have g:wpAny (model prog w) A (subscripted a false o i) (λr f=>wpAny (model prog w) A (letTemporaryGo b o r >>= λ_=>pure r) Q E f) E c:=by rw[p o i];exact wpAny_operating (S3 d (λr f k=>KE (wpAny_letTemporaryGo (QX k))) λ_ _ x=>x)
 first
  |exact QX (KE g)
  |exact KE (QX (KE g))
  |exact KE g
def rD(I:Inv X ac σ H s)(g:DGet H a y o):s.TypeIs (.ref a) "dict":=by
 rcases g with⟨kvs,k,e,_,_⟩|⟨kvs,k,b,e,_,_,_⟩
 .obtain⟨_,_,vs,_,dd⟩:=i6 I.aW e;exact dd.typeIs
 .obtain⟨_,_,xs,_,dd⟩:=i7 I.aW e;exact dd.typeIs
noncomputable def jE(td ty:TE):TE:=λσ H Q=>td σ H λx H1=>ty σ H1 λy b=>∃a v,x=.ref a/\DGet b a y (some v)/\Q v b
noncomputable def oR(td ty b:TE):TS:=λD σ H=>b σ H λv H1=>td σ H1 λx c=>ty σ c λy H3=>∃a H4,x=.ref a/\DPut H3 a y v H4/\D.nx σ H4
section
def iC(d:X.A.units+1<cLine)(e:PE X o td)(f:PE X i ty)(j:J5 i):PE X (.Subscript o i pos) (jE td ty):=by intro ac s σ H Q I h;refine DD PySem.F.slot_dict_getitem.lookup j (cc (e ac s σ H _ I h) λu s1 ⟨x,H1,k,l,q1⟩=>cc (f ac s1 σ H1 _ k q1) λq s2 ⟨y,m,c,n,a,v,ex,g,q2⟩=>?_);subst ex;obtain rfl:u=Value.ref a:=l;exact⟨rD c g,xx d c g n λr t p b=>⟨v,m,p,b,q2⟩⟩
def lT(b:X.A.units+1<cLine)(c:PE X o td)(d:PE X i ty)(e:PE X value tv)(f:swapsWith value (some (.Subscript o i pos')) pos.line X.env=pure false) :
 PS X (.Assign [.Subscript o i pos'] value pos) (oR td ty tv):=by
 intro ac s σ H D I h;refine wpAny_Assign_Subscript (cc (e ac s σ H _ I h) λr s1 ⟨v,H1,j,k,q1⟩=>cc (c ac s1 σ H1 _ j q1) λu s2 ⟨x,l,m,n,q2⟩=>cc (d ac s2 σ l _ m q2) λz B ⟨y,H3,p,q,a,H4,ex,g,t⟩=>?_) f;subst ex;obtain rfl:u=Value.ref a:=n;exact xy b p g q k λC w=>⟨σ,H4,w,t⟩
end
def zI(h:Heap)(hb:sysModules<h.objs.size):ObjOk P w H (h.push { cls:=.type "dict",data:=.dict #[] }) h.objs.size (.dK []):=⟨Rh _,S6.mpr (Si (Rt hb)),[],.nil,Heap.DictOf.new h⟩
def zJ(h:Heap)(hb:sysModules<h.objs.size):ObjOk P w H (h.push { cls:=.type "dict",data:=.dict #[] }) h.objs.size (.dT []):=⟨Rh _,S6.mpr (Si (Rt hb)),[],.nil,_,#[],0,Rb _ rfl,⟨rfl,rfl,rfl⟩,rfl,rfl,RI⟩
def zK:TE:=λ_ H Q=>∀p,H p=none->Q (.ref p) (upd H p (.dK []))
def fV:TE:=λ_ H Q=>∀p,H p=none->Q (.ref p) (upd H p (.dT []))
section
def zL:PE X (.Dict [] [] pos) zK:=λac s σ H Q I h=>wpAny_Dict_empty ⟨.ref s.heap.objs.size,_,I.laid (a:=s.heap.objs.size) (o:=.dK []) (t':=s.toks) (λ_ _ q=>QZ _ q) (QY _) (zI s.heap I.big),rfl,h _ (I.aW.fresh (QY _))⟩
def de:PE X (.Dict [] [] pos) fV:=λac s σ H Q I h=>wpAny_Dict_empty ⟨.ref s.heap.objs.size,_,I.laid (a:=s.heap.objs.size) (o:=.dT []) (t':=s.toks) (λ_ _ q=>QZ _ q) (QY _) (zJ s.heap I.big),rfl,h _ (I.aW.fresh (QY _))⟩
end
structure M1(X:Cx) (o:Expr) (m:Str) (apos:Pos) (e:Expr) (cpos:Pos):Prop where
 base:attributeBase o m X.env (eval o X.env)=eval o X.env
 dE:((backTo cpos (starEach [e] X.env)).all (λx=>!x.1)&&(backToKw cpos (keywordEach [] X.env)).all (λx=>x.1.isSome)
  && decide (([e]:List Expr).length+([]:List Keyword).length+(if([]:List Keyword).isEmpty then 0 else 1)<30))=true
 line:(apos.endLine==cpos.line)=true
 trees:backTo cpos (starEach [e] X.env)=[(false,eval e X.env)]
structure M2(X:Cx) (o:Expr) (m:Str) (apos:Pos) (e f:Expr) (cpos:Pos):Prop where
 base:attributeBase o m X.env (eval o X.env)=eval o X.env
 dE:((backTo cpos (starEach [e,f] X.env)).all (λx=>!x.1)&&(backToKw cpos (keywordEach [] X.env)).all (λx=>x.1.isSome)
  && decide (([e,f]:List Expr).length+([]:List Keyword).length+(if([]:List Keyword).isEmpty then 0 else 1)<30))=true
 line:(apos.endLine==cpos.line)=true
 trees:backTo cpos (starEach [e,f] X.env)=[(false,eval e X.env),(false,eval f X.env)]
def J6(H:Hp)(a:Addr):Prop:=(∃kvs,Rd H a (.dK kvs))\/∃kvs,Rd H a (.dT kvs)
def pQ(I:Inv X ac σ H s)(d:J6 H a) :
 s.TypeIs (.ref a) "dict"/\(∀b,Value.ref a=.ref b->∃c,s.heap.get? b=some c/\c.dict=none)/\(a==sysModules)=false:=by
 rcases d with⟨kvs,e⟩|⟨kvs,e⟩
 .obtain⟨_,hd,vs,_,dd⟩:=i6 I.aW e;refine⟨dd.typeIs,λb q=>?_,hd⟩;cases q;obtain⟨c,_,_,h1,h2,_⟩:=dd;exact⟨c,h1,h2.2.1⟩
 .obtain⟨_,hd,xs,_,dd⟩:=i7 I.aW e;refine⟨dd.typeIs,λb q=>?_,hd⟩;cases q;obtain⟨c,_,_,h1,h2,_⟩:=dd;exact⟨c,h1,h2.2.1⟩
section
def GJ(m:A.units+1<cLine)(I:Inv X ac σ H s)(g:DGet H a y o)(f:RelV y u)(h:∀i j,Inv X ac σ H j->RelV (o.getD .bz) i->Q i j) :
 wpAny (model X.prog X.w) A (call (.builtin "dict.get") [.ref a,u]) Q E s:=by
 rcases g with⟨kvs,k,e,d,l⟩|⟨kvs,k,b,e,d,n,l⟩
 .subst d;obtain⟨z,hd,vs,c,dd⟩:=i6 I.aW e;refine Ut Tc dd.typeIs TZ (PySem.F.args_dict_get_2 _ _) (meets_dict_get (aO X.prog X.w) a (jC f) hd) ⟨_,dd.mapOf,h _ _ (I.tok _) ?_⟩;rw[l];exact(c.val k).getD rfl
 .subst d;cases(show u=Value.ref b from f);obtain⟨z,hd,xs,c,dd⟩:=i7 I.aW e;refine Ut Tc dd.typeIs TZ (PySem.F.args_dict_get_2 _ _) (meetsH_dict_get (tupleKind (aO X.prog X.w)) a b hd) ⟨Tt m,k,xs,dc I.aW n,dd,h _ _ (I.tok _) ?_⟩;rw[l];exact(c.val k).getD rfl
def GK(n:A.units+1<cLine)(I:Inv X ac σ H s)(g:DGet H a y o)(i:RelV y u)(rd:RelV d r)(h:∀j m,Inv X ac σ H m->RelV (o.getD d) j->Q j m) :
 wpAny (model X.prog X.w) A (call (.builtin "dict.get") [.ref a,u,r]) Q E s:=by
 rcases g with⟨kvs,k,e,f,l⟩|⟨kvs,k,b,e,f,p,l⟩
 .subst f;obtain⟨z,hd,vs,c,dd⟩:=i6 I.aW e;refine Ut Tc dd.typeIs TZ (PySem.F.args_dict_get_3 _ _ _) (meets_dict_get_default (aO X.prog X.w) a (jC i) hd r) ⟨_,dd.mapOf,h _ _ (I.tok _) ?_⟩;rw[l];exact(c.val k).getD rd
 .subst f;cases(show u=Value.ref b from i);obtain⟨z,hd,xs,c,dd⟩:=i7 I.aW e;refine Ut Tc dd.typeIs TZ (PySem.F.args_dict_get_3 _ _ _) (meetsH_dict_get_default (tupleKind (aO X.prog X.w)) a b hd r) ⟨Tt n,k,xs,dc I.aW p,dd,h _ _ (I.tok _) ?_⟩;rw[l];exact(c.val k).getD rd
end
noncomputable def uz(td ty:TE):TE:=λσ H Q=>td σ H λx H1=>∃a,x=.ref a/\J6 H1 a/\ty σ H1 λy b=>∃o,DGet b a y o/\Q (o.getD .bz) b
noncomputable def dG(td ty b:TE):TE:=λσ H Q=>td σ H λx H1=>∃a,x=.ref a/\J6 H1 a/\ty σ H1 λy c=>b σ c λz H3=>∃o,DGet H3 a y o/\Q (o.getD z) H3
def mC(td ty:TE):TE:=λσ H Q=>td σ H λx H1=>∃a,x=.ref a/\J6 H1 a/\ty σ H1 λy b=>∃kvs k v,b a=some (.dK kvs)/\y=kV k/\cJ kvs k=some v/\Q v (upd b a (.dK (i5 kvs k)))
section
def zM(f:X.A.units+1<cLine)(i:PE X o td)(j:PE X e ty)(m:M1 X o "get" apos e cpos):PE X (.Call (.Attribute o "get" apos) [e] [] cpos) (uz td ty):=by intro ac s σ H Q I h;refine wpAny_Call_method m.base m.dE m.line RV Tc PySem.F.type_dict_get (cc (i ac s σ H _ I h) λu s1 ⟨x,H1,c,k,a,ex,d,q1⟩=>?_);subst ex;obtain rfl:u=Value.ref a:=k;obtain⟨l,t2,_⟩:=pQ c d;refine⟨l,t2,?_⟩;rw[m.trees];refine S1 rfl (Uc (T1 (cc (j ac s1 σ H1 _ c q1) λt s2 ⟨y,n,p,q,v,g,q2⟩=>UJ ?_)));exact GJ f p g q λw z r b=>⟨_,n,r,b,q2⟩
def dY(i:X.A.units+1<cLine)(j:PE X o td)(k:PE X e ty)(l:PE X f tx)(m:M2 X o "get" apos e f cpos):PE X (.Call (.Attribute o "get" apos) [e,f] [] cpos) (dG td ty tx):=by intro ac s σ H Q I h;refine wpAny_Call_method m.base m.dE m.line RV Tc PySem.F.type_dict_get (cc (j ac s σ H _ I h) λu s1 ⟨x,H1,c,n,a,ex,d,q1⟩=>?_);subst ex;obtain rfl:u=Value.ref a:=n;obtain⟨p,t2,_⟩:=pQ c d;refine⟨p,t2,?_⟩;rw[m.trees];refine S1 rfl (Uc (T1 (cc (k ac s1 σ H1 _ c q1) λD s2 ⟨y,q,r,t,q2⟩=>T1 (cc (l ac s2 σ q _ r q2) λE G ⟨z,H3,v,w,J,g,B⟩=>UJ ?_))));exact GK i v g t w λK L C b=>⟨_,H3,C,b,B⟩
def rE(f:PE X o td)(g:PE X e ty)(m:M1 X o "pop" apos e cpos):PE X (.Call (.Attribute o "pop" apos) [e] [] cpos) (mC td ty):=by intro ac s σ H Q I h;refine wpAny_Call_method m.base m.dE m.line RV PySem.F.slot_dict_pop PySem.F.type_dict_pop (cc (f ac s σ H _ I h) λu s1 ⟨x,H1,c,i,a,ex,d,q1⟩=>?_);subst ex;obtain rfl:u=Value.ref a:=i;obtain⟨j,t2,_⟩:=pQ c d;refine⟨j,t2,?_⟩;rw[m.trees];refine S1 rfl (Uc (T1 (cc (g ac s1 σ H1 _ c q1) λt s2 z=>UJ ?_)));obtain⟨y,w,n,p,kvs,k,v,q,rfl,l,q2⟩:=z;exact J4 n q p l (.inl rfl) λA B r b=>⟨v,_,r,b,q2⟩
end
end L2
namespace Att
open PySem PySem.W PySem.Calls PyProof.Rows
def lH:∀(ns:List Int)(vs:List Vz),WellAll P h vs (ns.map WData.int)->IntsAre vs ns:=by
 intro ns;induction ns with
 |nil=>intro vs w;rw[TR]at w;cases w;exact .nil
 |cons n ns c=>
  intro vs w;rw[Rn]at w;cases w with
  |cons a b=>cases a;exact .cons _ _ (c _ b)
def xA{l:OpenLaw}{n:Nat}(i:l.most=some n){P:Params}
 (b:l.row.toRowW.claim.pre args=true) (e:WellAll P h vals args) :
 ∃a vs ns,vals=[Value.ref a]/\args=[WData.list (ns.map WData.int)]/\h.get? a=some { cls:=.type "list",data:=.seq vs.toArray }/\IntsAre vs ns/\ns.length<=n:=by
 have f:WShape.hasAll [] args [.list .int]=true:=(pre_splitW b).1;have g:l.pre.holds [] {args:=args}=true:=(pre_splitW b).2;obtain⟨d,r,rfl,h1,h2⟩:=hasAllW_cons f;obtain rfl:=hasAllW_nil h2;obtain⟨xs,rfl,h3⟩:=hasW_list h1;obtain⟨ns,rfl⟩:=items_int h3;have j:ns.length<=n:=by
  unfold OpenLaw.pre at g;have c:(WTm.not (.lt (.lit (.int (n:Int))) (.len (.arg 0)))).holds [] {args:=[.list (ns.map .int)]}=true:=by have c:=(holds_andW g).1;rw[i]at c;exact c
  have q:=condW_of c (w_not (w_lt w_lit (w_len_list (w_arg rfl))))
  grind
 cases e with
 |cons k m=>
  cases m;cases k with
  |list o p=>exact⟨_,_,ns,rfl,rfl,o,lH ns _ p,j⟩
def xB(l:OpenLaw)(args:List WData):l.row.toRowW.claim.post args (.bool true) args=true:=
 postW_of (r:=l.row.toRowW) (X:=(true==true))
  (show WShape.has [] (.bool true) .bool=true by first|rfl|decide|simp[WShape.has,WShape.arms,WShape.armsAll])
  (show(WTm.eq .res (.lit (.bool true))).value [] {args:=args,res:=some (.bool true),after:=args}=some (.bool (true==true))from w_eq_bool (w_res rfl) w_lit) rfl
def attach_call{l:OpenLaw}{n:Nat}{u:(Str->Option Vz)->Heap->Prop}{v:World->Heap->Prop}
 (A:l.most=some n) (k:d.params.defaults=[])
 (call:∀(w:World)(s₀ b:Vw)(mg m:Str->Option Vz)(e:Addr)(o:Obj)(pm i doc:Vz)(a:Addr)(vs:List Vz)(ns:List Int),
   Ground q loose [] u w s₀ mg m b.heap->v w b.heap->
   b.heap.get? e=some o->o.data=.func (docDef d.name d.params d.body d.scope pm i doc)->b.heap.CodeRec i d.name->mg d.name=some (.ref e)->
   b.heap.get? a=some { cls:=.type "list",data:=.seq vs.toArray }->IntsAre vs ns->ns.length<=n->b.gens=#[]->
   codeAny (model l.prog w) callerA (.call (.ref e) ⟨[.ref a],[]⟩) (λr j=>r=.ok (.ret (.bool true))/\OldK b.heap j.heap/\j.os=b.os/\AllBare j.gens) b) :
 WalkO q loose u v l.row.toRowW d [] (λf vs=>PySem.call f vs):=by
 intro w s₀ b mg m G Y e o pm i doc B kV C hd p x s D args y K g z E t F;obtain rfl:B=.none:=Dflts.none x k;obtain rfl:kV=.none:=Dflts.noKw x;obtain⟨a,vs,ns,rfl,rfl,h,c,H⟩:=xA A g t;refine enter_call (UR (call w s₀ b mg m e o pm i doc a vs ns G Y C (fd_plain hd) p s h c H D) λr j I=>?_);obtain⟨rfl,h2,h3,J⟩:=I;exact⟨.inl ⟨.bool true,.bool true,[],rfl,λ_=>rfl,.bool true,xB l _,λ_=>⟨List.Pairwise.nil,λ_ hm=>(nomatch hm)⟩⟩,h2,h3,J⟩
end Att
namespace L2
open PySem PySem.Spec PyProof.Rows
noncomputable def eM(s:Stmt)(j:Nat):Stmt:=match s with
 |.ClassDef _ _ _ a _ _ _ _ _ _ _=>a.getD j (.Pass ⟨0,0,0,0⟩)
 |_=>.Pass ⟨0,0,0,0⟩
noncomputable def dg(s:Stmt):Arguments:=match s with
 |.FunctionDef _ a _ _ _ _ _ _ _ _=>a
 |_=>{posonlyargs:=[],args:=[],vararg:=none,kwonlyargs:=[],kw_defaults:=[],kwarg:=none,defaults:=[]}
noncomputable def cF(s:Stmt):List Stmt:=match s with
 |.FunctionDef _ _ b _ _ _ _ _ _ _=>b
 |_=>[]
noncomputable def aD(s:Stmt):Scope:=match s with
 |.FunctionDef _ _ _ _ _ _ a _ _ _=>a
 |_=>{kind:=.function,names:=[],isGenerator:=false,isCoroutine:=false}
noncomputable abbrev fW:CS:=λ_ _ _ _ _ _=>False
noncomputable abbrev E0:XK:=λ_ _ _=>False
def be:fh fW X E0:=λ_ _ _ _ _ _ _ h=>h.elim
structure Dc(K:Vx) (x qual:Str) (st:Stmt) (f:Addr) (fd:FuncData):Prop where
 ex:∃(oc:Vz)(od:Option Addr)(kV doc pm:Vz)(an:Option Addr)(cdv ct:Vz)(osl:Array (Option Vz)),
  fd=fnOf x qual (dg st) (cF st) (aD st) .none kV doc pm an cdv ct/\K.lookup f=some ⟨oc,od,.func fd,osl⟩/\codeIn K cdv qual=true
 kp:keepIn K (.ref f)=true
section
variable{P:Vy}{w:World}{K:Vx}{mg:Str->Option Vz}{base:Heap}
def Dc.ok{x qual:Str}{st:Stmt}{f:Addr}{fd:FuncData}{N ps:List Str}{k:Nat}{sp:Sp}(F:Dc K x qual st f fd)(S:aP N ps (aD st))(len:∀vs H Q E,sp vs H Q E->vs.length=ps.length)
 (a:∀(cdv:Vz)(A:VA)(outer:List Env)(s:Vw)(H:Hp)(vs:List V)(Q:VK)(E:XK),c9 k (A.deeper (envOfC qual (aD st) s.heap.objs.size f cdv))->sp vs H Q E->
   ∃t,PSs (uu fW P w K mg base N qual (aD st) f cdv A outer s H E).MU (cF st) t/\t {nx:=λ_ H'=>Q .bz H',rt:=Q} (bp N vs) H):bF P w K mg base fW (k+1) f fd ps sp:=by
 obtain⟨oc,od,kV,doc,pm,an,cdv,ct,osl,rfl,lk,b⟩:=F.ex;refine JZ lk b S len λA outer s H vs Q E d c=>?_;obtain⟨t,h,q⟩:=a cdv A outer s H vs Q E d c;exact⟨t,h.MU,q⟩
def Dc.binds{x qual:Str}{st:Stmt}(F:Dc K x qual st f fd)
 (h:∀(kV doc pm:Vz)(an:Option Addr)(cdv ct:Vz)(us:List Vz),us.length=ps.length->bindArgs (fnOf x qual (dg st) (cF st) (aD st) .none kV doc pm an cdv ct) ⟨us,[]⟩=pure (ps.zip us)):Binds K fd ps []:=by
 obtain⟨oc,od,kV,doc,pm,an,cdv,ct,osl,rfl,lk,a⟩:=F.ex;exact .all (h kV doc pm an cdv ct)
def zN{x qual:Str}{st:Stmt}{f:Addr}{oc:Vz}{od an:Option Addr}{osl:Array (Option Vz)}{kV doc pm cdv ct:Vz}(l:K.lookup f=some ⟨oc,od,.func (fnOf x qual (dg st) (cF st) (aD st) .none kV doc pm an cdv ct),osl⟩)
 (c:codeIn K cdv qual=true) (k:keepIn K (.ref f)=true):Dc K x qual st f (fnOf x qual (dg st) (cF st) (aD st) .none kV doc pm an cdv ct):=⟨⟨oc,od,kV,doc,pm,an,cdv,ct,osl,rfl,l,c⟩,k⟩
end
def dh(a:c9 k A):A.units+1<cLine:=Sm (U9 (by decide:1<=64) _) a.units
section
def pv(i:Nat)(b:autoParam (X.N[i]?=some x) aM)(c:autoParam (M9 X.env.scope x) VD._auto_1)(hd:autoParam (dB x) ab)
 (a:autoParam ((x==("__classdict__" : Str))=false) ab):PE X (.Name x pos) (au i):=Gs b c hd a
end
def di{A B:Prop}(h:B):if false=true then A else B:=by rw[Rf RF];exact h
def iT{A B:Prop}(h:A):if true=true then A else B:=by rw[Re rfl];exact h
def nZ{c A B:Prop}[Decidable c](h1:c->A)(h2:¬c->B):if c then A else B:=by
 by_cases h:c
 .rw[Re h];exact h1 h
 .rw[Rf h];exact h2 h
def Same(H H':Hp):Prop:=∀b o,H b=some o->H' b=some o
def Same.refl(H:Hp):Same H H:=λ_ _ h=>h
def Same.trans(a:Same H H1)(b:Same H1 H2):Same H H2:=λc o h=>b c o (a c o h)
def Same.free(e:Same H H')(h:H' l=Option.none):H l=Option.none:=by
 cases q:H l with
 |none=>rfl
 |some o=>rw[e l o q]at h;cases h
abbrev TX:=St->Hp->VK->XK->Prop
end L2
namespace L2
open PySem PySem.Spec PySem.Calls PyProof.Rows
def lI
 (m:s.heap.get? a=some o) (n:o.cls=.type "list") (b:o.data=.seq xs k) (hd:o.dict=none) (f:typeLookup (.type "list") name=pure none) (i:(["__module__","__name__","__qualname__","__doc__","__annotations__"]:List Str).contains name=false) (q:A.handled=none)
 (h:∀h' tk e,Heap.NewExcOf s.heap h' e "AttributeError"->Q none {s with heap:=h',toks:=tk}) (hsz:name.length+100<=sizeLine:=by size_fits) :
 wpAny (model prog w) A (getAttr? (.ref a) name) Q E s:=by
 obtain⟨c,r,t,sl⟩:=o;simp only at n b hd;subst n b hd;obtain⟨u,g,d,tk,os⟩:=s;have p:∀j,(⟨u,g,d,j,os⟩ : Vw).TypeIs (.ref a) "list":=λ_=>⟨_,m,rfl⟩;have v:=sub_AttributeError;have x:=PySem.F.slot_list_getattribute.lookup;have y:=PySem.F.slot_list_getattribute.bind (.ref a);have f5:=am_list_getattr_none;unfold getAttr? getAttrBy? getAttrBy
 repeat (any_goals (first|assumption|exact p _|((with_reducible show wpAny _ _ (call (Value.builtin "list.__getattribute__") _ _) _ _ _);refine call_meets PySem.F.slot_list_getattribute (p _) am_entry_list_getattribute (PySem.F.args_list_getattribute_2 _ _) (meets_getattribute_miss_list a xs k sl name _ f i hsz) ⟨m,q,λh' j e l=>?_⟩)|wp_step))
 obtain⟨t',z,B⟩:=l.there;show wpAny _ _ (getattributeRaised _ _ _ _ _ _ _) _ _ _;unfold getattributeRaised
 repeat (any_goals (first|assumption|wp_step))
 exact h _ _ _ l.of
abbrev i8:=List bW×Addr×Vz
noncomputable def vX(xs:List i8)(its:List i8):List i8:=its.foldl (λxs x=>storedH xs x.1 x.2.1 x.2.2) xs
def jF:entryFor table "dict.update.loop"=some Builtin.«dict.update.loop»:=entryFor_of_tree (by kernel_rfl)
def eQ:plainId "dict.update.loop"=true:=by decide +kernel
section
variable{prog:Vy}{w:World}
abbrev tK(prog:Vy)(w:World):=tupleKind (aO prog w)
def DRaw(prog:Vy)(w:World)(h:Heap)(S:Addr)(xs:List i8):Prop:=∃o es ep,h.get? S=some o/\o.ExactDict/\o.data=.dict es ep/\es.toList=xs.map (entryOfKey (tK prog w))/\(xs.map (·.1)).Nodup
def iD(x:(tK prog w).is h k a)(e:∀b o,h.get? b=some o->h'.get? b=some o):(tK prog w).is h' k a:=by obtain⟨o,c,n,h1,r⟩:=x;exact⟨o,c,n,e _ _ h1,r⟩
def DRaw.of(d:DRaw prog w h S xs)(ks:∀x∈xs,(tK prog w).is hb x.1 x.2.1)(e:∀b o,hb.get? b=some o->h.get? b=some o):h.DictOfH (tK prog w) S xs:=by obtain⟨o,es,ep,h1,h2,h3,a,c⟩:=d;exact⟨o,es,ep,h1,h2,h3,a,λx f=>iD (ks x f) e,c⟩
def uA(ks:∀x∈xs,(tK prog w).is hb x.1 x.2.1)(b:(tK prog w).is hb k a):∀x∈storedH xs k a v,(tK prog w).is hb x.1 x.2.1:=by
 unfold storedH;split
 .intro x hx;obtain⟨y,c,rfl⟩:=Q3.mp hx;have:=ks y c;unfold putAt;split<;>exact this
 .intro x hx;rcases Rj.mp hx with hx|hx
  .exact ks x hx
  .simp at hx;subst hx;exact b
def rF{xs:List i8}{k:List bW}:(storedH xs k a v).length<=xs.length+1:=by
 unfold storedH;split
 .rw[Q0];lia
 .rw[Q8];simp
variable{A:VA}{R:Result->Vw->Prop}{I:Addr}{fp wr:List Addr}{G:Array GenState->Array GenState->Prop}{n:Nat}{P:Nat->Vz->Prop}{St:Nat->Vw->Prop}
def jG(W:WalksS prog w A.in1 I fp wr G n P St)(S:Addr)(m:S∉fp)(Z:A.in1.units<cLine)(hb:Heap)(hbS:hb.get? S=none)(hbw:∀b∈wr,hb.get? b=none)(its:List i8)(hn:its.length=n)
 (q:∀i v,P i v->∃p x,v=.ref p/\its[i]?=some x/\hb.IsTuple p #[.ref x.2.1,x.2.2]/\(tK prog w).is hb x.1 x.2.1) (hsz:n<=sizeLine) :
 ∀(k i:Nat)(s:Vw)(xs:List i8)(j:Int),n-i=k->i<=n->St i s->(∀b o,hb.get? b=some o->s.heap.get? b=some o)->(∀x∈xs,(tK prog w).is hb x.1 x.2.1)->xs.length<=i->
  DRaw prog w s.heap S xs->
  (∀c,Moved (S::wr) G s c->c.heap.DictOfH (tK prog w) S (vX xs (its.drop i))->R (.ok (.ret .none)) c)->
  codeAny (model prog w) A (.builtin "dict.update.loop" ⟨[.ref S,.ref I,rawInt j,.none],[]⟩) R s:=by
 have r:S∉wr:=λh=>m (W.sub _ h);have d:∀b∈wr,b∈S::wr:=λb hb=>Q7 _ hb;intro k;induction k with
 |zero=>
  intro i s xs j hk hi f K ks F H J;have L:i=n:=by lia
  subst L;refine SW jF ?_;rw[Th eQ _];show wpAny _ A.in1 (pyNext (.ref I) >>= _) _ _ s;refine KE (W.done s _ _ f λc hm=>?_);have M:=J c (hm.mono d) (by rw[List.drop_of_length_le (by lia)];obtain⟨o,es,ep,N,rest⟩:=H;exact DRaw.of (hb:=hb) ⟨o,es,ep,hm.heap S _ r N,rest⟩ ks λb o e=>hm.heap b o (λz=>by grind) (K b o e));show wpAny _ A.in1 (Builtin.Dict.addKeywords S [] >>= λ_=>ret Value.none) _ _ c;exact KE (QX (QX M))
 |succ k ih=>
  intro i s xs j hk hi f K ks F H J;have t:i<n:=by lia
  refine SW jF ?_;rw[Th eQ _];show wpAny _ A.in1 (pyNext (.ref I) >>= _) _ _ s;refine KE (W.item i s _ _ t f λv c hP u hm=>?_);obtain⟨p,x,rfl,X,ht,Y⟩:=q i v hP;have y:∀b o,hb.get? b=some o->c.heap.get? b=some o:=λb o e=>hm.heap b o (λz=>by grind) (K b o e);obtain⟨ot,B,O,nt,Q⟩:=ht;have hT:c.TypeIs (.ref p) "tuple":=⟨ot,y _ _ B,O⟩;have T:DRaw prog w c.heap S xs:=by obtain⟨o,es,ep,N,rest⟩:=H;exact⟨o,es,ep,hm.heap S _ r N,rest⟩
  refine KE (Sk ?_);refine KE ?_;refine wpAny_tryCatch ?_;unfold Builtin.Dict.pairItems;refine KE (T5 hT ?_);rw[Re (by decide)];refine KE (wpAny_seqItems (y _ _ B) Q ?_);refine QX ?_;show wpAny _ A.in1 (holding [Value.ref x.2.1,x.2.2] (dictSet S (.ref x.2.1) x.2.2)) _ _ c;refine Sk ?_;refine wpAny_dictSet_heap (knd:=tK prog w) (hsz:=by lia) Z (iD Y y) (DRaw.of T ks y) λh' U g=>?_;have K2:∀b o,hb.get? b=some o->h'.get? b=some o:=λb o e=>(g.2 b (λz=>by grind)).trans (y b o e);have l:its.drop i=x::its.drop (i+1):=by
   have C:i<its.length:=by lia
   rw[List.drop_eq_getElem_cons C];rw[Q1 C]at X;rw[R0 X]
  refine QX ⟨Uy eQ _,ih (i+1) _ (storedH xs x.1 x.2.1 x.2.2) (j+1) (by lia) t (W.frame _ c _ _ u (UV _ _) λb hb o e=>?_) K2 (uA ks Y) (by have:=rF (xs:=xs) (k:=x.1) (a:=x.2.1) (v:=x.2.2);lia) ?_ λV D E=>?_⟩
  .rw[g.2 b (λh:b=S=>m (by grind))];exact e
  .obtain⟨o,es,ep,h1,h2,h3,h4,_,h5⟩:=U;exact⟨o,es,ep,h1,h2,h3,h4,h5⟩
  .refine J V (Moved.trans W.gtrans ((hm.mono d).then_heap (UV _ _) λb o hb e=>?_) D) (by rw[l];exact E);rw[g.2 b (λh:b=S=>hb (by grind))];exact e
end
section
variable{prog:Vy}{w:World}{A:VA}{E:Vz->Vw->Prop}{s:Vw}
theorem lJ(C:A.handled=none)(H:A.in1.in1.units<cLine)(t:s.heap.get? l=some { cls:=.type "list",data:=.seq items nl }) (I:its.length=items.size) (hsz:items.size<=sizeLine)
 (d:∀(i:Nat)(v:Vz),items[i]?=some v->∃(p:Addr)(x:i8),v=.ref p/\its[i]?=some x/\s.heap.IsTuple p #[.ref x.2.1,x.2.2]/\(tK prog w).is s.heap x.1 x.2.1)
 (h:∀(h':Heap)(tk:Nat),h'.DictOfH (tK prog w) s.heap.objs.size (vX [] its)->(∀b o,b<s.heap.objs.size->s.heap.get? b=some o->h'.get? b=some o)->Q (.ref s.heap.objs.size) {s with heap:=h',toks:=tk}) :
 wpAny (model prog w) A (call (.type "dict") [.ref l]) Q E s:=by
 refine callType_codes (Q₁:=λobj c=>obj=.ref s.heap.objs.size/\c={ s with heap:=s.heap.push { cls:=.type "dict",data:=.dict #[] } }) PySem.F.kt_called_dict (PySem.F.kt_typeCall_dict_1 _) PySem.F.entry_dict_init (kt_code_dict_new _ ⟨rfl,rfl⟩) ?_;rintro obj c ⟨rfl,rfl⟩;have D:(s.heap.push { cls:=.type "dict",data:=.dict #[] }).get? s.heap.objs.size=some { cls:=.type "dict",data:=.dict #[] }:=Rb _ rfl;have G:Shared.TypeIs { s with heap:=s.heap.push { cls:=.type "dict",data:=.dict #[] } } (.ref s.heap.objs.size) "dict":=⟨_,D,rfl⟩;refine⟨G,PySem.F.args_dict_init_2 _ _,?_⟩;unfold Builtin.«dict.__init__»;refine KE ?_;unfold Builtin.Dict.selfAndRest;refine KE (Tu G ?_);show wpAny _ _ (pure (s.heap.objs.size,[Value.ref l])) _ _ _;refine QX ?_;show wpAny _ _ (Builtin.Dict.updateFrom "dict.__init__" s.heap.objs.size (.ref l) [] .none) _ _ _;unfold Builtin.Dict.updateFrom;have f:(s.heap.push { cls:=.type "dict",data:=.dict #[] }).get? l=some { cls:=.type "list",data:=.seq items nl }:=QZ _ t;refine KE (T5 ⟨_,f,rfl⟩ ?_);rw[Re (by decide)];refine KE (lI (s:={ s with heap:=s.heap.push { cls:=.type "dict",data:=.dict #[] } }) f rfl rfl rfl (am_miss_of_fast (by decide +kernel)) (by decide +kernel) (by simp[C]) λh1 tk1 e1 g=>?_);rw[Re (by decide)];refine KE (U6 ?_);have k1:∀b o,s.heap.get? b=some o->h1.get? b=some o:=λb o e=>g.keeps b o (QZ _ e);have j:h1.get? l=some { cls:=.type "list",data:=.seq items nl }:=k1 _ _ t;have k:h1.get? s.heap.objs.size=some { cls:=.type "dict",data:=.dict #[] }:=g.keeps _ _ D;have a:s.heap.objs.size<h1.objs.size:=Rc k;have m:l<s.heap.objs.size:=Rc t;refine KE (UI (s:=⟨h1,s.gens,s.drawn,tk1,s.os⟩) ⟨_,j,rfl,nl,rfl⟩ ?_);have u:A.in1.in1.handled=none:=by simp[C]
 have n:∀b,s.heap.objs.size<=b->s.heap.get? b=none:=λb hb=>by
  cases q:s.heap.get? b with
  |none=>rfl
  |some o=>exact absurd (Rc q) (Nat.not_lt.mpr hb)
 have r:l≠h1.objs.size:=Rt (Nat.lt_trans m a);have k2:∀b o,h1.get? b=some o->(h1.push { cls:=.type "list_iterator",data:=.fields #[.ref l,.int 0 0] }).get? b=some o:=λb o e=>QZ _ e;refine QX ⟨Uy eQ _,jG (A:=A.in1) ((Walks.list u h1.objs.size l r items).toS) s.heap.objs.size ?_ H s.heap (n _ (QY _)) ?_ its I d hsz (items.size-0) 0 _ [] 0 rfl (Rh _) ⟨⟨_,Rb _ rfl,rfl,rfl⟩,⟨_,k2 _ _ j,rfl,nl,rfl⟩⟩ (λb o e=>k2 _ _ (k1 b o e)) (λx J=>nomatch J) (QY _) ⟨_,#[],0,k2 _ _ k,?_,rfl,rfl,RI⟩ ?_⟩
 .simp only[Q_,Rk,Ve,not_or];exact⟨Rt a,Ts m⟩
 .intro b hb;simp only[Q_,Rk,Ve]at hb;subst hb;exact n _ (SG a)
 .exact⟨rfl,rfl,rfl⟩
 .intro K hm y;obtain⟨h',g',d',z,B⟩:=K;have L:g'=s.gens:=hm.gens;have M:d'=s.drawn:=hm.drawn;have N:B=s.os:=hm.os;subst L;subst M;subst N;refine⟨rfl,h h' z y λb o hb e=>hm.heap b o ?_ (k2 _ _ (k1 _ _ e))⟩;simp only[Q_,Rk,Ve,not_or];exact⟨Rt hb,Rt (Nat.lt_trans hb a)⟩
end
def eh(t kvs:List (List bW×V)):List (List bW×V):=kvs.foldl (λt x=>bY t x.1 x.2) t
def iE(H:Hp):List V->List (List bW×V)->Prop:=Paired λv kv=>∃p a,v=.ref p/\H p=some (.tup [.ref a,kv.2])/\H a=some (.tup (kv.1.map kV))
section
variable{P:Vy}{w:World}{H:Hp}{h:Heap}
theorem oS(ok:HOk P w H h):∀{vs:List V}{us:List Vz}{kvs:List (List bW×V)},iE H vs kvs->Vals vs us->
 ∃its:List i8,its.length=us.length/\(∀(i:Nat)(v:Vz),us[i]?=some v->∃(p:Addr)(x:i8),v=.ref p/\its[i]?=some x/\h.IsTuple p #[.ref x.2.1,x.2.2]/\(tK P w).is h x.1 x.2.1)/\
  ∀t xs,KT H t xs->KT H (eh t kvs) (vX xs its)
 |_,_,_,.nil,.nil=>⟨[],rfl,λi v e=>by simp at e,λt xs r=>r⟩
 |_,_,_,.cons (a:=v) (b:=kv) q t,.cons (b:=u) r s=>by
  obtain⟨its,j,k,l⟩:=oS ok t s;obtain⟨p,d,rfl,m,c⟩:=q;cases r;obtain⟨_,is,o,y,z,A,n,hd⟩:=(show ObjOk P w H h p (.tup [.ref d,kv.2])from ok p _ m);obtain⟨u1,u2,rfl,f,g⟩:=vS o;cases f;refine⟨(kv.1,d,u2)::its,by simp[j],λi v e=>?_,λt xs rt=>?_⟩
  .cases i with
   |zero=>simp at e;subst e;exact⟨p,(kv.1,d,u2),rfl,rfl,⟨y,z,A,n,hd⟩,dc ok c⟩
   |succ i=>exact k i v (by simpa using e)
  .exact l _ _ (rt.put kv.1 c g)
theorem mD:∀(kvs t:List (List bW×V)),(eh t kvs).length<=t.length+kvs.length
 |[],t=>QY _
 |x::r,t=>by have:=mD r (bY t x.1 x.2);have h2:=dW t x.1 x.2;show(eh (bY t x.1 x.2) r).length<=_;simp only[Rq];lia
end
section
variable{X:Cx}
def uB(j:X.calm=true)(C:X.A.units+64<cLine):CallR X (.type "dict") (λxs H Q=>∃l vs kvs,xs=[.ref l]/\Rd H l (.lst vs)/\iE H vs kvs/\∀p,H p=none->Q (.ref p) (upd H p (.dT (eh [] kvs)))):=by
 intro ac s σ H xs us Q I r h;obtain⟨l,vs,kvs,rfl,k,c,q⟩:=h;obtain⟨u,rfl,ru⟩:=dR r;obtain rfl:u=Value.ref l:=ru;obtain⟨hz,its,n,d,m⟩:=(show ObjOk X.prog X.w H s.heap l (.lst vs)from k.ok I.aW);obtain⟨f,pl,pv,t⟩:=oS I.aW c d;have hsz:its.toArray.size<=sizeLine:=by rw[Ra,<- d.length];exact hz
 refine lJ (I.ok.hd j) (by show X.A.units+1+1<cLine;lia) m (its:=f) (by rw[pl,Ra]) hsz (λi v e=>pv i v (by simpa using e)) λh' tk x y=>?_;have g:H s.heap.objs.size=none:=I.aW.fresh (QY _);refine⟨.ref s.heap.objs.size,_,I.laid (a:=s.heap.objs.size) (o:=.dT (eh [] kvs)) (t':=tk) (λb o e=>y b o (Rc e) e) (QY _) ?_,rfl,q _ g⟩;obtain⟨o,es,ep,h1,h2,h3,z,_,B⟩:=x;refine⟨?_,S6.mpr (Si (Rt I.big)),vX [] f,(t [] [] .nil).keeps λb D e=>?_,o,es,ep,h1,h2,h3,z,B⟩
 .have:=mD kvs [];have h2:=Ta c;simp only[T6]at this;lia
 .rw[ai (ax e g)];exact e
end
section
def Inv.Pc(I:Inv X ac σ H s)(e:H a=some (.dK [])):Inv X ac σ (upd H a (.dT [])) s:=by
 obtain⟨z,y,vs,r,o,es,ep,h1,h2,h3,d,c⟩:=(show ObjOk X.prog X.w H s.heap a (.dK [])from I.aW a _ e);cases r;exact I.write (x:=a) (e:=a) (t':=s.toks) (h':=s.heap) (by rw[e];exact True.intro) (.inl rfl) (λb u _ q=>q) ⟨o,h1⟩ ⟨z,y,[],.nil,o,es,ep,h1,h2,h3,(by
  generalize es.toList=l at c;obtain⟨c,_⟩:=c;cases l with
  |nil=>rfl
  |cons x r=>cases c),RI⟩
end
def FH(H:Hp)(a:Addr)(y:V)(r:Option V):Prop:=DGet H a y r\/(Rd H a (.dT [])/\(∃k,y=kV k)/\r=none)\/(Rd H a (.dK [])/\(∃(b:Addr)(k:List bW),y=.ref b/\H b=some (.tup (k.map kV)))/\r=none)
section
def pR(x:ObjOk P w H h a (.dT [])):(a==sysModules)=false/\h.DictOf (aO P w) a []:=by
 obtain⟨z,y,xs,r,o,es,ep,h1,h2,h3,c,d⟩:=x;cases r;have e:es=#[]:=by grind
 subst e;exact⟨y,o,#[],ep,h1,h2,h3,λx b=>by simp at b,by constructor,RI⟩
def GL(x:ObjOk P w H h a (.dK [])):(a==sysModules)=false/\h.DictOfH (tupleKind (aO P w)) a []:=by
 obtain⟨z,y,vs,r,o,es,ep,h1,h2,h3,d,b⟩:=x;cases r;refine⟨y,o,es,ep,h1,h2,h3,?_,λx c=>(nomatch c),RI⟩;generalize es.toList=l at b;obtain⟨b,_⟩:=b;cases l with
 |nil=>rfl
 |cons x r=>cases b
def zO(d:A.units+1<cLine)(I:Inv X ac σ H s)(g:FH H a y o)(c:RelV y u)(h:∀f,Inv X ac σ H f->Q (.bool (!o.isSome)) f) :
 wpAny (model X.prog X.w) A (compareOp .NotIn u (.ref a)) Q E s:=by
 rcases g with g|⟨e,⟨k,rfl⟩,rfl⟩|⟨e,⟨b,k,rfl,i⟩,rfl⟩
 .exact DC d I g c h
 .obtain⟨y,dd⟩:=pR (e.ok I.aW);exact wpAny_notIn_of (jC c) y dd.mapOf (h _ (I.tok _))
 .obtain rfl:u=Value.ref b:=c;obtain⟨y,dd⟩:=GL (e.ok I.aW);exact wpAny_notIn_heap (Tt d) (dc I.aW i) y dd (h _ (I.tok _))
end
noncomputable def n8:HO->Prop
 |.dK _=>True
 |.dT _=>True
 |_=>False
section
def Inv.view(I:Inv X ac σ H s)(hn:∀b,H b=none->H' b=none)(ht:∀b xs,H b=some (.tup xs)->H' b=some (.tup xs))(hf:∀b o u,X.H₀ b=some (.bw o u)->H' b=some (.bw o u))
 (hb:∀b ps,H b=some (.tV ps)->H' b=some (.tV ps)) (aW:HOk X.prog X.w H' s.heap):Inv X ac σ H' s where
 ok:=I.ok
 os:=I.os
 bare:=I.bare
 base:=⟨I.base.keep,I.base.slot,λb o e n hx=>hn b (I.base.free b o e n hx),I.base.there,λb xs e=>ht b xs (I.base.nW b xs e),hf,λb ps e=>let ⟨m,q⟩:=I.base.tR b ps e;⟨m,hb b _ q⟩⟩
 loc:=I.loc
 cell:=I.cell
 free:=hn _ I.free
 gk:=λx c e=>hn c (I.gk x c e)
 pin:=λp hp=>let ⟨a,b,c⟩:=I.pin p hp;⟨a,hn _ b,c⟩
 aW:=aW
 len:=I.len
def vY(ok:HOk P w H h)(hd:∃u,H d=some u/\(∀y,u≠.own y)/\∀xs,u≠.tup xs)(new:ObjOk P w (upd H d u') h d u'):HOk P w (upd H d u') h:=λb v e=>by
 obtain⟨u,a,h1,h2⟩:=hd;by_cases hb:b=d
 .subst hb;rw[ag]at e;cases e;exact new
 .rw[ai hb]at e;refine(ok b v e).stay (λ_ _ _ q=>q) (λc q=>?_) λc xs q=>?_
  .rw[ai]
   .exact q
   .rintro rfl;rw[a]at q;cases q;exact h1 _ rfl
  .rw[ai]
   .exact q
   .rintro rfl;rw[a]at q;cases q;exact h2 _ rfl
def vZ(h:n8 u):(∀y,u≠.own y)/\(∀xs,u≠.tup xs)/\(∀ps,u≠.tV ps)/\∀o v,u≠.bw o v:=by cases u<;>first|exact h.elim|exact⟨λ_ z=>(nomatch z),λ_ z=>(nomatch z),λ_ z=>(nomatch z),λ_ _ z=>(nomatch z)⟩
def oT(a:n8 u)(x:ObjOk P w H h d u)(c:∀b xs,H b=some (.tup xs)->H' b=some (.tup xs)):ObjOk P w H' h d u:=by
 cases u with
 |dK kvs=>exact x
 |dT kvs=>obtain⟨z,y,xs,r,q⟩:=x;exact⟨z,y,xs,Paired.Fu r λp q z=>⟨z.1,c _ _ z.2.1,z.2.2⟩,q⟩
 |_=>exact a.elim
theorem Inv.bw(I:Inv X ac σ H s)(e:H d=some u)(a:n8 u)(f:s.heap.get? d=some o):Inv X ac σ (upd H d (.bw o u)) s:=by
 obtain⟨n1,n2,g,h⟩:=vZ a;have c:∀b xs,H b=some (.tup xs)->upd H d (.bw o u) b=some (.tup xs):=λb xs q=>by
  rw[ai]
  .exact q
  .rintro rfl;rw[e]at q;cases q;exact n2 _ rfl
 refine I.view (λb hb=>?_) c (λb i j q=>?_) (λb ps q=>?_) (vY I.aW ⟨u,e,n1,n2⟩ ⟨f,oT a (I.aW d u e) c⟩)
 .rw[ai]
  .exact hb
  .rintro rfl;rw[e]at hb;cases hb
 .have q:=I.base.lP b i j q;rw[ai]
  .exact q
  .rintro rfl;rw[e]at q;cases q;exact h _ _ rfl
 .rw[ai]
  .exact q
  .rintro rfl;rw[e]at q;cases q;exact g _ rfl
def Inv.Gi(I:Inv X ac σ H s)(e:H d=some u)(a:n8 u):∀o v,X.H₀ d≠some (.bw o v):=λo v q=>by have:=I.base.lP d o v q;rw[e]at this;cases this;exact(vZ a).2.2.2 _ _ rfl
def Inv.MQ(I:Inv X ac σ H s)(e:H d=some (.bw o u))(c:n8 u)(f:∀o v,X.H₀ d≠some (.bw o v)):Inv X ac σ (upd H d u) s:=by
 have a:∀b xs,H b=some (.tup xs)->upd H d u b=some (.tup xs):=λb xs q=>by
  rw[ai]
  .exact q
  .rintro rfl;rw[e]at q;cases q
 have x:ObjOk X.prog X.w H s.heap d u:=(show ObjOk X.prog X.w H s.heap d (.bw o u)from I.aW d _ e).2;refine I.view (λb hb=>?_) a (λb g h q=>?_) (λb ps q=>?_) (vY I.aW ⟨_,e,λ_ z=>(nomatch z),λ_ z=>(nomatch z)⟩ (oT c x a))
 .rw[ai]
  .exact hb
  .rintro rfl;rw[e]at hb;cases hb
 .have q2:=I.base.lP b g h q;rw[ai]
  .exact q2
  .rintro rfl;exact f _ _ q
 .rw[ai]
  .exact q
  .rintro rfl;rw[e]at q;cases q
end
def DE(h:(aO P w).is k u=true):RelV (kV k) u:=by
 rcases bu (show iY k u=true from h)with⟨i,t,rfl,rfl⟩|⟨x,t,rfl,rfl⟩
 .exact⟨t,rfl⟩
 .exact⟨t,rfl⟩
section
def GM(X:Cx)(D:Ends):Ends where
 nx:=λσ H=>D.nx σ H\/∃d o u,H d=some (.bw o u)/\n8 u/\(∀o v,X.H₀ d≠some (.bw o v))/\D.nx σ (upd H d u)
 rt:=D.rt
 bk:=D.bk
 ct:=D.ct
def mE{st:Stmt}(h:PS X st t):PS X st (λD σ H=>t (GM X D) σ H):=by
 intro ac s σ H D I q;refine cc (h ac s σ H _ I q) λf i r=>?_;cases f with
 |next=>
  obtain⟨a,H',b,r⟩:=r;rcases r with r|⟨d,o,u,e,c,g,r⟩
  .exact⟨a,H',b,r⟩
  .exact⟨a,_,b.MQ e c g,r⟩
 |_=>exact r
end
section
def GN(I:Inv X ac σ H s)(e:Rd H a (.dK kvs)\/(Rd H a (.dT [])/\kvs=[])) :
 kvs.length<=sizeLine/\(a==sysModules)=false/\∃vs,KV kvs vs/\s.heap.DictOf (aO X.prog X.w) a vs:=by
 rcases e with e|⟨e,rfl⟩
 .exact i6 I.aW e
 .obtain⟨y,dd⟩:=pR (e.ok I.aW);exact⟨Rh _,y,[],.nil,dd⟩
end
section
def GO{k:bW}{i dflt:Vz}{Q:Vz->Vw->Prop}(m:(aO prog w).is k i=true)(hm:s.heap.DictOf (aO prog w) d vs)(n:valueAt vs k=none)
 (h:∀h',h'.DictOf (aO prog w) d (stored vs k dflt)->Heap.SameBut d s.heap h'->Q dflt {s with heap:=h',toks:=s.toks+1}) (hsz:vs.length<=sizeLine):wpAny (model prog w) A (dictSetDefault d i dflt) Q E s:=by
 obtain⟨o,es,ep,p,v,hd,u,q,y⟩:=hm;have r:es.size<=sizeLine:=by
  have e1:=q.length;have e2:es.toList.length=es.size:=by simp
  lia
 have c:vs.findIdx? (λkv=>decide (kv.1=k))=none:=by
  rw[List.findIdx?_eq_none_iff];intro x z;refine RK λe=>?_;have:(valueAt vs k).isSome=true:=by unfold valueAt;rw[Vh,List.find?_isSome];exact⟨x,z,Rm e⟩
  rw[n]at this;cases this
 have j:(es.findIdx? λe=>(aO prog w).is k e.key)=none:=by
  have:(es.findIdx? λe=>(aO prog w).is k e.key)=vs.findIdx? λkv=>decide (kv.1=k):=by rw[<- q.findIdx k];obtain⟨l⟩:=es;simp
  rw[this];exact c
 have f:k∉vs.map (·.1):=not_mem_of_findIdx_none c;have g:¬(vs.any λkv=>decide (kv.1=k))=true:=by rw[Vn];rintro⟨kv,t,B⟩;exact f (Q3.mpr ⟨kv,t,Rr B⟩)
 unfold dictSetDefault
 try with_reducible refine Sk ?_
 refine KE ((aO prog w).pyHash m ?_);refine KE (wpAny_dictFind_of (s:={s with toks:=s.toks+1}) m p hd u ?_);rw[j];refine KE (U6 (KE (wpAny_updateDictKeys (hz:=r) (s:={s with toks:=s.toks+1}) p hd (QX (h _ ⟨_,_,ep+1,SJ _ p (Obj.isFreed_of_dict (Ud hd _)),v.mapDictKeys _,Ud hd _,u.push m _,?_,?_⟩ (RZ ..))))))
 .rw[stored,Rf g];have:=q.append m ((aO prog w).hash k) dflt;obtain⟨l⟩:=es;simpa using this
 .rw[stored,Rf g,RX,RC];refine⟨y,by simp,?_⟩;intro a ha b hb;simp only[Rn,TR,Q9]at hb;subst hb;exact λe=>f (e▸ha)
end
section
def FI:V->List V->Hp->VK->Prop:=λx xs H Q=>∃a k y kvs,x=.ref a/\xs=[kV k,y]/\(H a=some (.dK kvs)\/(H a=some (.dT [])/\kvs=[]))/\kvs.length<sizeLine/\
 ((∃v,cJ kvs k=some v/\Q v H)\/(cJ kvs k=none/\Q y (upd H a (.dK (bY kvs k y)))))
def DF:FF X "dict.setdefault" FI:=by
 intro ac s σ H x xs v us Q I t rs q;obtain⟨a,k,y,kvs,rfl,rfl,ha,hz,q⟩:=q;obtain rfl:v=Value.ref a:=t;obtain⟨u1,u2,rfl,h,b⟩:=vS rs;obtain⟨N,u,vs,i,c⟩:=GN I (ha.imp .inl λ⟨e,w⟩=>⟨.inl e,w⟩);have n:=jC (P:=X.prog) (w:=X.w) h;refine R7 RY c.typeIs UW ?_ (US _ _ _);unfold Builtin.«dict.setdefault»;refine KE ?_;unfold Builtin.Dict.keyAndDefault;refine KE (Tu c.typeIs (show wpAny _ _ (pure (a,u1,some u2)) _ _ s from QX ?_));show wpAny _ _ (if(a==sysModules)=true then _ else(dictSetDefault a u1 u2 >>= _)) _ _ s;rw[Rf (by grind)];have A:vs.length<=sizeLine:=by rw[<- i.length];lia
 have j:s.heap.DictLe a sizeLine:=λo es ep B hd=>by
  obtain⟨O,C,D,d,_,f,_,E,_⟩:=id c;rw[B]at d;cases d;rw[hd]at f;cases f;have e1:=E.length;have e2:es.toList.length=es.size:=by simp
  lia
 have F:=i.val k;rcases q with⟨v,p,q⟩|⟨p,q⟩
 .obtain⟨R,r,l⟩:=RelO.some_of (v:=v) (o:=valueAt vs k) (by grind);refine KE (wpAny_dictSetDefault_of (hz:=j) n c.mapOf (λS e=>?_) λe=>?_)
  .rw[r]at e;cases e;exact QX ⟨_,rfl,v,H,I.tok _,l,q⟩
  .rw[r]at e;cases e
 .have m:valueAt vs k=none:=by
   have:=F.fg;rw[p]at this;cases z:valueAt vs k with
   |none=>rfl
   |some _=>rw[z]at this;cases this
  refine KE (GO n c m (λh' g G=>QX ⟨_,rfl,?_⟩) A);have J:∃q,h'.get? a=some q:=let ⟨q,_,_,K,_⟩:=g;⟨q,K⟩;have L:JC (H a):=by rcases ha with e|⟨e,_⟩<;>(rw[e];exact True.intro)
  have M:(bY kvs k y).length<=sizeLine:=by have:=dW kvs k y;lia
  exact⟨y,_,jD (t':=s.toks+1) I L G J (uy M u (i.put k b) g),b,q⟩
end
end L2
namespace ST
open PySem PySem.SetTable
noncomputable def st(m:Nat)(h:Int):Probe:={j:=bits h%(m+1),more:=runEnd m (bits h%(m+1))-bits h%(m+1),i:=bits h%(m+1),perturb:=bits h,dummy:=none}
noncomputable def rs(m:Nat)(p:Nat×Nat):Probe:={j:=p.1,more:=runEnd m p.1-p.1,i:=p.1,perturb:=p.2,dummy:=none}
noncomputable def uC(m:Nat)(p:Probe):Probe:=if p.more>0 then {p with j:=p.j+1,more:=p.more-1}else {p with j:=(leap m p.i p.perturb).1,more:=runEnd m (leap m p.i p.perturb).1-(leap m p.i p.perturb).1,i:=(leap m p.i p.perturb).1,perturb:=(leap m p.i p.perturb).2}
def uD(t:SetTable)(p:Probe):t.advance p=uC t.mask p:=rfl
def it(m:Nat):Nat->Probe->Probe
 |0,p=>p
 |n+1,p=>it m n (uC m p)
def ft(m:Nat):∀(a b:Nat)(p:Probe),it m (a+b) p=it m b (it m a p):=by intro a b;induction a<;>grind [it,uC]
def DG(m n:Nat)(p:Probe):it m (n+1) p=uC m (it m n p):=ft m n 1 p
structure Va(m:Nat) (p:Probe):Prop where
 i:p.i<=m
 more:p.more<=9
 j:p.j+p.more<=m
 q:p.perturb<2^64
 d:p.dummy=none
def pS(h:Int):bits h<2^64:=by
 unfold bits
 grind
def jf(m i:Nat)(h:i<=m):runEnd m i-i<=9/\i+(runEnd m i-i)<=m:=by unfold runEnd;split<;>lia
theorem Va.rs(h1:p.1<=m)(h2:p.2<2^64):Va m (rs m p):=⟨h1,(jf m _ h1).1,(jf m _ h1).2,h2,rfl⟩
theorem Va.st(m:Nat)(h:Int):Va m (st m h):=by have:bits h%(m+1)<=m:=Vi (Vv _ (Nat.succ_pos m));exact⟨this,(jf m _ this).1,(jf m _ this).2,pS h,rfl⟩
def pT(m i q:Nat):(leap m i q).1<=m:=by exact Vi (Vv _ (Nat.succ_pos m))
def uE(m i q:Nat):(leap m i q).2=q/32:=rfl
theorem Va.uC(v:Va m p):Va m (uC m p):=by
 unfold ST.uC;split
 .exact⟨v.i,by dsimp only;have:=v.more;lia,by dsimp only;have:=v.j;lia,v.q,v.d⟩
 .have l:=pT m p.i p.perturb;exact⟨l,(jf m _ l).1,(jf m _ l).2,by dsimp only;rw[uE];have:=v.q;have:=Nat.div_le_self p.perturb 32;lia,v.d⟩
theorem Va.it:∀{n:Nat}{p:Probe},Va m p->Va m (it m n p)
 |0,_,v=>v
 |n+1,_,v=>Va.it (n:=n) v.uC
def Va.Pw(v:Va m p):p.j<=m:=by have:=v.j;lia
def lU:∀(k:Nat)(p:Probe),p.more=k->Va m p->it m (k+1) p=rs m (leap m p.i p.perturb):=by intro k;induction k<;>grind [Va,it,rs,uC]
noncomputable def lp(m:Nat):Nat->Nat×Nat->Nat×Nat
 |0,p=>p
 |n+1,p=>lp m n (leap m p.1 p.2)
def GP(m:Nat):∀(a b:Nat)(p:Nat×Nat),lp m (a+b) p=lp m b (lp m a p):=by intro a b;induction a<;>grind [lp]
theorem J7(m:Nat):∀(n:Nat)(p:Nat×Nat),(lp m n p).2=p.2/32^n
 |0,p=>by simp[lp]
 |n+1,p=>by show(lp m n (leap m p.1 p.2)).2=_;rw[J7 m n,uE,Nat.div_div_eq_div_mul,Nat.pow_succ,Nat.mul_comm]
theorem FJ(m:Nat):∀(n:Nat)(p:Nat×Nat),p.1<=m->(lp m n p).1<=m
 |0,p,h=>h
 |n+1,p,_=>FJ m n _ (pT m _ _)
theorem rG:∀(L:Nat)(p:Probe),Va m p->∃n,n<=10*(L+1)/\it m n p=rs m (lp m (L+1) (p.i,p.perturb))
 |0,p,v=>⟨p.more+1,by have:=v.more;lia,lU _ p rfl v⟩
 |L+1,p,v=>by
  have h1:=lU _ p rfl v;have a:Va m (rs m (leap m p.i p.perturb)):=by rw[<- h1];exact v.it
  obtain⟨n,b,e⟩:=rG L _ a;refine⟨p.more+1+n,by have:=v.more;lia,?_⟩;rw[ft,h1,e];rfl
noncomputable def f5(m i:Nat):Nat:=(i*5+1)%(m+1)
def fN(m:Nat):Nat->Nat->Nat
 |0,i=>i
 |n+1,i=>fN m n (f5 m i)
def zP(m:Nat):Nat->Nat->List Nat
 |0,_=>[]
 |n+1,i=>i::zP m n (f5 m i)
theorem rH(m:Nat):∀(n i k:Nat),k<n->(zP m n i)[k]?=some (fN m k i)
 |n+1,i,0,_=>rfl
 |n+1,i,k+1,h=>rH m n _ k (by lia)
theorem rJ(m:Nat):∀(n i:Nat),(zP m n i).length=n
 |0,_=>rfl
 |n+1,i=>by show(zP m n _).length+1=_;rw[rJ]
theorem pU(m:Nat):∀(a b i:Nat),fN m (a+b) i=fN m b (fN m a i)
 |0,b,i=>by rw[Nat.zero_add];rfl
 |a+1,b,i=>by rw[Nat.succ_add];exact pU m a b _
def NA(m:Nat):Bool:=((List.range (m+1)).all λj=>(zP m (m+1) 0).contains j)&&(fN m (m+1) 0==0)
def t_(m:Nat):Prop:=m=7\/m=31\/m=127\/m=511
def v5(h:t_ m):NA m=true:=by rcases h with rfl|rfl|rfl|rfl<;>decide +kernel
def zQ(h:t_ m)(c:j<=m):∃n,n<=m/\fN m n 0=j:=by have:=v5 h;unfold NA at this;simp only[SC,Vo]at this;have h1:=this.1 j (RG.mpr (by lia));rw[List.contains_iff_mem,Rl]at h1;obtain⟨n,a⟩:=h1;have b:=(Q2.mp a).1;rw[rJ]at b;rw[rH m _ _ _ b]at a;exact⟨n,by lia,R0 a⟩
def GQ(h:t_ m)(e:i<=m)(f:j<=m):∃n,n<=m/\fN m n i=j:=by
 obtain⟨a,ha,c⟩:=zQ h e;obtain⟨b,hb,d⟩:=zQ h f;by_cases g:a<=b
 .refine⟨b-a,by lia,?_⟩;rw[<- c,<- pU,show a+(b-a)=b by lia,d]
 .refine⟨m+1+b-a,by lia,?_⟩;have z:=v5 h;unfold NA at z;simp only[SC,U5]at z;rw[<- c,<- pU,show a+(m+1+b-a)=m+1+b by lia,pU,z.2,d]
theorem v6(m:Nat):∀(n i:Nat),lp m n (i,0)=(fN m n i,0)
 |0,_=>rfl
 |n+1,i=>by show lp m n (leap m i 0)=_;have:leap m i 0=(f5 m i,0):=rfl;rw[this];exact v6 m n _
def rK(h:t_ m)(b:j<=m)(p:Nat×Nat)(h1:p.1<=m)(h2:p.2<2^64):∃n,13<=n/\n<=m+13/\(lp m n p).1=j:=by
 have a:(2:Nat)^64<32^13:=by decide
 have c:(lp m 13 p).2=0:=by rw[J7];exact Nat.div_eq_of_lt (by lia)
 obtain⟨n,d,e⟩:=GQ h (FJ m 13 p h1) b;refine⟨13+n,by lia,by lia,?_⟩;rw[GP]
 grind [lp,v6]
def FL(h:t_ m)(a:j<=m)(v:Va m p):∃n,n<10*turns m/\(it m n p).j=j:=by obtain⟨L,h1,h2,e⟩:=rK h a (p.i,p.perturb) v.i v.q;obtain⟨n,b,en⟩:=rG (L-1) p v;rw[show L-1+1=L by lia]at en b;refine⟨n,by unfold turns;lia,?_⟩;rw[en];exact e
def DH(xs:List Nat):Prop:=xs.Pairwise (·< ·)
theorem mF(l:DH xs.toList):∀(d lo c:Nat),lo<=c->c<=xs.size->c-lo<=d->
 (∀i (h:i<xs.size),i<lo->xs[i]<j)->(∀i (h:i<xs.size),c<=i->j<=xs[i])->
 below.go xs j d lo c<=xs.size/\(∀i (h:i<xs.size),i<below.go xs j d lo c->xs[i]<j)/\∀i (h:i<xs.size),below.go xs j d lo c<=i->j<=xs[i]
 |0,lo,c,h1,h2,h3,g,k=>by
  have:lo=c:=by lia
  subst this;exact⟨h2,g,k⟩
 |f+1,lo,c,h1,h2,h3,g,k=>by
  have mono:∀a b (ha:a<xs.size) (hb:b<xs.size),a<=b->xs[a]<=xs[b]:=by
   intro a b ha hb m;rcases Nat.lt_or_eq_of_le m with h|h
   .have:=Rv.mp l a b (by simpa using ha) (by simpa using hb) h;simpa using SG this
   .subst h;exact QY _
  unfold below.go;by_cases o:lo<c
  .rw[Re o];have hm:(lo+c)/2<xs.size:=by lia
   have p:xs.getD ((lo+c)/2) j=xs[(lo+c)/2]:=by simp[Array.getD,hm]
   dsimp only;rw[p];by_cases n:xs[(lo+c)/2]<j
   .rw[Re n];refine mF l f _ _ (by lia) h2 (by lia) (λi h e=>?_) k;exact Sm (mono i _ h hm (by lia)) n
   .rw[Rf n];refine mF l f _ _ (by lia) (by lia) (by lia) g λi h e=>?_;exact Rx (by lia) (mono _ i hm h e)
  .rw[Rf o];have:lo=c:=by lia
   subst this;exact⟨h2,g,k⟩
def cW(j:Nat)(a:DH xs.toList):below xs j<=xs.size/\(∀i (h:i<xs.size),i<below xs j->xs[i]<j)/\∀i (h:i<xs.size),below xs j<=i->j<=xs[i]:=by unfold below;exact mF a xs.size 0 xs.size (Rh _) (QY _) (by lia) (λi h z=>by lia) λi h z=>by lia
def zR(d:DH xs.toList)(h:i<xs.size):below xs xs[i]=i:=by
 obtain⟨a,b,c⟩:=cW xs[i] d;rcases UL (below xs xs[i]) i with q|q|q
 .have hb:below xs xs[i]<xs.size:=by lia
  have h1:=c (below xs xs[i]) hb (QY _);have h2:=Rv.mp d _ i (by grind) (by grind) q;simp at h2;lia
 .exact q
 .have:=b i h q;lia
theorem oU(j:Nat):has #[] j=false:=rfl
structure Tb(t:SetTable):Prop where
 kI:t_ t.mask
 JP:t.dummies=#[]
 tX:DH t.place.toList
 le:∀j∈t.place.toList,j<=t.mask
def oV(h:Tb t)(a:i<t.place.size):t.slot t.place[i]=.live i:=by unfold slot;dsimp only;rw[zR h.tX a];rw[Re];simp[a]
def uF(h:Tb t)(a:j∉t.place.toList):t.slot j=.empty:=by
 unfold slot;dsimp only;rw[Rf,h.JP,oU]
 .rfl
 .grind
def uG(h:Tb t)(j:Nat):(j∉t.place.toList/\t.slot j=.empty)\/∃i,∃c:i<t.place.size,t.place[i]=j/\t.slot j=.live i:=by
 by_cases b:j∈t.place.toList
 .right;obtain⟨i,c,e⟩:=Ue.mp b;have a:i<t.place.size:=by simpa using c
  have d:t.place[i]=j:=by simpa using e
  exact⟨i,a,d,by rw[<- d];exact oV h a⟩
 .exact .inl ⟨b,uF h b⟩
def Lv(t:SetTable)(j:Nat):Prop:=j∈t.place.toList
inductive iq(t:SetTable) (ha:Nat->Int) (h:Int) (p:Probe):Option Met->Prop
 |em (n:Nat) (e:¬Lv t (it t.mask n p).j) (b:∀k,k<n->∃i,∃hi:i<t.place.size,t.place[i]=(it t.mask k p).j/\ha i≠h):iq t ha h p (some (.empty (it t.mask n p).j none))
 |ca (n i:Nat) (hi:i<t.place.size) (e:t.place[i]=(it t.mask n p).j) (q:ha i=h) (b:∀k,k<n->∃i,∃hi:i<t.place.size,t.place[i]=(it t.mask k p).j/\ha i≠h) :
  iq t ha h p (some (.candidate (it t.mask n p).j i (it t.mask (n+1) p)))
theorem rL(h:Tb t)(ha:Nat->Int)(x:Int):∀(c:Nat)(p:Probe),Va t.mask p->(∃n,n<c/\¬Lv t (it t.mask n p).j)->iq t ha x p (probe.go t ha x c p)
 |0,p,v,⟨n,w,_⟩=>by lia
 |f+1,p,v,⟨n,w,r⟩=>by
  unfold probe.go;rcases uG h p.j with⟨h1,e⟩|⟨i,g,h1,e⟩
  .rw[e];dsimp only;have:=iq.em (t:=t) (ha:=ha) (h:=x) (p:=p) 0 h1 λk s=>by lia
   rw[v.d];exact this
  .rw[e];dsimp only;by_cases l:ha i=x
   .rw[Re (by simpa using l)];exact iq.ca (t:=t) (ha:=ha) (h:=x) (p:=p) 0 i g h1 l λk s=>by lia
   .rw[Rf (by simpa using l),uD];have y:n≠0:=by rintro rfl;exact r (by show p.j∈t.place.toList;rw[<- h1];simp)
    have u:=rL h ha x f (uC t.mask p) v.uC ⟨n-1,by lia,by
     have:it t.mask (n-1) (uC t.mask p)=it t.mask n p:=by show _=it t.mask n p;rw[show n=(n-1)+1 by lia];rfl
     rw[this];exact r⟩
    have a:∀{nn:Nat},(∀k,k<nn->∃i,∃g:i<t.place.size,t.place[i]=(it t.mask k (uC t.mask p)).j/\ha i≠x)->∀k,k<nn+1->∃i,∃g:i<t.place.size,t.place[i]=(it t.mask k p).j/\ha i≠x:=by
     intro nn b k s;cases k with
     |zero=>exact⟨i,g,h1,l⟩
     |succ k=>exact b k (by lia)
    generalize probe.go t ha x f (uC t.mask p)=B at u;cases u with
    |em m o b=>exact iq.em (t:=t) (ha:=ha) (h:=x) (p:=p) (m+1) o (a b)
    |ca m z q o A b=>exact iq.ca (t:=t) (ha:=ha) (h:=x) (p:=p) (m+1) z q o A (a b)
theorem mG:∀(b c:List Nat),b.Nodup->(∀x∈b,x∈c)->b.length<=c.length
 |[],_,_,_=>Rh _
 |a::b,c,nd,d=>by
  have ha:a∈c:=d a (Q5 ..);have e:=mG b (c.erase a) (Se.mp nd).2 λx f=>by grind
  grind
def mH(h:Tb t)(d:t.place.size<=t.mask):∃j,j<=t.mask/\¬Lv t j:=by refine Sq λb=>?_;have c:∀j,j<=t.mask->j∈t.place.toList:=λj a=>Sq λz=>b ⟨j,a,z⟩;have:=mG (List.range (t.mask+1)) t.place.toList Uo λj a=>c j (by grind);simp at this;lia
def mI(h:Tb t)(a:t.place.size<=t.mask)(ha:Nat->Int)(x:Int)(v:Va t.mask p):iq t ha x p (t.probe ha x p):=by obtain⟨j,b,c⟩:=mH h a;obtain⟨n,h1,h2⟩:=FL h.kI b v;unfold probe;exact rL h ha x _ p v ⟨n,h1,by grind⟩
def Rea(m:Nat)(a:Nat->Prop)(h:Int)(j:Nat):Prop:=∃n,(it m n (st m h)).j=j/\∀k,k<n->a (it m k (st m h)).j
def Rea.mono(r:Rea m lv h j)(s:∀j,lv j->lv' j):Rea m lv' h j:=let ⟨n,e,b⟩:=r;⟨n,e,λk a=>s _ (b k a)⟩
structure md{V:Type} (t:SetTable) (es:Array (Int×V)):Prop where
 tb:Tb t
 len:t.place.size=es.size
 JO:∀q∈t.place.toList.zip es.toList,Rea t.mask (·∈ t.place.toList) q.2.1 q.1
def i9(t:SetTable):Prop:=t.place.size*5<t.mask*3
def insertAt_toList{α:Type}(xs:Array α)(p:Nat)(x:α)(h:p<=xs.size):(insertAt xs p x).toList=xs.toList.take p++x::xs.toList.drop p:=by unfold insertAt;simp[Array.toList_extract,List.extract_eq_drop_take,Su]
def insertAt_size{α:Type}(xs:Array α)(p:Nat)(x:α)(h:p<=xs.size):(insertAt xs p x).size=xs.size+1:=by rw[<- Sn,insertAt_toList xs p x h];simp;lia
def jH(h:Tb t)(j:Nat):(t.put j).1={t with place:=insertAt t.place (below t.place j) j}:=by
 unfold put;dsimp only;rw[h.JP]
 grind [oU]
def lV(t:SetTable)(j:Nat):(t.put j).2=below t.place j:=rfl
def uH{α b:Type}(xs:List α)(a:List b)(p:Nat)(x:α)(y:b)(h:xs.length=a.length):(xs.take p++x::xs.drop p).zip (a.take p++y::a.drop p)=(xs.zip a).take p++(x,y)::(xs.zip a).drop p:=by rw[List.zip_append (by simp[h]),List.zip_cons_cons];simp[List.zip,List.take_zipWith,List.drop_zipWith]
def uI{V:Type}{t:SetTable}{es:Array (Int×V)}(h:md t es){j:Nat}(y:j∉t.place.toList)(p:j<=t.mask){o:Int}{v:V}(r:Rea t.mask (·∈ t.place.toList) o j) :
 md (t.put j).1 (insertAt es (t.put j).2 (o,v))/\(t.put j).1.mask=t.mask/\(t.put j).1.place.size=t.place.size+1:=by
 obtain⟨a,b,c⟩:=cW j h.tb.tX;rw[jH h.tb,lV];have u:below t.place j<=es.size:=by rw[<- h.len];exact a
 have el:=insertAt_toList t.place _ j a;have A:=insertAt_toList es (below t.place j) (o,v) u;have mem:∀k,k∈(insertAt t.place (below t.place j) j).toList↔k=j\/k∈t.place.toList:=by
  intro k;rw[el,Rj,Q_];constructor
  .rintro (z|rfl|z)
   .exact .inr (SM z)
   .exact .inl rfl
   .exact .inr (Ug z)
  .rintro (rfl|z)
   .exact .inr (.inl rfl)
   .rw[<- SU (below t.place j) t.place.toList,Rj]at z;exact z.elim .inl λz=>.inr (.inr z)
 refine⟨⟨⟨h.tb.kI,h.tb.JP,?_,λk d=>?_⟩,?_,λq g=>?_⟩,rfl,insertAt_size _ _ _ a⟩
 .show DH (insertAt t.place (below t.place j) j).toList;rw[el];unfold DH;rw[U0];refine⟨h.tb.tX.sublist (List.take_sublist _ _),?_,?_⟩
  .rw[Uz];refine⟨λk d=>?_,h.tb.tX.sublist (List.drop_sublist _ _)⟩;obtain⟨i,m,e⟩:=Ue.mp d;rw[Um]at m;have f:below t.place j+i<t.place.size:=by simp at m;lia
   have e2:t.place[below t.place j+i]=k:=by rw[<- e];simp
   have:=c _ f (by lia);rw[e2]at this;have:k≠j:=λz=>y (by rw[<- z,<- e2];simp);lia
  .intro k d l hl;obtain⟨i,m,e⟩:=Ue.mp d;rw[Sa]at m;have f:i<t.place.size:=by simp at m;lia
   have e2:t.place[i]=k:=by rw[<- e];simp
   have w:=b i f (by lia);rw[e2]at w;rw[Q_]at hl;rcases hl with rfl|hl
   .exact w
   .obtain⟨x,n,B⟩:=Ue.mp hl;rw[Um]at n;have s:below t.place j+x<t.place.size:=by simp at n;lia
    have e3:t.place[below t.place j+x]=l:=by rw[<- B];simp
    have:=c _ s (by lia);rw[e3]at this;lia
 .rcases (mem k).mp d with rfl|z
  .exact p
  .exact h.tb.le k z
 .show(insertAt t.place (below t.place j) j).size=_;rw[insertAt_size _ _ _ a,insertAt_size _ _ _ u,h.len]
 .have g:q∈(insertAt t.place (below t.place j) j).toList.zip (insertAt es (below t.place j) (o,v)).toList:=g;rw[el,A,uH _ _ _ _ _ (by simpa using h.len)]at g;have sub:∀k,k∈t.place.toList->k∈(insertAt t.place (below t.place j) j).toList:=λk d=>(mem k).mpr (.inr d);rw[Rj,Q_]at g;rcases g with z|rfl|z
  .exact(h.JO q (SM z)).mono sub
  .exact r.mono sub
  .exact(h.JO q (Ug z)).mono sub
def ow(owner:Array (Option Nat))(j:Nat):Prop:=∃k,owner[j]?=some (some k)
theorem pV(i q:Nat):∀k,k<=runEnd m i-i->it m k (rs m (i,q))={j:=i+k,more:=runEnd m i-i-k,i:=i,perturb:=q,dummy:=none}
 |0,_=>rfl
 |k+1,h=>by
  rw[DG,pV i q k (by lia)]
  grind [uC]
theorem oW(t:owner.size=m+1):∀(a i q:Nat),i<=m->q<2^64->(∃L,L<a/\¬ow owner (lp m L (i,q)).1)->
 ∃j,layClean.free m owner a i q=some j/\j<=m/\¬ow owner j/\∃n,(it m n (rs m (i,q))).j=j/\∀k,k<n->ow owner (it m k (rs m (i,q))).j
 |0,i,q,_,_,⟨L,h,_⟩=>by lia
 |f+1,i,q,g,s,⟨L,z,l⟩=>by
  obtain⟨A,B⟩:=jf m i g;have u:runEnd m i+1-i=(runEnd m i-i)+1:=by
   have:i<=runEnd m i:=by unfold runEnd;split<;>lia
   lia
  have o:∀k,k<=runEnd m i-i->((owner.getD (i+k) (some 0)).isNone=true↔¬ow owner (i+k)):=by
   intro k d;have hb:i+k<owner.size:=by lia
   have e:owner[i+k]?=some owner[i+k]:=by simp[hb]
   have e2:owner.getD (i+k) (some 0)=owner[i+k]:=by simp[Array.getD,hb]
   unfold ow;rw[e2,e];cases owner[i+k]<;>simp
  unfold layClean.free;cases p:(List.range (runEnd m i+1-i)).find? λk=>(owner.getD (i+k) (some 0)).isNone with
  |some k=>
   dsimp only;rw[List.find?_range_eq_some]at p;obtain⟨h1,h2,h3⟩:=p;have h2:=RG.mp h2;have d:k<=runEnd m i-i:=by lia
   refine⟨i+k,rfl,by lia,(o k d).mp h1,k,by rw[pV i q k d],λC v=>?_⟩
   grind [pV]
  |none=>
   dsimp only;rw[List.find?_range_eq_none]at p;have b:∀k,k<=runEnd m i-i->ow owner (i+k):=by grind
   have w:L≠0:=by rintro rfl;exact l (b 0 (Rh _))
   have x:=oW t f (leap m i q).1 (leap m i q).2 (pT m i q) (by rw[uE];have:=Nat.div_le_self q 32;lia) ⟨L-1,by lia,by
    have:lp m L (i,q)=lp m (L-1) (leap m i q):=by rw[show L=(L-1)+1 by lia];rfl
    rw[this]at l;exact l⟩
   obtain⟨j,e,y,r,n,en,hb⟩:=x;refine⟨j,e,y,r,runEnd m i-i+1+n,?_,λk d=>?_⟩
   .rw[ft,lU (runEnd m i-i) (rs m (i,q)) rfl (Va.rs g s)];exact en
   .by_cases c:k<=runEnd m i-i
    .rw[pV i q k c];exact b k c
    .have:it m k (rs m (i,q))=it m (k-(runEnd m i-i+1)) (rs m (leap m i q)):=by rw[show k=(runEnd m i-i+1)+(k-(runEnd m i-i+1)) by lia,ft,lU (runEnd m i-i) (rs m (i,q)) rfl (Va.rs g s)];congr 1;lia
     rw[this];exact hb _ (by lia)
structure Own(m:Nat) (hs:List Int) (owner:Array (Option Nat)):Prop where
 size:owner.size=m+1
 all:∀k:Nat,k<hs.length->∃j:Nat,owner[j]?=some (some k)
 lt:∀j k:Nat,owner[j]?=some (some k)->k<hs.length
 JO:∀(j k:Nat)(h:Int),owner[j]?=some (some k)->hs[k]?=some h->Rea m (ow owner) h j
 inj:∀j j' k:Nat,owner[j]?=some (some k)->owner[j']?=some (some k)->j=j'
def Own.M6(o:Own m hs owner)(q:hs.length<=m):∃j,j<=m/\¬ow owner j:=by
 refine Sq λh=>?_;have i:∀j,j<=m->ow owner j:=λj c=>Sq λz=>h ⟨j,c,z⟩
 let g:Nat->Nat:=λj=>((owner[j]?).getD none).getD 0
 have d:∀j,j<=m->owner[j]?=some (some (g j)):=λj c=>by obtain⟨k,l⟩:=i j c;show owner[j]?=some (some (((owner[j]?).getD none).getD 0));rw[l];rfl
 have nd:((List.range (m+1)).map g).Nodup:=by unfold List.Nodup;rw[Sw];have:=Uo (n:=m+1);refine SV (λ{a b} ha hb f e=>f ?_) this;have ha:=RG.mp ha;have hb:=RG.mp hb;exact o.inj a b (g a) (d a (by lia)) (by rw[e];exact d b (by lia))
 have:=mG _ (List.range hs.length) nd λx p=>by obtain⟨j,c,rfl⟩:=Q3.mp p;have c:=RG.mp c;exact RG.mpr (o.lt j _ (d j (by lia)))
 simp at this;lia
def zS(hm:t_ m)(o:Own m hs owner)(v:hs.length<=m)(h:Int) :
 ∃j,layClean.free m owner (turns m) (bits h%(m+1)) (bits h)=some j/\Own m (hs++[h]) (owner.setIfInBounds j (some hs.length)):=by
 obtain⟨w,l,p⟩:=o.M6 v;have f:bits h%(m+1)<=m:=Vi (Vv _ (Nat.succ_pos m));obtain⟨L,x,y,el⟩:=rK hm l (bits h%(m+1),bits h) f (pS h);obtain⟨j,e,A,q,n,en,hb⟩:=oW o.size (turns m) _ _ f (pS h) ⟨L,by unfold turns;lia,by rw[el];exact p⟩;refine⟨j,e,?_⟩;have r:j<owner.size:=by rw[o.size];lia
 have get:∀i,(owner.setIfInBounds j (some hs.length))[i]?=if i=j then some (some hs.length)else owner[i]?:=by
  intro i;rw[Array.getElem?_setIfInBounds];by_cases a:j=i
  .subst a;rw[Re rfl,Re r,Re rfl]
  .rw[Rf a,Rf (λz=>a z.symm)]
 have sub:∀i,ow owner i->ow (owner.setIfInBounds j (some hs.length)) i:=by
  rintro i ⟨k,b⟩;by_cases a:i=j
  .exact⟨_,by rw[get,Re a]⟩
  .exact⟨k,by rw[get,Rf a];exact b⟩
 have c:∀i k,(owner.setIfInBounds j (some hs.length))[i]?=some (some k)->(i=j/\k=hs.length)\/(i≠j/\owner[i]?=some (some k)):=by
  intro i k b;rw[get]at b;by_cases a:i=j
  .rw[Re a]at b;exact .inl ⟨a,by simpa using b.symm⟩
  .rw[Rf a]at b;exact .inr ⟨a,b⟩
 refine⟨by rw[Array.size_setIfInBounds,o.size],λk b=>?_,λi k b=>?_,λi k h' b g=>?_,λi s k h1 h2=>?_⟩
 .rw[Q8,RN]at b;by_cases d:k=hs.length
  .exact⟨j,by rw[get,Re rfl,d]⟩
  .obtain⟨i,f⟩:=o.all k (by lia);refine⟨i,?_⟩;rw[get,Rf]
   .exact f
   .rintro rfl;exact q ⟨k,f⟩
 .rw[Q8,RN];rcases c i k b with⟨_,rfl⟩|⟨_,z⟩
  .lia
  .have:=o.lt i k z;lia
 .rcases c i k b with⟨rfl,rfl⟩|⟨a,z⟩
  .rw[R9 (QY _),Vs]at g;cases g;exact⟨n,en,λk b=>sub _ (hb k b)⟩
  .have d:=o.lt i k z;rw[RT d]at g;exact(o.JO i k h' z g).mono sub
 .rcases c i k h1 with⟨rfl,rfl⟩|⟨a,z⟩<;>rcases c s _ h2 with⟨rfl,B⟩|⟨t,u⟩
  .rfl
  .have:=o.lt _ _ u;lia
  .have:=o.lt _ _ z;lia
  .exact o.inj i s k z u
theorem zT(hm:t_ m):∀(b pre:List Int)(owner:Array (Option Nat)),Own m pre owner->pre.length+b.length<=m->
 ∃a,b.foldl (λc h=>do
  let (owner,k) <- c
  let j <- layClean.free m owner (turns m) (bits h%(m+1)) (bits h)
  pure (owner.setIfInBounds j (some k),k+1)) (some (owner,pre.length))=some (a,pre.length+b.length)/\Own m (pre++b) a
 |[],pre,owner,o,_=>⟨owner,rfl,by grind⟩
 |h::b,pre,owner,o,d=>by
  simp only[Rq]at d;obtain⟨j,e,f⟩:=zS hm o (by lia) h;obtain⟨a,e2,g⟩:=zT hm b (pre++[h]) _ f (by simp;lia)
  grind
def GR(hm:t_ m)(a:Array Int)(d:a.size<=m):∃owner,layClean m a=some owner/\Own m a.toList owner:=by
 have b:Own m [] (Array.replicate (m+1) none):=by
  have no:∀j k:Nat,(Array.replicate (m+1) (none:Option Nat))[j]?=some (some k)->False:=by grind
  exact⟨by simp,λk c=>by simp at c,λj k h=>(no j k h).elim,λj k _ h=>(no j k h).elim,λj _ k h=>(no j k h).elim⟩
 obtain⟨owner,e,o⟩:=zT hm a.toList [] _ b (by grind);refine⟨owner,?_,by grind⟩;unfold layClean
 grind
theorem zU{α:Type}(es:Array α):∀(l:List Nat),(∀k∈l,k<es.size)->(l.filterMap (es[·]?)).length=l.length/\∀i:Nat,(l.filterMap (es[·]?))[i]?=(l[i]?).bind (es[·]?)
 |[],_=>⟨rfl,λi=>by simp⟩
 |k::l,h=>by
  have c:k<es.size:=h k (Q5 ..);have e:es[k]?=some es[k]:=by simp[c]
  obtain⟨a,b⟩:=zU es l λk c=>h k (Q7 _ c);rw[List.filterMap_cons_some e];refine⟨by simp[a],λi=>?_⟩;cases i with
  |zero=>simp[e]
  |succ i=>simpa using b i
theorem mJ(o:Nat->Option Nat):∀l:List Nat,(l.filterMap λj=>(o j).map (j,·)).map Prod.fst=l.filter λj=>(o j).isSome
 |[]=>rfl
 |j::l=>by
  rw[Up,SB];cases e:o j with
  |none=>simpa using mJ o l
  |some k=>simpa using mJ o l
def zV(owner:Array (Option Nat))(m:Nat)(b:owner.size=m+1)(j k:Nat):(j,k)∈((List.range (m+1)).filterMap λj=>(owner.getD j none).map (j,·))↔owner[j]?=some (some k):=by
 rw[Uv];constructor
 .rintro⟨a,h1,h2⟩;have h1:=RG.mp h1;have hb:a<owner.size:=by lia
  have e:owner.getD a none=owner[a]:=by simp[Array.getD,hb]
  rw[e]at h2;obtain⟨c,e1,e2⟩:=Ss.mp h2;cases e2;rw[show owner[j]?=some owner[j] by simp[hb],e1]
 .intro h;obtain⟨hb,e⟩:=SZ.mp h;refine⟨j,RG.mpr (by lia),?_⟩;have e2:owner.getD j none=owner[j]:=by simp[Array.getD,hb]
  rw[e2,e];rfl
structure Laid{V:Type} (m:Nat) (es es':Array (Int×V)) (t':SetTable):Prop where
 tV:md t' es'
 mask:t'.mask=m
 size:es'.size=es.size
 mem:∀x,x∈es'.toList↔x∈es.toList
 pw:∀R:Int×V->Int×V->Prop,(∀x y,R x y->R y x)->es.toList.Pairwise R->es'.toList.Pairwise R
def rM{V:Type}{m:Nat}(hm:t_ m)(es:Array (Int×V))(G:es.size<=m)(finger moves:Nat)(led plain:Bool) :
 ∃t' c,laid m finger moves led plain (es.map (·.1))=some (t',c)/\Laid m es (c.filterMap (es[·]?)) t'/\t'.led=led/\t'.plain=plain/\c.toList.Perm (List.range es.size):=by
 obtain⟨owner,H,o⟩:=GR hm (es.map (·.1)) (by simpa using G);have len:(es.map (·.1)).toList.length=es.size:=by simp
 let live:=(List.range (m+1)).filterMap λj=>(owner.getD j none).map (j,·)
 have f:∀j k,(j,k)∈live↔owner[j]?=some (some k):=zV owner m o.size;have tX:DH (live.map Prod.fst):=by show DH (((List.range (m+1)).filterMap λj=>(owner.getD j none).map (j,·)).map Prod.fst);rw[mJ];exact List.pairwise_lt_range.sublist (List.filter_sublist)
 have g:(live.map Prod.snd).Nodup:=by unfold List.Nodup;unfold DH at tX;rw[Sw]at tX ⊢;refine SV (λ{a b} ha hb n e=>?_) tX;have h1:=(f a.1 a.2).mp ha;have h2:=(f b.1 b.2).mp hb;rw[<- e]at h2;have:=o.inj _ _ _ h1 h2;lia
 have lt:∀k∈live.map Prod.snd,k<es.size:=by
  intro k d;obtain⟨p,l,rfl⟩:=Q3.mp d;have:=o.lt p.1 p.2 ((f p.1 p.2).mp l)
  rwa [len]at this
 have all:∀k,k<es.size->k∈live.map Prod.snd:=by intro k d;obtain⟨j,r⟩:=o.all k (by rw[len];exact d);exact Q3.mpr ⟨(j,k),(f j k).mpr r,rfl⟩
 have B:live.length=es.size:=by have a:=mG _ (List.range es.size) g λk d=>RG.mpr (lt k d);have b:=mG (List.range es.size) (live.map Prod.snd) Uo λk d=>all k (RG.mp d);simp at a b;lia
 obtain⟨C,w⟩:=zU es (live.map Prod.snd) lt;refine⟨{mask:=m,place:=(live.map (·.1)).toArray,dummies:=#[],finger,led,moves,plain},(live.map (·.2)).toArray,?_,?_,rfl,rfl,(List.perm_ext_iff_of_nodup g Uo).mpr λk=>⟨λh=>RG.mpr (lt k h),λh=>all k (RG.mp h)⟩⟩
 .unfold laid;rw[H];rfl
 .have el:((live.map (·.2)).toArray.filterMap (es[·]?)).toList=(live.map Prod.snd).filterMap (es[·]?):=by simp
  have s:((live.map (·.2)).toArray.filterMap (es[·]?)).size=es.size:=by rw[<- Sn,el,C,Q0,B]
  refine⟨⟨⟨hm,rfl,by simpa using tX,λj r=>?_⟩,?_,λq v=>?_⟩,rfl,s,λx=>?_,λR I pw=>?_⟩
  .have r:j∈live.map Prod.fst:=by simpa using r
   obtain⟨p,l,rfl⟩:=Q3.mp r;obtain⟨hb,_⟩:=SZ.mp ((f p.1 p.2).mp l);show p.1<=m;have:=o.size;lia
  .rw[s];simpa using B
  .have v:q∈(live.map Prod.fst).zip ((live.map Prod.snd).filterMap (es[·]?)):=by rw[el]at v;simpa using v
   obtain⟨i,D⟩:=Rl.mp v;rw[Ui,w]at D;obtain⟨h1,h2⟩:=D;rw[Rg]at h1 h2;obtain⟨p,l,e1⟩:=Ss.mp h1;rw[l]at h2;have h2:es[p.2]?=some q.2:=h2;have J:=(f p.1 p.2).mp (Rl.mpr ⟨i,l⟩);have K:(es.map (·.1)).toList[p.2]?=some q.2.1:=by rw[RH,Array.getElem?_map,h2];rfl
   rw[<- e1];refine(o.JO p.1 p.2 q.2.1 J K).mono λj ⟨k,d⟩=>?_;show j∈(live.map (·.1)).toArray.toList;simpa using⟨k,(f j k).mpr d⟩
  .rw[el];constructor
   .intro y;obtain⟨k,_,h2⟩:=Uv.mp y;exact Rl.mpr ⟨k,by rw[RH];exact h2⟩
   .intro y;obtain⟨k,d⟩:=Rl.mp y;have hb:k<es.size:=by have:=(Q2.mp d).1;simpa using this
    exact Uv.mpr ⟨k,all k hb,by rw[RH]at d;exact d⟩
  .rw[el];rw[Rv];intro a b ha hb n;have t:=w a;have u:=w b;rw[Q1 ha]at t;rw[Q1 hb]at u;rw[C]at ha hb;rw[Q1 ha]at t;rw[Q1 hb]at u;have A:(live.map Prod.snd)[a]≠(live.map Prod.snd)[b]:=Rv.mp g a b ha hb n;have t:es[(live.map Prod.snd)[a]]?=some _:=t.symm;have u:es[(live.map Prod.snd)[b]]?=some _:=u.symm;obtain⟨E,va⟩:=SZ.mp t;obtain⟨F,L⟩:=SZ.mp u;have P:=Rv.mp pw;rw[<- va,<- L];rcases UA A with z|z
   .simpa using P _ _ (by simpa using E) (by simpa using F) z
   .refine I _ _ ?_;simpa using P _ _ (by simpa using F) (by simpa using E) z
def DI{V:Type}{m:Nat}(hm:t_ m)(es:Array (Int×V))(f:es.size<=m)(finger moves:Nat)(led plain:Bool) :
 ∃t' e,laid m finger moves led plain (es.map (·.1))=some (t',e)/\Laid m es (e.filterMap (es[·]?)) t'/\t'.led=led/\t'.plain=plain:=by
 obtain⟨t',e,a,b,c,d,_⟩:=rM hm es f finger moves led plain;exact⟨t',e,a,b,c,d⟩
end ST
namespace ST
open PySem PySem.W PyProof.Rows
structure Lt(N:Nat) (lt:Nat->Nat->Bool):Prop where
 QL:∀i,lt i i=false
 tr:∀i j k,lt i j=true->lt j k=true->lt i k=true
 QN:∀i j,i<N->j<N->i≠j->lt i j=true\/lt j i=true
noncomputable abbrev PN:=Nat->Nat->(Bool->Vw->Prop)->Vw->Prop
def DJ(N:Nat)(lt:Nat->Nat->Bool)(a:PN)(s:Vw):Prop:=∀i j C,i<N->j<N->C (lt i j) s->a i j C s
def Pm(N:Nat)(p:Array Nat):Prop:=p.toList.Perm (List.range N)
noncomputable def cD(p:Array Nat)(i:Nat):Nat:=p.getD i 0
section
theorem Pm.size(h:Pm N p):p.size=N:=by have:=h.length_eq;simpa using this
def Pm.perm(h:Pm N p)(q:p'.Perm p):Pm N p':=(Array.perm_iff_toList_perm.mp q).trans h
def GS(a:i<p.size):p[i]?=some (cD p i):=by unfold cD;simp[Array.getD,a]
theorem zW(h:p'[i]?=p[k]?):cD p' i=cD p k:=by
 simp_all [cD,cD]
def Pm.bd(h:Pm N p)(b:i<N):cD p i<N:=by
 have a:i<p.size:=by rw[h.size];exact b
 have:cD p i∈p.toList:=Rl.mpr ⟨i,by rw[RH];exact GS a⟩;exact RG.mp (h.mem_iff.mp this)
def Pm.ne(h:Pm N p)(f:i<N)(g:j<N)(e:i≠j):cD p i≠cD p j:=by
 have nd:p.toList.Nodup:=h.nodup_iff.mpr Uo;have a:i<p.size:=by rw[h.size];exact f
 have b:j<p.size:=by rw[h.size];exact g
 have c:p.toList[i]'(by simpa using a)=cD p i:=by simp[cD,Array.getD,a]
 have d:p.toList[j]'(by simpa using b)=cD p j:=by simp[cD,Array.getD,b]
 intro z;rcases UA e with q|q
 .exact Rv.mp nd i j (by simpa using a) (by simpa using b) q (by rw[c,d];exact z)
 .exact Rv.mp nd j i (by simpa using b) (by simpa using a) q (by rw[c,d];exact z.symm)
def So(lt:Nat->Nat->Bool)(p:Array Nat)(k:Nat):Prop:=∀a b,a<b->b<k->lt (cD p a) (cD p b)=true
def De(lt:Nat->Nat->Bool)(p:Array Nat)(k:Nat):Prop:=∀a b,a<b->b<k->lt (cD p b) (cD p a)=true
def Lt.vF(o:Lt N lt)(a:i<N)(b:j<N)(e:i≠j)(h:lt i j=false):lt j i=true:=by
 grind [Lt]
def So.snoc(o:Lt N lt)(h:So lt p k)(a:1<=k)(l:lt (cD p (k-1)) (cD p k)=true):So lt p (k+1):=by
 grind [Lt,So]
def De.snoc(o:Lt N lt)(h:De lt p k)(a:1<=k)(l:lt (cD p k) (cD p (k-1))=true):De lt p (k+1):=by
 grind [Lt,De]
theorem uJ(o:Lt N lt)(an:DJ N lt cmp s)(pm:Pm N p):∀(f n:Nat){Q:Nat->Vw->Prop},1<=n->n+f=N->So lt p n->
 (∀m,n<=m->m<=N->So lt p m->(m<N->lt (cD p m) (cD p (m-1))=true)->Q m s)->(kas_asc p f n).kasWp cmp Q s
 |0,n,Q,h1,h2,h3,k=>k n (QY _) (by lia) h3 λz=>by lia
 |f+1,n,Q,h1,h2,h3,k=>by
  refine an _ _ _ (pm.bd (by lia)) (pm.bd (by lia)) ?_;show KasT.kasWp cmp (if lt (cD p n) (cD p (n-1))=true then .ret n else kas_asc p f (n+1)) Q s;by_cases c:lt (cD p n) (cD p (n-1))=true
  .rw[Re c];exact k n (QY _) (by lia) h3 λ_=>c
  .rw[Rf c];have c:lt (cD p n) (cD p (n-1))=false:=by grind
   exact uJ o an pm f (n+1) (by lia) (by lia) (h3.snoc o h1 (o.vF (pm.bd (by lia)) (pm.bd (by lia)) (pm.ne (by lia) (by lia) (by lia)) c)) λm a b c d=>k m (by lia) b c d
theorem v7(o:Lt N lt)(an:DJ N lt cmp s)(pm:Pm N p):∀(f n:Nat){Q:Array Nat×Nat×Nat->Vw->Prop},1<=n->n+f=N->De lt p n->
 (∀m,n<=m->m<=N->De lt p m->Q (p,m,0) s)->(kas_desc f p n 0).kasWp cmp Q s
 |0,n,Q,h1,h2,h3,k=>k n (QY _) (by lia) h3
 |f+1,n,Q,h1,h2,h3,k=>by
  refine an _ _ _ (pm.bd (by lia)) (pm.bd (by lia)) ?_;show KasT.kasWp cmp (if lt (cD p n) (cD p (n-1))=true then(if 0>0 then kas_desc f (kas_rev p (n-(0+1)) n) (n+1) 0 else kas_desc f p (n+1) 0)
   else .ask (cD p (n-1)) (cD p n) λd=>if d=true then .ret (p,n,0)else kas_desc f p (n+1) (0+1)) Q s
  by_cases c:lt (cD p n) (cD p (n-1))=true
  .rw[Re c,Rf (by lia)];exact v7 o an pm f (n+1) (by lia) (by lia) (h3.snoc o h1 c) λm a b c=>k m (by lia) b c
  .rw[Rf c];have c:lt (cD p n) (cD p (n-1))=false:=by grind
   refine an _ _ _ (pm.bd (by lia)) (pm.bd (by lia)) ?_;rw[o.vF (pm.bd (by lia)) (pm.bd (by lia)) (pm.ne (by lia) (by lia) (by lia)) c];show KasT.kasWp cmp (if true=true then _ else _) Q s;rw[Re rfl];exact k n (QY _) (by lia) h3
def zX(n:Nat)(a:n<=p.size)(k:Nat):cD (kas_rev p 0 n) k=if k<n then cD p (n-1-k)else cD p k:=by
 have e:=getElem?_mirror_all (xs:=p) (i:=0) a k;unfold kas_rev
 grind [zW]
def zY(o:Lt N lt)(an:DJ N lt cmp s)(pm:Pm N p)(h1:1<=n)(f:n<=N)(hd:De lt p n)
 (k:∀m e,1<=m->m<=N->Pm N e->So lt e m->Q (m,e) s):(kas_tail3 n N p).kasWp cmp Q s:=by
 unfold kas_tail3;rw[UB];have d:Pm N (kas_rev p 0 n):=pm.perm (mirror_perm _ _ _ _);refine uJ o an d (N-n) n h1 (by lia) ?_ λm a b c _=>k m _ (by lia) b d c;intro a b g hb;rw[zX n (by rw[pm.size];exact f),zX n (by rw[pm.size];exact f),Re (by lia),Re hb];exact hd _ _ (by lia) (by lia)
def zZ(o:Lt N lt)(an:DJ N lt cmp s)(pm:Pm N p)(h2:2<=N)
 (k:∀m f,1<=m->m<=N->Pm N f->So lt f m->Q (m,f) s):(kas_count N p).kasWp cmp Q s:=by
 unfold kas_count;rw[UB];refine uJ o an pm (N-1) 1 (QY _) (by lia) (λa b g hb=>by lia) λm a b c d=>?_;by_cases e:m=N
 .rw[Re (by simpa using e)];exact k m p a b pm c
 .rw[Rf (by simpa using e)];by_cases hm:m>1
  .rw[Re hm];refine an _ _ _ (pm.bd (by lia)) (pm.bd (by lia)) ?_;have:lt (cD p 0) (cD p (m-1))=true:=c 0 (m-1) (by lia) (by lia);show KasT.kasWp cmp (if lt (cD p 0) (cD p (m-1))=true then _ else _) Q s;rw[Re this];exact k m p a b pm c
  .rw[Rf hm];have h:m=1:=by lia
   subst h;unfold kas_descPart;rw[UB];have l:=d (by lia);refine v7 o an pm (N-(1+1)) (1+1) (by lia) (by lia) (λa b g hb=>?_) λi q j n=>?_
   .have:a=0:=by lia
    have:b=1:=by lia
    subst_vars
    exact l
   .show KasT.kasWp cmp (if 0>0 then _ else kas_tail3 i N p) Q s;rw[Rf (by lia)];exact zY o an pm (by lia) j n k
theorem mK(o:Lt N lt)(an:DJ N lt cmp s)(pm:Pm N p)(b:i<N)(so:So lt p i):∀(f l r:Nat){Q:Nat->Vw->Prop},l<=r->r<=i->r-l<=f->
 (∀a,a<l->lt (cD p a) (cD p i)=true)->(∀a,r<=a->a<i->lt (cD p i) (cD p a)=true)->
 (∀m,m<=i->(∀a,a<m->lt (cD p a) (cD p i)=true)->(∀a,m<=a->a<i->lt (cD p i) (cD p a)=true)->Q m s)->(kas_place p i f l r).kasWp cmp Q s
 |0,l,r,Q,h1,h2,h3,d,g,k=>k l (by lia) d λa x y=>g a (by lia) y
 |f+1,l,r,Q,h1,h2,h3,d,g,k=>by
  unfold kas_place;by_cases c:l>=r
  .rw[Re c];exact k l (by lia) d λa x y=>g a (by lia) y
  .rw[Rf c];refine an _ _ _ (pm.bd b) (pm.bd (by lia)) ?_;show KasT.kasWp cmp (if lt (cD p i) (cD p ((l+r)/2))=true then _ else _) Q s;by_cases q:lt (cD p i) (cD p ((l+r)/2))=true
   .rw[Re q];refine mK o an pm b so f l ((l+r)/2) (by lia) (by lia) (by lia) d (λa x y=>?_) k;by_cases e:a=(l+r)/2
    .rw[e];exact q
    .exact o.tr _ _ _ q (so _ _ (by lia) y)
   .rw[Rf q];have q:lt (cD p i) (cD p ((l+r)/2))=false:=by grind
    have q:=o.vF (pm.bd b) (pm.bd (by lia)) (pm.ne b (by lia) (by lia)) q;refine mK o an pm b so f _ r (by lia) h2 (by lia) (λa x=>?_) g k;by_cases e:a=(l+r)/2
    .rw[e];exact q
    .exact o.tr _ _ _ (so _ _ (by lia) (by lia)) q
def z4(a:i<p.size)(b:l<=i)(k:Nat):cD (bubble p i (i-l)) k=if k=l then cD p i else if l<k/\k<=i then cD p (k-1)else cD p k:=by
 have e:=getElem?_bubble a (i-l) (by lia) k;rw[show i-(i-l)=l by lia]at e;by_cases h1:k=l
 .rw[Re h1]at e ⊢;exact zW e
 .rw[Rf h1]at e ⊢
  grind [zW]
theorem z5(o:Lt N lt)(an:DJ N lt cmp s):∀(f i:Nat)(p:Array Nat){Q:Array Nat->Vw->Prop},Pm N p->i+f=N->So lt p i->
 (∀c,Pm N c->So lt c N->Q c s)->(kas_bin f p i).kasWp cmp Q s
 |0,i,p,Q,pm,h,so,k=>k p pm (by grind)
 |f+1,i,p,Q,pm,h,so,k=>by
  unfold kas_bin;rw[UB];refine mK o an pm (by lia) so i 0 i (by lia) (QY _) (by lia) (λa x=>by lia) (λa x y=>by lia) λm hm lo e=>?_;refine z5 o an f (i+1) _ (pm.perm (bubble_perm _ _ _)) (by lia) (λa b g hb=>?_) k;have d:i<p.size:=by rw[pm.size];lia
  rw[z4 d hm,z4 d hm]
  repeat' split
  all_goals first|lia|(exact e _ (by lia) (by lia))|(exact lo _ (by lia))|(exact so _ _ (by lia) (by lia))
def DM(o:Lt N lt)(an:DJ N lt cmp s)(h2:2<=N)(k:∀p,Pm N p->So lt p N->Q p s):(kas_sort N).kasWp cmp Q s:=by
 unfold kas_sort;rw[UB];have pm:Pm N (List.toArray (List.range N)):=by unfold Pm;simp
 refine zZ o an pm h2 λm f a b c d=>?_;show KasT.kasWp cmp (if m<N then kas_bin (N-max m 1) f (max m 1)else .ret f) Q s;by_cases e:m<N
 .rw[Re e];have:max m 1=m:=by lia
  rw[this];exact z5 o an (N-m) m f c (by lia) d k
 .rw[Rf e];have:m=N:=by lia
  subst this;exact k f c d
end
end ST
namespace L2
open PySem PySem.Spec PySem.Calls PyProof.Rows ST
noncomputable abbrev iK(ns:List Int):List bW:=ns.map Sum.inl
section
def lW(h:(aO prog w).is (.inl i) v=true):∃t,v=.int i t:=by
 rcases bu (show iY (.inl i) v=true from h)with⟨j,t,e,rfl⟩|⟨x,t,e,_⟩
 .cases e;exact⟨t,rfl⟩
 .cases e
theorem items_int:∀{ns:List Int}{vs:List Vz},ItemsAre (aO prog w) (iK ns) vs->∀v∈vs,∃i t,v=.int i t
 |[],_,h,v,hv=>by cases h;simp at hv
 |n::ns,_,h,v,hv=>by
  cases h with
  |cons h1 h2=>
   rcases Q_.mp hv with rfl|hv
   .obtain⟨t,rfl⟩:=lW h1;exact⟨n,t,rfl⟩
   .exact items_int h2 v hv
def GT(f:(tK prog w).is s.heap (iK ns) b)(h:Q true s):wpAny (model prog w) A (hashByValue 8 (.ref b)) Q E s:=by
 have j:=IsTupleKey.typeIs f;obtain⟨o,a,n,k,_,hd,l⟩:=f;unfold hashByValue;refine KE (wpAny_specialOf j PySem.F.slot_tuple_hash.lookup ?_);dsimp only;refine KE (wpAny_seqItems k hd ?_);refine KE ?_;show wpAny _ _ (forIn a _ _) _ _ s;rw[<- Array.forIn_toList];refine wpAny_forIn_list _ (λrest r c=>r.1=none/\c=s/\∀v∈rest,∃i t,v=Value.int i t) _ ?_ ?_ _ _ ⟨rfl,rfl,items_int l⟩
 .rintro v rest r c ⟨d,rfl,g⟩;obtain⟨i,t,rfl⟩:=g v Q5;refine KE (QX ?_);simp only[Ti,Ro,Sx];exact QX ⟨rfl,rfl,λu e=>g u (Q7 _ e)⟩
 .rintro⟨m,p⟩ c ⟨d,rfl,_⟩;simp only at d;subst d;exact QX h
def rN(f:(tK prog w).is s.heap (iK ns) b)(h:Q false s):wpAny (model prog w) A (ofAClassStatement 8 (.ref b)) Q E s:=by
 have j:=IsTupleKey.typeIs f;obtain⟨o,a,n,k,_,hd,l⟩:=f;unfold ofAClassStatement;refine KE (T5 j ?_);dsimp only;rw[Re (by decide)];refine KE (QX ?_);simp only[Ti,Ro,Sx];refine KE (wpAny_seqItems k hd ?_);refine KE ?_;show wpAny _ _ (forIn a _ _) _ _ s;rw[<- Array.forIn_toList];refine wpAny_forIn_list _ (λrest r c=>r.1=none/\c=s/\∀v∈rest,∃i t,v=Value.int i t) _ ?_ ?_ _ _ ⟨rfl,rfl,items_int l⟩
 .rintro v rest r c ⟨d,rfl,g⟩;obtain⟨i,t,rfl⟩:=g v Q5;refine KE (QX ?_);simp only[Ro,Sx];exact QX ⟨rfl,rfl,λu e=>g u (Q7 _ e)⟩
 .rintro⟨m,p⟩ c ⟨d,rfl,_⟩;simp only at d;subst d;exact QX h
def GU(g:(tK prog w).is s.heap (iK ns) b)(k:∀y∈ys,∃ms c,y=.ref c/\(tK prog w).is s.heap (iK ms) c)(h:Q false s):wpAny (model prog w) A (searchCouldBeSeen (.ref b) ys) Q E s:=by
 unfold searchCouldBeSeen;refine KE ?_;refine wpAny_forIn_list _ (λrest r d=>r.1=none/\d=s/\∀y∈rest,∃ms c,y=.ref c/\(tK prog w).is s.heap (iK ms) c) _ ?_ ?_ _ _ ⟨rfl,rfl,k⟩
 .rintro v rest r d ⟨e,rfl,i⟩;obtain⟨ms,c,rfl,j⟩:=i v Q5;have a:∀u∈rest,∃ms c,u=Value.ref c/\(tK prog w).is d.heap (iK ms) c:=λu f=>i u (Q7 _ f);dsimp only;split
  .exact QX ⟨rfl,rfl,a⟩
  .refine KE ((tK prog w).quiet g ?_);simp only[Ti,Ro,Sx];refine KE ((tK prog w).quiet j ?_);simp only[Ti,Ro,Sx];refine KE (rN g ?_);simp only[Ro,Sx];refine KE (rN j ?_);simp only[Ro,Sx];exact QX ⟨rfl,rfl,a⟩
 .rintro⟨l,m⟩ d ⟨e,rfl,_⟩;simp only at e;subst e;exact QX h
end
section
def Pd(prog:Vy)(w:World)(h:Heap)(es:Array (Int×Vz)):Prop:=∀e∈es.toList,∃ms c,e=((tK prog w).hash (iK ms),Value.ref c)/\(tK prog w).is h (iK ms) c
def DN(h:t_ m):(m%2==0)=false:=by rcases h with rfl|rfl|rfl|rfl<;>rfl
theorem md.fits(T:md t es)(a:t.place.size<=t.mask):t.fits es.size=true:=by unfold SetTable.fits SetTable.fill;rw[T.tb.JP];simp[T.len]at a ⊢;exact a
def jg{α:Type}{es:Array α}{i:Nat}{e:α}(h:es[i]?=some e):e∈es.toList:=Rl.mpr ⟨i,by rw[RH];exact h⟩
theorem oX{ep:Nat}{t:SetTable}{ns:List Int}{Q:SetFound->Vw->Prop}(O:s.heap.get? a=some o)(hd:o.data=.set es ep t)(T:md t es)(K:t.place.size<=t.mask)
 (Z:A.units<cLine) (P:(tK prog w).is s.heap (iK ns) b) (el:Pd prog w s.heap es)
 (h1:(∃e∈es.toList,∃c,e.2=.ref c/\(tK prog w).is s.heap (iK ns) c)->Q (.there none) s)
 (h2:(∀e∈es.toList,∀c,e.2=.ref c->¬(tK prog w).is s.heap (iK ns) c)->∀j,j∉t.place.toList->j<=t.mask->Rea t.mask (·∈ t.place.toList) ((tK prog w).hash (iK ns)) j->Q (.free j false) s) :
 ∀(fuel n:Nat)(d:Option SetTable.Probe),d.getD (t.probeStart ((tK prog w).hash (iK ns)))=it t.mask n (st t.mask ((tK prog w).hash (iK ns)))->
  (∀k,k<n->∃i e,∃f:i<t.place.size,t.place[i]=(it t.mask k (st t.mask ((tK prog w).hash (iK ns)))).j/\es[i]?=some e/\∀c,e.2=.ref c->¬(tK prog w).is s.heap (iK ns) c)->
  (∃N,n<=N/\N<n+fuel/\(it t.mask N (st t.mask ((tK prog w).hash (iK ns)))).j∉t.place.toList)->
  wpAny (model prog w) A (setSearchFrom a (.ref b) ((tK prog w).hash (iK ns)) true fuel d) Q E s
 |0,n,d,_,_,⟨N,x1,x2,_⟩=>by lia
 |fuel+1,n,d,e1,e2,⟨N,x1,x2,x3⟩=>by
  have v0:Va t.mask (it t.mask n (st t.mask ((tK prog w).hash (iK ns)))):=(Va.st _ _).it;have sp:=mI T.tb K (λi=>(es[i]?.map (·.1)).getD 0) ((tK prog w).hash (iK ns)) v0;have at_:∀i,i<t.place.size->∃e,es[i]?=some e:=λi f=>⟨es[i]'(by rw[<- T.len];exact f),by simp[T.len▸f]⟩;unfold setSearchFrom;refine KE (SF O hd (md.fits T K) ?_);dsimp only;have hg:t.gaveWay=false:=DN T.tb.kI;rw[hg];simp only[Ro,Sx];rw[e1];have pre:∀{nn:Nat},(∀k,k<nn->∃i,∃f:i<t.place.size,t.place[i]=(it t.mask k (it t.mask n (st t.mask ((tK prog w).hash (iK ns))))).j/\(es[i]?.map (·.1)).getD 0≠(tK prog w).hash (iK ns))->
   ∀k,k<n+nn->∃i e,∃f:i<t.place.size,t.place[i]=(it t.mask k (st t.mask ((tK prog w).hash (iK ns)))).j/\es[i]?=some e/\∀c,e.2=.ref c->¬(tK prog w).is s.heap (iK ns) c:=by
   intro nn hb k z;by_cases B:k<n
   .exact e2 k B
   .obtain⟨i,f,q1,q2⟩:=hb (k-n) (by lia);obtain⟨e,l⟩:=at_ i f;refine⟨i,e,f,?_,l,λc L g=>q2 ?_⟩
    .rw[q1,<- ft,show n+(k-n)=k by lia]
    .obtain⟨ms,v,rfl,h⟩:=el e (jg l);have p:v=c:=by injection L
     subst p;rw[l];show(tK prog w).hash (iK ms)=_;rw[(tK prog w).inj h g]
  generalize I:t.probe _ _ (it t.mask n (st t.mask ((tK prog w).hash (iK ns))))=pr;have J:t.probe (λi=>(es[i]?.map (·.1)).getD 0) ((tK prog w).hash (iK ns)) (it t.mask n (st t.mask ((tK prog w).hash (iK ns))))=pr:=I;rw[J]at sp;clear J I;cases sp with
  |em nn C hb=>
   dsimp only;refine QX (h2 ?_ _ C (v0.it).Pw ?_)
   .intro e l c L g;obtain⟨i,f⟩:=Rl.mp l;rw[RH]at f;have D:i<t.place.size:=by rw[T.len];exact(SZ.mp f).1
    obtain⟨ms,v,rfl,h⟩:=el e l;have p:v=c:=by injection L
    subst p;have ek:=(tK prog w).inj h g;have hz:(t.place[i],((tK prog w).hash (iK ms),Value.ref v))∈t.place.toList.zip es.toList:=Rl.mpr ⟨i,by rw[Ui];exact⟨by simp[D],by rw[RH];exact f⟩⟩;obtain⟨m,em,eb⟩:=T.JO _ hz;have em:(it t.mask m (st t.mask ((tK prog w).hash (iK ms)))).j=t.place[i]:=em;rw[ek]at em eb;have hm:m<n+nn:=by
     rcases UL m (n+nn)with q|q|q
     .exact q
     .exfalso;refine C ?_;show(it t.mask nn (it t.mask n _)).j∈t.place.toList;rw[<- ft,<- q,em];simp
     .exfalso;refine C ?_;show(it t.mask nn (it t.mask n _)).j∈t.place.toList;rw[<- ft];exact eb _ q
    obtain⟨r,M,F,q1,q2,q3⟩:=pre hb m hm;have R:r=i:=by
     have:t.place[r]=t.place[i]:=q1.trans em;rcases UL r i with q|q|q
     .have:=Rv.mp T.tb.tX r i (by simpa using F) (by simpa using D) q;simp at this;lia
     .exact q
     .have:=Rv.mp T.tb.tX i r (by simpa using D) (by simpa using F) q;simp at this;lia
    subst R;rw[f]at q2;cases q2;exact q3 v rfl g
   .refine⟨n+nn,by rw[ft],λk z=>?_⟩;obtain⟨i,e,f,q1,_⟩:=pre hb k z;show _∈t.place.toList;rw[<- q1];simp
  |ca nn i f G hq hb=>
   dsimp only;obtain⟨e,l⟩:=at_ i f;obtain⟨ms,c,rfl,g⟩:=el e (jg l);have rest:wpAny (model prog w) A (do
    let some (_,y):=es[i]?|unsupported "internal:set-entry"
    let u <- holding [y] (eqBool y (.ref b))
    let (S,_,t') <- setState a
    if true&&u then return SetFound.there none
    let some same:=t'.sameMemory t.moves t.mask|unsupported "set.changed-during-lookup:is-the-new-block-at-the-old-address"
    let H <- match(if same then t'.slot (it t.mask nn (it t.mask n (st t.mask ((tK prog w).hash (iK ns))))).j else .empty)with
     |.live r=>match S[r]? with
      |some (_,y')=>do pure (if <- isSame y' y then some r else none)
      |none=>pure none
     |_=>pure none
    match H with
    |none=>rule "set.search.anew";setSearchFrom a (.ref b) ((tK prog w).hash (iK ns)) true fuel none
    |some r=>if u then return .there (some r)else setSearchFrom a (.ref b) ((tK prog w).hash (iK ns)) true fuel (some (it t.mask (nn+1) (it t.mask n (st t.mask ((tK prog w).hash (iK ns))))))) Q E s:=by
    rw[l];dsimp only;refine KE (Sk ((tK prog w).eqBool Z g P ?_));refine KE (SF O hd (md.fits T K) ?_);dsimp only;by_cases x:iK ms=iK ns
    .rw[Rm x];simp only[Vk,TB];exact QX (h1 ⟨_,jg l,c,rfl,by rw[<- x];exact g⟩)
    .rw[RK x];simp only[Uh,Ro,Sx];have U:t.sameMemory t.moves t.mask=some true:=by unfold SetTable.sameMemory;simp
     rw[U];dsimp only;rw[Re rfl,<- G,oV T.tb f];dsimp only;rw[l];dsimp only;refine KE (wpAny_isSame_ref_self ?_);refine KE (QX ?_);rw[Re rfl]
     try dsimp only
     refine oX O hd T K Z P el h1 h2 fuel (n+(nn+1)) _ ?_ ?_ ⟨N,?_,?_,x3⟩
     .exact(ft t.mask n (nn+1) _).symm
     .intro k z;by_cases B:k<n+nn
      .exact pre hb k B
      .have:k=n+nn:=by lia
       subst this;refine⟨i,_,f,by rw[G,ft],l,λv p hh=>x ?_⟩;have:c=v:=by injection p
       subst this;exact(tK prog w).inj g hh
     .refine Sq λL=>?_;have hN:N<n+(nn+1):=by lia
      by_cases V:N<n+nn
      .obtain⟨r,M,F,q1,_⟩:=pre hb N V;exact x3 (by rw[<- q1];simp)
      .have:N=n+nn:=by lia
       subst this;exact x3 (by rw[ft,<- G];simp)
     .lia
   split
   .refine KE (GU P ?_ ?_)
    .intro y hy;obtain⟨M,W,rfl⟩:=Q3.mp hy;have X:M∈es.toList:=by have:=(Array.mem_toList_iff).mp W;rw[Array.mem_filter]at this;exact Array.mem_toList_iff.mpr this.1
     obtain⟨Y,v,rfl,h⟩:=el M X;exact⟨Y,v,rfl,h⟩
    .simp only[Ro,Sx];exact rest
   .exact rest
end
noncomputable def byT(w:World):Bool:=w.params.followText "set-order"
def SetAt(w:World)(h:Heap)(a:Addr)(es:Array (Int×Vz)):Prop:=∃o ep t,h.get? a=some o/\o.ExactSet/\o.data=.set es ep t/\md t es/\i9 t/\t.plain=true/\t.led=!byT w
def SetAt.keep(x:SetAt w h a es)(k:∀o,h.get? a=some o->h'.get? a=some o):SetAt w h' a es:=let ⟨o,ep,t,e,r⟩:=x;⟨o,ep,t,k o e,r⟩
def fw(h:i9 t):t.place.size<=t.mask:=by unfold i9 at h;lia
section
structure lG(es es':Array (Int×Vz)) (x:Int×Vz):Prop where
 mem:∀y,y∈es'.toList↔y=x\/y∈es.toList
 pw:∀R:Int×Vz->Int×Vz->Prop,(∀x y,R x y->R y x)->es.toList.Pairwise R->(∀e∈es.toList,R e x)->es'.toList.Pairwise R
 size:es'.size=es.size+1
def oY(es:Array (Int×Vz))(p:Nat)(x:Int×Vz)(a:p<=es.size):lG es (SetTable.insertAt es p x) x:=by
 have e:=ST.insertAt_toList es p x a;refine⟨λy=>?_,λR b pw c=>?_,ST.insertAt_size es p x a⟩
 .rw[e,Rj,Q_];constructor
  .grind
  .rintro (rfl|z)
   .exact .inr (.inl rfl)
   .rw[<- SU p es.toList,Rj]at z;exact z.elim .inl λz=>.inr (.inr z)
 .rw[e,U0];rw[<- SU p es.toList,U0]at pw;obtain⟨p1,p2,p3⟩:=pw;refine⟨p1,?_,?_⟩
  .rw[Uz]
   grind
  .grind
def lG.laid(g:lG es es1 x)(l:Laid m es1 es2 t):lG es es2 x:=⟨λy=>(l.mem y).trans (g.mem y),λR a pw b=>l.pw R a (g.pw R a pw b),by rw[l.size,g.size]⟩
def iF{ep:Nat}{t:SetTable}(b:Array (Int×Vz))(t':SetTable){h:Heap}(d:h.get? a=some o)(hex:o.ExactSet)(hd:o.data=.set es ep t) :
 ∃c,(h.update a (Obj.putSet b t')).get? a=some c/\c.ExactSet/\c.data=.set b (ep+1) t':=by
 have:=SJ (Obj.putSet b t') d (by rw[putSet_of b t' hd];rfl);rw[putSet_of b t' hd]at this;exact⟨_,this,hex,rfl⟩
def mL{t:SetTable}(h:t_ t.mask)(h1:n*5<t.mask*3)(h2:(n+1)*5>=t.mask*3)(h3:n+1<=300):∃m,SetTable.sizeAbove (SetTable.grown (n+1))=m+1/\t_ m/\(n+1)*5<m*3:=by
 rcases h with e|e|e|e<;>rw[e]at h1 h2
 .have:n=4:=by lia
  subst this;exact⟨31,by decide,.inr (.inl rfl),by lia⟩
 .have:n=18:=by lia
  subst this;exact⟨127,by decide,.inr (.inr (.inl rfl)),by lia⟩
 .have:n=76:=by lia
  subst this;exact⟨511,by decide,.inr (.inr (.inr rfl)),by lia⟩
 .lia
def z6{a:Addr}{o:Obj}{es:Array (Int×Vz)}{Q:Unit->Vw->Prop}(d:s.heap.get? a=some o)(hex:o.ExactSet)(hd:o.data=.set es ep t)(k:t.fits es.size=true)(hm:t_ m)(j:SetTable.sizeAbove n=m+1)(l:es.size*5<m*3)(f:t.plain=true)(g:t.led=!byT w)
 (h:∀c t',Laid m es c t'->SetAt w (s.heap.update a (Obj.putSet c t')) a c->Q () {s with heap:=s.heap.update a (Obj.putSet c t')}):wpAny (model prog w) A (setRelay a n) Q E s:=by
 have p:m<=511:=by rcases hm with rfl|rfl|rfl|rfl<;>lia
 unfold setRelay;refine KE (SF d hd k ?_);dsimp only;rw[Rf (by rw[j,RB];lia)];obtain⟨t',b,e,L,i,q⟩:=DI hm es (by lia) t.finger (t.movedTo m) t.led t.plain;have er:t.relaid (es.map (·.1)) n=some (t',b):=by unfold SetTable.relaid;rw[j];exact e
 rw[er];show wpAny _ _ (do
  let r <- (do
   if(b.filterMap (es[·]?)).size != es.size then unsupported "internal:set-table-lost-an-element"
   pure (b.filterMap (es[·]?),t'):Sem (Array (Int×Vz)×SetTable))
  storeSet a r.1 r.2) _ _ _
 refine KE ?_;rw[Rf (by rw[L.size];simp)];refine QX ?_;refine UM d hd ?_ (by show(b.filterMap (es[·]?)).size<=_;rw[L.size,RB];lia);obtain⟨u,g1,g2,v⟩:=iF (b.filterMap (es[·]?)) t' d hex hd;refine h _ t' L ⟨u,_,t',g1,g2,v,L.tV,?_,by rw[q];exact f,by rw[i];exact g⟩;unfold i9;rw[L.tV.len,L.size,L.mask];exact l
end
section
def z8(T:md t es)(a:t.place.size<=t.mask)(h:Int):∃N,N<100000/\(it t.mask N (st t.mask h)).j∉t.place.toList:=by
 obtain⟨j,b,c⟩:=mH T.tb a;obtain⟨N,h1,h2⟩:=FL T.tb.kI b (Va.st t.mask h);refine⟨N,?_,by rw[h2];exact c⟩;have:t.mask<=511:=by rcases T.tb.kI with e|e|e|e<;>rw[e]<;>lia
 unfold SetTable.turns at h1;lia
def GV(G:A.units<cLine)(q:(tK prog w).is s.heap (iK ns) b)(K:SetAt w s.heap a es)(el:Pd prog w s.heap es)(hz:es.size+1<=300)
 (h1:∀tk,s.toks<=tk->(∃e∈es.toList,∃c,e.2=.ref c/\(tK prog w).is s.heap (iK ns) c)->Q false {s with toks:=tk})
 (h2:∀tk h' h,s.toks<=tk->(∀e∈es.toList,∀c,e.2=.ref c->¬(tK prog w).is s.heap (iK ns) c)->Heap.SameBut a s.heap h'->SetAt w h' a h->lG es h ((tK prog w).hash (iK ns),.ref b)->Q true {s with heap:=h',toks:=tk}) :
 wpAny (model prog w) A (setAdd a (.ref b)) Q E s:=by
 obtain⟨o,ep,t,p,hex,hd,T,sp,r,u⟩:=K;have H:=md.fits T (fw sp);unfold setAdd;refine Sk ?_;refine KE ((tK prog w).pyHash G q ?_);have i:s.toks<=s.toks+(tK prog w).draws (iK ns):=UV _ _;generalize s.toks+(tK prog w).draws (iK ns)=tk at i;unfold setAddHashed setAddHashedIn;refine Sk ?_;refine KE (SF (s:={s with toks:=tk}) p hd H ?_);dsimp only;have x:byScan (.ref b) es=false:=by simp[byScan,Value.scannable]
 rw[x];simp only[Ro,Sx];unfold setSearch;obtain⟨N,n1,n2⟩:=z8 T (fw sp) ((tK prog w).hash (iK ns));refine KE (oX (s:={s with toks:=tk}) p hd T (fw sp) G q el (λy=>?_) (λl j M z O=>?_) 100000 0 none rfl (λk P=>by lia) ⟨N,Rh _,by lia,n2⟩)
 .exact QX (h1 tk i y)
 .dsimp only;refine KE (SF (s:={s with toks:=tk}) p hd H ?_);dsimp only;obtain⟨B,em,C⟩:=uI T M z (v:=Value.ref b) O;have f:(t.put j).1.plain=true:=by rw[jH T.tb];exact r
  have n:(t.put j).1.led=!byT w:=by rw[jH T.tb];exact u
  rw[f];simp only[TB];refine KE (GT (s:={s with toks:=tk}) q ?_);simp only[TB];have R:(t.put j).2<=es.size:=by rw[lV,<- T.len];exact(cW j T.tb.tX).1
  have g:=oY es (t.put j).2 ((tK prog w).hash (iK ns),Value.ref b) R;refine KE (UM (s:={s with toks:=tk}) p hd ?_ (by rw[g.size,RB];lia));obtain⟨o1,q1,q2,I⟩:=iF (SetTable.insertAt es (t.put j).2 ((tK prog w).hash (iK ns),Value.ref b)) (t.put j).1 p hex hd;have J:=RZ s.heap a (Obj.putSet (SetTable.insertAt es (t.put j).2 ((tK prog w).hash (iK ns),Value.ref b)) (t.put j).1);have fill:(t.put j).1.fill=es.size+1:=by unfold SetTable.fill;rw[B.tb.JP,C,T.len];rfl
  by_cases d:(t.put j).1.tooFull=true
  .rw[d];simp only[Bool.not_false,Vk,TB];unfold SetTable.tooFull at d;rw[fill,em]at d;have d:(es.size+1)*5>=t.mask*3:=by simpa using d
   have D:es.size*5<t.mask*3:=by rw[<- T.len];exact sp
   obtain⟨m,S,m2,U⟩:=mL T.tb.kI D d hz;have F:(t.put j).1.place.size<=(t.put j).1.mask:=by
    rw[C,em];unfold i9 at sp;have:t.mask>=7:=by rcases T.tb.kI with e|e|e|e<;>rw[e]<;>lia
    lia
   refine KE (z6 (s:={s with heap:=s.heap.update a (Obj.putSet (SetTable.insertAt es (t.put j).2 ((tK prog w).hash (iK ns),Value.ref b)) (t.put j).1),toks:=tk}) q1 q2 I (md.fits B F) m2 S (by rw[g.size];exact U) f n λh t' L sa=>?_);exact QX (h2 tk _ h i l (J.trans (RZ _ a _)) sa (g.laid L))
  .have d:(t.put j).1.tooFull=false:=by simpa using d
   rw[d];simp only[Uh,Ro,Sx];refine QX (h2 tk _ _ i l J ⟨o1,_,_,q1,q2,I,B,?_,f,n⟩ g);unfold SetTable.tooFull at d;unfold i9;rw[fill]at d;rw[C,T.len];simpa using d
end
noncomputable abbrev i_:=List Int×Addr
def z9(h:iK a=iK b):a=b:=by
 induction a generalizing b with
 |nil=>cases b with
  |nil=>rfl
  |cons _ _=>cases h
 |cons x a c=>cases b with
  |nil=>cases h
  |cons y b=>grind
section
variable{κ μ:Type}{x:κ×μ}
structure d7(ent:κ×μ->Int×Vz) (es:Array (Int×Vz)) (xs:List (κ×μ)):Prop where
 el:∀e∈es.toList,∃x∈xs,e=ent x
 sz:es.size<=xs.length
 pw:es.toList.Pairwise λe e'=>∀x x',e=ent x->e'=ent x'->x∈xs->x'∈xs->x.1≠x'.1
 all:∀x∈xs,∃y∈xs,y.1=x.1/\ent y∈es.toList
def CT(ent:κ×μ->Int×Vz)(xs:List (κ×μ)):Prop:=∀x∈xs,∀y∈xs,ent x=ent y->x.1=y.1
def d7.wide(v:d7 ent es xs)(un:CT ent (xs++[x])):es.toList.Pairwise λe h=>∀y c,e=ent y->h=ent c->y∈xs++[x]->c∈xs++[x]->y.1≠c.1:=by refine SV (λ{a b} ha hb f z i e1 e2 j m2=>?_) v.pw;obtain⟨y,g,rfl⟩:=v.el a ha;obtain⟨c,d,rfl⟩:=v.el b hb;rw[un z j y (RD _ g) e1.symm,un i m2 c (RD _ d) e2.symm];exact f y c rfl rfl g d
def d7.seen(v:d7 ent es xs)(a:∃y∈xs,y.1=x.1)(un:CT ent (xs++[x])):d7 ent es (xs++[x]):=by
 refine⟨λe b=>?_,?_,v.wide un,λy hy=>?_⟩
 .obtain⟨z,h1,h2⟩:=v.el e b;exact⟨z,RD _ h1,h2⟩
 .have:=v.sz;simp;lia
 .obtain⟨c,h1,h2⟩ : ∃z∈xs,z.1=y.1:=by
   rcases Rj.mp hy with hy|hy
   .exact⟨y,hy,rfl⟩
   .rw[Q9]at hy;subst hy;exact a
  obtain⟨z,g1,g2,d⟩:=v.all c h1;exact⟨z,RD _ g1,g2.trans h2,d⟩
def d7.new(v:d7 ent es xs)(c:¬∃y∈xs,y.1=x.1)(un:CT ent (xs++[x]))(g:lG es es' (ent x)):d7 ent es' (xs++[x]):=by
 have d:x∈xs++[x]:=RM _ (Q9.mpr rfl);refine⟨λe he=>?_,?_,?_,λy hy=>?_⟩
 .rcases (g.mem e).mp he with rfl|he
  .exact⟨x,d,rfl⟩
  .obtain⟨z,h1,h2⟩:=v.el e he;exact⟨z,RD _ h1,h2⟩
 .have:=v.sz;rw[g.size];simp;lia
 .refine g.pw _ (λa b f z i e1 e2 j m2 h=>f i z e2 e1 m2 j h.symm) (v.wide un) λe he z i e1 e2 j m2 h=>?_;obtain⟨y,k,rfl⟩:=v.el e he;exact c ⟨y,k,(un z j y (RD _ k) e1.symm).symm.trans (h.trans (un i m2 x d e2.symm))⟩
 .rcases Rj.mp hy with hy|hy
  .obtain⟨z,h1,h2,h3⟩:=v.all y hy;exact⟨z,RD _ h1,h2,(g.mem _).mpr (.inr h3)⟩
  .rw[Q9]at hy;subst hy;exact⟨y,d,rfl,(g.mem _).mpr (.inl rfl)⟩
end
section
variable{κ μ:Type}
def v8(prog:Vy)(w:World)(A:VA)(hb:Heap)(S:Addr)(ent:κ×μ->Int×Vz)(its:List (κ×μ)):Prop:=∀(x:κ×μ)(xs:List (κ×μ))(s:Vw)(es:Array (Int×Vz))(Q:Bool->Vw->Prop)(E:Vz->Vw->Prop),x∈its->(∀y∈xs,y∈its)->(∀b o,hb.get? b=some o->s.heap.get? b=some o)->SetAt w s.heap S es->d7 ent es xs->es.size+1<=300->
 (∀tk,s.toks<=tk->(∃y∈xs,y.1=x.1)->Q false {s with toks:=tk})->(∀tk h' a,s.toks<=tk->(¬∃y∈xs,y.1=x.1)->Heap.SameBut S s.heap h'->SetAt w h' S a->lG es a (ent x)->Q true {s with heap:=h',toks:=tk})->wpAny (model prog w) A (setAdd S (ent x).2) Q E s
variable{St:Nat->Vw->Prop}
def kG(W:WalksS prog w A.in1 I fp wr G n P St)(S:Addr)(F:S∉fp)(hb:Heap)(Q:hb.get? S=none)(T:∀b∈wr,hb.get? b=none)(its:List (κ×μ))(hn:its.length=n)
 (H:∀i v,P i v->∃x,its[i]?=some x/\v=(ent x).2) (un:CT ent its) (add:v8 prog w A.in1 hb S ent its) (hz:n<=300) :
 ∀(k i:Nat)(s:Vw)(es:Array (Int×Vz)),n-i=k->i<=n->St i s->(∀b o,hb.get? b=some o->s.heap.get? b=some o)->SetAt w s.heap S es->d7 ent es (its.take i)->
  (∀c m,Moved (S::wr) G s c->SetAt w c.heap S m->d7 ent m its->R (.ok (.ret .none)) c)->
  codeAny (model prog w) A (.builtin "set.update.loop" ⟨[.ref S,.ref I],[]⟩) R s:=by
 have J:S∉wr:=λh=>F (W.sub _ h);have d:∀b∈wr,b∈S::wr:=λb hb=>Q7 _ hb;intro k;induction k with
 |zero=>
  intro i s es hk hi q K U v O;have r:i=n:=by lia
  subst r;refine SW Uj ?_;rw[Th SN _];show wpAny _ A.in1 (pyNext (.ref I) >>= _) _ _ s;refine KE (W.done s _ _ q λc hm=>?_);rw[Su (by lia)]at v;have V:=O c es (hm.mono d) (U.keep λo e=>hm.heap S o J e) v;show wpAny _ A.in1 (ret Value.none) _ _ c;exact QX V
 |succ k ih=>
  intro i s es hk hi q K U v O;have t:i<n:=by lia
  refine SW Uj ?_;rw[Th SN _];show wpAny _ A.in1 (pyNext (.ref I) >>= _) _ _ s;refine KE (W.item i s _ _ t q λu c hP p hm=>?_);obtain⟨x,hx,rfl⟩:=H i u hP;have B:its.take (i+1)=its.take i++[x]:=by rw[Ry,hx];rfl
  have L:CT ent (its.take i++[x]):=by rw[<- B];exact λy X z hz=>un y (SM X) z (SM hz)
  have Y:∀b o,hb.get? b=some o->c.heap.get? b=some o:=λb o e=>hm.heap b o (λz=>by rw[T b z]at e;cases e) (K b o e);have M:=U.keep λo e=>hm.heap S o J e;have Z:es.size+1<=300:=by have:=v.sz;rw[Sa]at this;lia
  show wpAny _ A.in1 (holding [(ent x).2] (setAdd S (ent x).2) >>= _) _ _ c;refine KE (Sk (add x (its.take i) c es _ _ (RE hx) (λy X=>SM X) Y M v Z (λtk a r=>?_) λtk h' m a N C hSn g=>?_))
  .refine QX ⟨Uy SN _,ih (i+1) _ es (by lia) t (W.frame _ c _ _ p a λb hb o e=>e) Y M (by rw[B];exact v.seen r L) λD f j l E=>?_⟩;exact O D f (Moved.trans W.gtrans ((hm.mono d).then_heap a λb o hb e=>e) j) l E
  .have K2:∀b o,hb.get? b=some o->h'.get? b=some o:=λb o e=>(C.2 b (λz=>by rw[z,Q]at e;cases e)).trans (Y b o e);refine QX ⟨Uy SN _,ih (i+1) _ m (by lia) t (W.frame _ c _ _ p a λb hb o e=>?_) K2 hSn (by rw[B];exact v.new N L g) λD f j l E=>?_⟩
   .rw[C.2 b (λh:b=S=>F (h▸hb))];exact e
   .refine O D f (Moved.trans W.gtrans ((hm.mono d).then_heap a λb o hb e=>?_) j) l E;rw[C.2 b (λh:b=S=>hb (h▸Q5))];exact e
abbrev eT(prog:Vy)(w:World)(x:i_):Int×Vz:=((tK prog w).hash (iK x.1),Value.ref x.2)
def DO(a:∀x∈its,(tK prog w).is hb (iK x.1) x.2):CT (eT prog w) its:=λx b y c e=>z9 ((tK prog w).inj (a x b) (by
 have e:x.2=y.2:=by injection e with _ e;injection e
 rw[e];exact a y c))
def DP(m:A.units<cLine)(d:∀x∈its,(tK prog w).is hb (iK x.1) x.2):v8 prog w A hb S (eT prog w) its:=λx xs s es Q E n o K p v hz h1 h2=>by
 have a:∀y∈xs,(tK prog w).is s.heap (iK y.1) y.2:=λy i=>iD (d y (o y i)) K;refine GV m (iD (d x n) K) p (λe j=>?_) hz (λtk t b=>h1 tk t ?_) λtk h' k t f q sa g=>h2 tk h' k t (λb=>?_) q sa g
 .obtain⟨y,i,rfl⟩:=v.el e j;exact⟨_,_,rfl,a y i⟩
 .obtain⟨e,j,c,l,r⟩:=b;obtain⟨y,h,rfl⟩:=v.el e j;injection l with l;subst l;exact⟨y,h,z9 ((tK prog w).inj (a y h) r)⟩
 .obtain⟨y,h,u⟩:=b;obtain⟨z,B,C,D⟩:=v.all y h;exact f _ D z.2 rfl (by rw[<- u,<- C];exact a z B)
end
noncomputable abbrev setNew(led:Bool):Obj:={ cls:=.type "set",dict:=none,data:=.set #[] 0 (.fresh 0 0 led) }
def xC(e:h.get? a=some (setNew (!byT w))):SetAt w h a #[]:=by refine⟨_,0,_,e,⟨rfl,rfl,rfl⟩,rfl,⟨⟨.inl rfl,rfl,List.Pairwise.nil,λj b=>nomatch b⟩,rfl,λq c=>nomatch c⟩,?_,rfl,rfl⟩;show 0*5<7*3;decide
section
def n9(a:Vz)(h:Q₁ (.ref s.heap.objs.size) {s with heap:=s.heap.push (setNew (!byT w))}) :
 codeAny (model prog w) A (.call (.builtin "set.__new__") ⟨[.type "set",a],[]⟩) (wants Q₁ E) s:=by
 refine codeAny_of_tree (show wpAny _ A.in1 (do checkBuiltinCall "set.__new__" ⟨[.type "set",a],[]⟩;again (.builtin "set.__new__" ⟨[.type "set",a],[]⟩)) _ _ s from ?_);refine KE (wpAny_of_eq (PySem.F.newCall_set_1 a) (QX ⟨Uy PySem.F.plain_set_new _,SW PySem.F.entry_set_new ?_⟩));rw[Th PySem.F.plain_set_new _];unfold Builtin.«set.__new__» Builtin.Frozenset.newClass;have b:=sub_set_self;obtain⟨c,g,d,tk,os⟩:=s;dsimp only;wp_walk;refine wpAny_askSetting (QX ?_);dsimp only;simp only[newObj];refine KE (wpAny_alloc (QX ?_));exact QX h
def oZ{κ J:Type}{ent:κ×J->Int×Vz}{l:Addr}{a:Array Vz}{nl:Nat}{its:List (κ×J)} {Q:Vz->Vw->Prop} (S:A.handled=none) (K:s.heap.get? l=some { cls:=.type "list",data:=.seq a nl }) (T:its.length=a.size) (hz:a.size<=300)
 (k:∀(i:Nat)(v:Vz),a[i]?=some v->∃x,its[i]?=some x/\v=(ent x).2) (un:CT ent its) (add:v8 prog w A.in1.in1.in1 s.heap s.heap.objs.size ent its)
 (h:∀(h':Heap)(tk:Nat)(es:Array (Int×Vz)),SetAt w h' s.heap.objs.size es->d7 ent es its->(∀b o,b<s.heap.objs.size->s.heap.get? b=some o->h'.get? b=some o)->Q (.ref s.heap.objs.size) {s with heap:=h',toks:=tk}) :
 wpAny (model prog w) A (call (.type "set") [.ref l]) Q E s:=by
 obtain⟨c,tl,L⟩:=PySem.F.called_set.mro;have z:=PySem.F.called_set.made;have M:=PySem.F.called_set.sub;refine wpAny_call (codeAny_of_tree ?_);show wpAny _ _ (callAny (.type "set") _) _ _ _;refine QX ⟨Code.quiet_builtin _ (by decide +kernel),SW PySem.F.entry_type_call ?_⟩;rw[Around.under_plain (weight_type_call_type "set" [.ref l] []) rfl];have h1:=PySem.F.called_set.notType;have h2:=PySem.F.called_set.canCreate;have U:=PySem.F.typeCall_set_1 (.ref l)
 repeat (any_goals (first|assumption|wp_step))
 refine UR (n9 (.ref l) (E:=E) (Q₁:=λobj f=>obj=.ref s.heap.objs.size/\f={s with heap:=s.heap.push (setNew (!byT w))}) ⟨rfl,rfl⟩) λr f B=>?_;rcases r with e|fl
 .exact B
 cases fl with
 |ret obj=>
  obtain⟨rfl,rfl⟩:=B;have N:(s.heap.push (setNew (!byT w))).get? s.heap.objs.size=some (setNew (!byT w)):=Rb _ rfl;have V:Shared.TypeIs {s with heap:=s.heap.push (setNew (!byT w))} (.ref s.heap.objs.size) "set":=⟨_,N,rfl⟩;have W:=PySem.F.called_set.init.lookup;have X:=PySem.F.called_set.init.bind (.ref s.heap.objs.size)
  repeat (any_goals (first|assumption|wp_step))
  refine UR (codeAny_call_builtin (R:=wants (λr g=>r=.none/\∃h' tk es,g={s with heap:=h',toks:=tk}/\SetAt w h' s.heap.objs.size es/\d7 ent es its/\
   (∀b o,b<s.heap.objs.size->s.heap.get? b=some o->h'.get? b=some o)) E) PySem.F.called_set.init.plain PySem.F.entry_set_init (check_set_init_1 V ?_)) λm g d=>?_
  .have n:(s.heap.push (setNew (!byT w))).get? l=some { cls:=.type "list",data:=.seq a nl }:=QZ _ K;have O:=PySem.F.sub_list_set;have P:=PySem.F.sub_list_frozenset;have Y:(Value.type "list"==Value.type "dict")=false:=by decide
   have p:(s.heap.push (setNew (!byT w))).IsList l a:=⟨_,n,rfl,nl,rfl⟩;unfold Builtin.«set.__init__» noKeywords Builtin.Frozenset.updateFrom;generalize C:pyIter=PI
   wp_walk
   subst C;refine UI p (KE (wpAny_runValue ?_));have t:l<s.heap.objs.size:=Rc K;have D:A.in1.in1.in1.handled=none:=by simp[S]
   have u:l≠(s.heap.push (setNew (!byT w))).objs.size:=by rw[TY];exact Rt (T_ t)
   have y:∀b,s.heap.objs.size<=b->s.heap.get? b=none:=λb hb=>by
    cases q:s.heap.get? b with
    |none=>rfl
    |some o=>exact absurd (Rc q) (Nat.not_lt.mpr hb)
   refine kG ((Walks.list D _ l u a).toS) s.heap.objs.size ?hSf s.heap (y _ (QY _)) ?hbw its T k un add hz (a.size-0) 0 _ #[] rfl (Rh _) ⟨⟨_,Rb _ rfl,rfl,rfl⟩,(p.push _)⟩
    (λb o e=>QZ _ (QZ _ e)) (xC (QZ _ N)) ⟨λe Z=>(nomatch Z),Rh _,List.Pairwise.nil,λx hx=>(nomatch hx)⟩ ?hR
   case hSf=>rw[TY];simp only[Q_,Rk,Ve,not_or];exact⟨Rt (SQ _),Ts t⟩
   case hbw=>intro b hb;simp only[Q_,Rk,Ve]at hb;subst hb;exact y _ (by rw[TY];lia)
   case hR=>intro s' es hm j v;obtain⟨h',g',d',G,H⟩:=s';have eg:g'=s.gens:=hm.gens;have ed:d'=s.drawn:=hm.drawn;have eo:H=s.os:=hm.os;subst eg ed eo;refine QX (QX ⟨rfl,h',G,es,rfl,j,v,λb o hb e=>hm.heap b o ?_ (QZ _ (QZ _ e))⟩);simp only[Q_,Rk,Ve,not_or];exact⟨Rt hb,by rw[TY];exact Rt (T_ hb)⟩
  .rcases m with e|fl₂
   .exact d
   cases fl₂ with
   |ret r=>
    obtain⟨rfl,h',tk,es,rfl,j,v,I⟩:=d
    repeat (any_goals (first|assumption|wp_step))
    exact h _ _ _ j v I
   |_=>exact d.elim
 |_=>exact B.elim
end
theorem mM{α:Type}:∀(l:List α)(i:Nat)(h:i<l.length),(l[i]::l.eraseIdx i).Perm l
 |[],i,h=>by simp at h
 |x::l,0,h=>Tl _
 |x::l,i+1,h=>by have a:=mM l i (by simpa using h);have e:(x::l).eraseIdx (i+1)=x::l.eraseIdx i:=rfl;rw[e,List.getElem_cons_succ];exact(List.Perm.swap _ _ _).trans (List.Perm.cons x a)
theorem v9{α:Type}(next:Nat->Nat):∀(a k:Nat)(left:List α)(out:Array α),left.length=a->(pickOrder.go next a k left out).toList.Perm (out.toList++left)
 |0,k,left,out,h=>by have:left=[]:=RJ.mp h;subst this;unfold pickOrder.go;simp
 |f+1,k,left,out,h=>by have b:next k%left.length<left.length:=Vv _ (by lia);unfold pickOrder.go;rw[Q1 b];dsimp only;have c:=v9 next f (k+1) (left.eraseIdx (next k%left.length)) (out.push left[next k%left.length]) (by rw[List.length_eraseIdx,Re b];lia);refine c.trans ?_;rw[Array.toList_push,RO];exact List.Perm.append_left _ (mM left _ b)
def xD{α:Type}(next:Nat->Nat)(xs:Array α):(pickOrder next xs).toList.Perm xs.toList:=by have:=v9 next xs.size 0 xs.toList #[] (by simp);unfold pickOrder;simpa using this
def hI(w:World)(S:Addr)(ep:Nat)(es:Array (Int×Vz)):Array (Int×Vz):=if byT w then pickOrder (w.params.setOrder S ep) es else es
def rO(w:World)(S:Addr)(ep:Nat)(es:Array (Int×Vz)):(hI w S ep es).toList.Perm es.toList:=by
 unfold hI;split
 .exact xD _ _
 .exact Tl _
def jI(w:World)(S:Addr)(ep:Nat)(es:Array (Int×Vz)):(hI w S ep es).size=es.size:=by have:=(rO w S ep es).length_eq;simpa using this
def cX(w:World)(t:SetTable):Nat->Nat
 |0=>0
 |i+1=>if byT w then 0 else t.place.getD i 0+1
def uK(T:Tb t):∀(i:Nat),i<=t.place.size->SetTable.below t.place (match i with|0=>0|i+1=>t.place.getD i 0+1)=i
 |0,_=>by
  obtain⟨a,b,c⟩:=cW 0 T.tX;dsimp only;rcases Nat.eq_zero_or_pos (SetTable.below t.place 0)with h|h
  .exact h
  .have:=b 0 (by lia) h;lia
 |i+1,d=>by
  dsimp only;have e:t.place.getD i 0=t.place[i]:=by simp[Array.getD,show i<t.place.size by lia]
  rw[e];obtain⟨a,b,c⟩:=cW (t.place[i]+1) T.tX;rcases UL (SetTable.below t.place (t.place[i]+1)) (i+1)with q|q|q
  .have h1:=c i (by lia) (by lia);lia
  .exact q
  .have h1:=b (i+1) (by lia) q;have h2:=Rv.mp T.tX i (i+1) (by simp;lia) (by simp;lia) (by lia);simp at h2;lia
def slot_setiter_next:Slot "set_iterator" "__next__" "set_iterator.__next__":=.of (owner:="set_iterator") (n:="__next__") (by rw[typeLookup_type,builtinLookup_eq_fast];kernel_rfl) (by decide +kernel) (by decide +kernel) (by decide +kernel) (by first|exact .inl (by decide +kernel)|exact .inr (by decide +kernel)) (by rw[isSubtype_type];kernel_rfl)
def fx:entryFor table "set_iterator.__next__"=some Builtin.«set_iterator.__next__»:=entryFor_of_fast (by kernel_rfl)
def fL(a:Vz):argsOk "set_iterator.__next__" ⟨[a],[]⟩:=by(unfold argsOk;kernel_rfl)
def n_:entryFor table "set.__iter__"=some Builtin.«frozenset.__iter__»:=entryFor_alias (id':="frozenset.__iter__") (by kernel_rfl) rfl (by decide +kernel) (by kernel_rfl)
def SetIt(h:Heap)(it S:Addr)(slot i n ep:Nat):Prop:=∃o,h.get? it=some o/\o.cls=.type "set_iterator"/\o.data=.fields #[.int slot 0,.int i 0,.ref S,.int n 0,.int ep 0]
def SetIt.typeIs{s:Vw}{it S:Addr}{slot i n ep:Nat}(x:SetIt s.heap it S slot i n ep):s.TypeIs (.ref it) "set_iterator":=let ⟨o,a,b,_⟩:=x;⟨o,a,b⟩
def kH(h:Heap)(S:Addr)(es:Array (Int×Vz))(ep:Nat)(t:SetTable):Prop:=∃o,h.get? S=some o/\o.ExactSet/\o.data=.set es ep t
section
def uL(h:Q (byT w) s):wpAny (model prog w) A setsByText Q E s:=by unfold setsByText;exact KE (wpAny_askSetting (QX h))
def mN(r:kH s.heap S es ep t)(T:md t es)(j:t.place.size<=t.mask)(c:t.plain=true)(a:t.led=!byT w)(k:i<=es.size)
 (h:Q (((hI w S ep es)[i]?).map λe=>(e.2,cX w t (i+1))) s):wpAny (model prog w) A (setNext S (cX w t i) i ep) Q E s:=by
 obtain⟨o,d,hex,hd⟩:=r;have f:=md.fits T j;unfold setNext;refine KE (SF d hd f ?_);dsimp only;refine KE (uL ?_);cases hb:byT w with
 |true=>
  simp only[TB];rw[Rf (by simp)];refine KE ?_;unfold setWalk;refine KE (SF d hd f ?_);dsimp only;refine KE (uL ?_);rw[hb];simp only[TB];refine KE (wpAny_askSetting (QX ?_));have e1:cX w t (i+1)=0:=by unfold cX;rw[hb];rfl
  have e2:cX w t i=0:=by cases i with|zero=>rfl|succ i=>(unfold cX;rw[hb];rfl)
  rw[e2];rw[e1]at h;unfold hI at h;rw[hb]at h;exact QX h
 |false=>
  simp only[Ro,Sx];rw[hb]at a;have a:t.led=true:=a;show wpAny _ _ (if(!t.plain&&decide (es.size>1))=true then _ else _) _ _ _;rw[c];simp only[Ti,UQ,Ro,Sx];show wpAny _ _ ((if(!t.led&&!es.isEmpty)=true then unsupported "set:maker-not-led" else pure ()) >>= λ_=>_) _ _ _;rw[a];simp only[Ti,UQ,Ro,Sx];refine KE (QX ?_);have e1:SetTable.below t.place (cX w t i)=i:=by
   have:=uK T.tb i (by rw[T.len];exact k);cases i with
   |zero=>exact this
   |succ i=>unfold cX;rw[hb];exact this
  have l:hI w S ep es=es:=by unfold hI;rw[hb];rfl
  rw[l]at h;rw[e1];by_cases b:i<es.size
  .have g1:es[i]?=some es[i]:=by simp[b]
   have g:i<t.place.size:=by rw[T.len];exact b
   have g2:t.place[i]?=some t.place[i]:=by simp[g]
   rw[g1]at h;rw[g1,g2];have e2:cX w t (i+1)=t.place[i]+1:=by unfold cX;rw[hb];simp[Array.getD,g]
   rw[e2]at h;exact QX h
  .have g1:es[i]?=none:=by simp;lia
   rw[g1]at h;rw[g1];exact QX h
end
def fM:Slot "set_iterator" "__iter__" "set_iterator.__iter__":=.of (owner:="set_iterator") (n:="__iter__") (by rw[typeLookup_type,builtinLookup_eq_fast];kernel_rfl) (by decide +kernel) (by decide +kernel) (by decide +kernel) (by first|exact .inl (by decide +kernel)|exact .inr (by decide +kernel)) (by rw[isSubtype_type];kernel_rfl)
def ji:entryFor table "set_iterator.__iter__"=some Builtin.«dict_keyiterator.__iter__»:=entryFor_alias (id':="dict_keyiterator.__iter__") (by kernel_rfl) rfl (by decide +kernel) (by kernel_rfl)
def jJ(a:Vz):argsOk "set_iterator.__iter__" ⟨[a],[]⟩:=by(unfold argsOk;kernel_rfl)
section
def o5{it S:Addr}{slot i n ep:Nat}{P:PySem.Fin->Vw->Prop}{F:Vz->Vw->Prop}(d:s.heap.get? it=some o)(hd:o.data=.fields #[.int slot 0,.int i 0,.ref S,.int n 0,.int ep 0])
 (r:kH s.heap S es ep t) (f:t.fits es.size=true) (g:n=es.size)
 (h:wpAny (model prog w) A (setNext S slot i ep) (λm a=>match m with
   |some (x,next)=>wpAny (model prog w) A (do setField (.ref it) 0 (rawInt next);setField (.ref it) 1 (rawInt (i+1));ret x) P F a
   |none=>wpAny (model prog w) A (do setField (.ref it) 2 .none;raiseNew (<- newExc (.type "StopIteration") [])) P F a) F s) :
 wpAny (model prog w) A (Builtin.«set_iterator.__next__» ⟨[.ref it],[]⟩) P F s:=by
 obtain⟨os,b,hex,c⟩:=r;unfold Builtin.«set_iterator.__next__» slotArgs;simp only[List.isEmpty_nil,Ti,Ro,Sx,T6,UN];refine KE (QX ?_);refine KE (Vf d hd ?_);dsimp only;refine KE ?_;unfold setEntries;refine KE (SF b c f (QX ?_));dsimp only;rw[Rf (by rw[g];simp)];simp only[T9];refine KE (S3 h (λm a hm=>?_) λ_ _ e=>e);cases m with
 |none=>exact hm
 |some p=>obtain⟨x,next⟩:=p;exact hm
def oa{it S:Addr}(hne:S≠it)(hh:A.handled=none){es:Array (Int×Vz)}{ep:Nat}{t:SetTable}(T:md t es)(hs:t.place.size<=t.mask)(hpl:t.plain=true)(hle:t.led=!byT w) :
 Walks prog w A it [it,S] [it] es.size (λi v=>((hI w S ep es)[i]?).map (·.2)=some v) (λi h=>SetIt h it S (cX w t i) i es.size ep/\kH h S es ep t) where
 sub:=λb hb=>by simp at hb;simp[hb]
 frame:=λi h h' st hk=>by obtain⟨⟨o,h1,r1⟩,⟨o2,h2,r2⟩⟩:=st;exact⟨⟨o,hk it (by simp) o h1,r1⟩,⟨o2,hk S (by simp) o2 h2,r2⟩⟩
 item:=λi s Q E hi st hQ=>by
  obtain⟨x1,x2⟩:=st;have hT:=x1.typeIs;obtain⟨o,ho,hc,hd⟩:=x1;have x2':=x2;obtain⟨o2,ho2,hex2,hd2⟩:=x2;unfold pyNext;refine KE (U3 (SK (name:=Str.ofString "__next__") hT slot_setiter_next (R7 slot_setiter_next hT fx ?_ (fL _))));refine o5 ho hd x2' (md.fits T hs) rfl (mN x2' T hs hpl hle (by lia) ?_);have hio:i<(hI w S ep es).size:=by rw[jI];exact hi
  have e1:(hI w S ep es)[i]?=some (hI w S ep es)[i]:=by simp[hio]
  rw[e1];show wpAny _ _ _ _ _ _;refine KE (Uk ho hd (by simp) ?_);have d1:=UC hd (·.setIfInBounds 0 (rawInt ((cX w t (i+1):Nat):Int)));have ho1:=SJ (Obj.mapFields (·.setIfInBounds 0 (rawInt ((cX w t (i+1):Nat):Int)))) ho (UT d1);refine KE (Uk (s:={s with heap:=_}) ho1 d1 (by simp) ?_);have d2:=UC d1 (·.setIfInBounds 1 (rawInt ((i:Int)+1)));have ho3:=SJ (Obj.mapFields (·.setIfInBounds 1 (rawInt ((i:Int)+1)))) ho1 (UT d2);have sb:=(RZ s.heap it (Obj.mapFields (·.setIfInBounds 0 (rawInt ((cX w t (i+1):Nat):Int))))).trans (RZ _ it (Obj.mapFields (·.setIfInBounds 1 (rawInt ((i:Int)+1)))));refine QX ⟨_,rfl,QX ?_⟩;refine hQ _ _ s.toks (by rw[e1];rfl) ⟨⟨_,ho3,?_,?_⟩,o2,(sb.2 S hne).trans ho2,hex2,hd2⟩ (λb o hb e=>(sb.2 b (λz=>hb (by simp[z]))).trans e)
  .exact(Obj.cls_mapFields ..).trans ((Obj.cls_mapFields ..).trans hc)
  .rw[d2];simp[rawInt]
 done:=λs Q E st hQ=>by
  obtain⟨x1,x2⟩:=st;have hT:=x1.typeIs;obtain⟨o,ho,hc,hd⟩:=x1;unfold pyNext;refine KE (U3 (SK (name:=Str.ofString "__next__") hT slot_setiter_next (R7 slot_setiter_next hT fx ?_ (fL _))));refine o5 ho hd x2 (md.fits T hs) rfl (mN x2 T hs hpl hle (QY _) ?_);have e1:(hI w S ep es)[es.size]?=none:=by simp[jI]
  rw[e1];show wpAny _ _ _ _ _ _;refine KE (Uk ho hd (by simp) ?_);refine KE ?_;simp only[newExc,newTuple];refine KE (R3 ?_ (by size_fits));refine KE (m:=firstArgMember _ _) (wpAny_of_eq (a:=Value.none) (by first|rfl|(simp only[firstArgMember];rfl)) ?_);refine R3 ?_ (by size_fits);simp only[raiseNew];refine KE (wpAny_handled ?_);rw[show A.in1.handled=none from hh];refine KE (QX (wpAny_throw ?_));refine KE (UX (T:="StopIteration") (b:=true) ⟨_,Rb _ rfl,rfl⟩ isSubtype_stop ?_);refine QX (hQ _ s.toks λb o hb e=>?_);exact QZ _ (QZ _ (((RZ ..).2 b (λz=>hb (by simp[z]))).trans e))
 self:=λ_ _ _ _ st hQ=>by refine Ua st.1.typeIs fM (R7 fM st.1.typeIs ji ?_ (jJ _));exact QX ⟨_,rfl,"set_iterator",_,st.1.typeIs,slot_setiter_next.lookup,hQ⟩
end
section
def uM(r:kH s.heap S es ep t)(b:t.fits es.size=true)(c:t.plain=true)
 (h:Q (.ref s.heap.objs.size) { s with heap:=s.heap.push { cls:=.type "set_iterator",data:=.fields #[.int 0 0,.int 0 0,.ref S,.int es.size 0,.int ep 0] } }):wpAny (model prog w) A (pyIter (.ref S)) Q E s:=by
 obtain⟨o,a,hex,hd⟩:=r;have d:s.TypeIs (.ref S) "set":=⟨o,a,hex.1⟩;refine Ua d PySem.F.slot_set_iter (R7 PySem.F.slot_set_iter d n_ ?_ (PySem.F.args_set_iter_1 _));unfold Builtin.«frozenset.__iter__» Builtin.Frozenset.slot0 slotArgs;simp only[List.isEmpty_nil,Ti,Ro,↓reduceIte,bind_assoc,T6,UN];unfold Builtin.Frozenset.addrOf Builtin.Frozenset.sizeOf setEntries;refine KE (QX (KE (QX ?_)));simp only[bind_assoc];refine KE (SF a hd b (KE (QX (KE (QX ?_)))));refine KE ?_;unfold setDrawn;refine KE (SF a hd b ?_);dsimp only;refine KE (uL (QX ?_));show wpAny _ _ (if(!byT w&&(!t.plain&&decide (es.size>1)))=true then _ else _) _ _ _;rw[c];simp only[Ti,UQ,Uh,Ro,Sx];refine KE (QX ?_);refine KE (wpAny_setEpoch_of a hd b ?_);exact KE (R3 (QX ⟨_,rfl,"set_iterator",_,⟨_,Rb _ rfl,rfl⟩,slot_setiter_next.lookup,h⟩))
def z_(a:s.TypeIs (.ref S) "set") (h:Q false s):wpAny (model prog w) A (Builtin.List.listLengthHint (.ref S)) Q E s:=by
 unfold Builtin.List.listLengthHint;refine KE (wpAny_specialOf a PySem.F.slot_set_len.lookup ?_);dsimp only;have b:splitId "set.__len__"=some ("set","__len__"):=by decide +kernel
 rw[b];dsimp only;refine KE (UX a sub_set_self ?_);simp only[Ti,Ro,Sx];rw[Re (by decide +kernel)];refine KE (T5 a ?_);exact QX h
def rP(r:kH s.heap S es ep t)(T:md t es)(I:t.place.size<=t.mask)(k:t.plain=true)(u:t.led=!byT w)(J:A.handled=none)(hz:es.size<=300)
 (h:∀h' tk,s.heap.objs.size<h'.objs.size->(∀b o,s.heap.get? b=some o->h'.get? b=some o)->Q ((hI w S ep es).toList.map (·.2)) {s with heap:=h',toks:=tk}):wpAny (model prog w) A (collect (.ref S)) Q E s:=by
 have K:=md.fits T I;obtain⟨o,x,hex,hd⟩:=r;have g:S<s.heap.objs.size:=Rc x;unfold collect;refine KE (wpAny_runValue (SW entry_proto_collect' (show wpAny _ _ (do again (.builtin "list.__iadd__" ⟨[<- newList [],.ref S],[]⟩)) _ _ s from ?_)));refine KE (U4 (QX ⟨Code.quiet_builtin _ (by decide +kernel),SW entry_list_iadd' ?_⟩));show wpAny _ _ (Builtin.List.listExtendWith (.ref s.heap.objs.size) (.ref S) (.ref s.heap.objs.size)) _ _ { s with heap:=s.heap.push (seqObj "list" #[] 0) };have j:(s.heap.push (seqObj "list" #[] 0)).get? S=some o:=QZ _ x;have y:Shared.TypeIs { s with heap:=s.heap.push (seqObj "list" #[] 0) } (.ref S) "set":=⟨o,j,hex.1⟩;unfold Builtin.List.listExtendWith;refine KE (T5 y ?_);have q1:Builtin.List.listSameRef (.ref s.heap.objs.size) (.ref S)=false:=by simp[Builtin.List.listSameRef,Ts g]
 have q2:(Value.type "set"==Value.type "list")=false:=by decide
 have L:(Value.type "set"==Value.type "tuple")=false:=by decide
 simp only[q1,q2,L,Bool.or_false,Ro,Sx];refine KE (uM ⟨o,j,hex,hd⟩ K k ?_);have z:Shared.TypeIs { s with heap:=(s.heap.push (seqObj "list" #[] 0)).push { cls:=.type "set_iterator",data:=.fields #[.int 0 0,.int 0 0,.ref S,.int es.size 0,.int ep 0] } } (.ref S) "set":=⟨o,QZ _ j,hex.1⟩;refine KE (Sk (z_ z ?_));rw[Re (by decide +kernel)];refine KE (U6 ?_);have l:((s.heap.push (seqObj "list" #[] 0)).push { cls:=.type "set_iterator",data:=.fields #[.int 0 0,.int 0 0,.ref S,.int es.size 0,.int ep 0] }).get? s.heap.objs.size=some (seqObj "list" #[] 0):=QZ _ (Rb _ rfl);refine KE (show wpAny _ _ (updateSeq s.heap.objs.size (·.push .none) >>= λ_=>updateSeq s.heap.objs.size (·.pop)) _ _ _ from ?_);refine KE (wpAny_updateSeq l rfl ?_);have m:=SJ (Obj.mapSeq (·.push Value.none)) l rfl;refine wpAny_updateSeq (hz:=by seq_fits) m rfl ?_;have B:=SJ (Obj.mapSeq (·.pop)) m rfl;generalize M:(((s.heap.push (seqObj "list" #[] 0)).push { cls:=.type "set_iterator",data:=.fields #[.int 0 0,.int 0 0,.ref S,.int es.size 0,.int ep 0] }).update s.heap.objs.size (Obj.mapSeq (·.push Value.none))).update s.heap.objs.size (Obj.mapSeq (·.pop))=C at *;have n:∀b o,b≠s.heap.objs.size->((s.heap.push (seqObj "list" #[] 0)).push { cls:=.type "set_iterator",data:=.fields #[.int 0 0,.int 0 0,.ref S,.int es.size 0,.int ep 0] }).get? b=some o->C.get? b=some o:=λb o hb e=>by rw[<- M];exact(Tp _ _ (Si hb)).trans ((Tp _ _ (Si hb)).trans e)
 have old:∀b o,s.heap.get? b=some o->C.get? b=some o:=λb o e=>n b o (Rt (Rc e)) (QZ _ (QZ _ e));have d:(s.heap.push (seqObj "list" #[] 0)).objs.size=s.heap.objs.size+1:=size_push' _ _;have D:C.get? (s.heap.objs.size+1)=some { cls:=.type "set_iterator",data:=.fields #[.int 0 0,.int 0 0,.ref S,.int es.size 0,.int ep 0] }:=n _ _ (by lia) (by rw[<- d];exact Rb _ rfl);refine QX ⟨Uy PySem.F.plain_extend_loop _,?_⟩;show codeAny _ _ (.builtin "list.extend.loop" ⟨[.ref s.heap.objs.size,.ref (s.heap.push (seqObj "list" #[] 0)).objs.size,.ref s.heap.objs.size],[]⟩) _ _;rw[d];have W:Walks prog w A.in1 (s.heap.objs.size+1) [s.heap.objs.size+1,S] [s.heap.objs.size+1] es.size (λi v=>((hI w S ep es)[i]?).map (·.2)=some v) (λi h=>SetIt h (s.heap.objs.size+1) S (cX w t i) i es.size ep/\kH h S es ep t):=oa (Rt (T_ g)) (by simp[J]) T I k u;refine codeAny_extend_loopS W.toS (by rw[RB];lia) s.heap.objs.size (by simp only[Q_,Rk,Ve,not_or];exact⟨Rt (SQ _),Ts g⟩) _ es.size 0 _ #[] _ rfl (Rh _) ⟨⟨_,D,rfl,rfl⟩,o,old S o x,hex,hd⟩ (by rw[B];rfl) (ItemsOf.nil _) λN a c hm p f=>?_;obtain⟨h',g',d',G,H⟩:=N;have O:g'=s.gens:=hm.gens;have P:d'=s.drawn:=hm.drawn;have R:H=s.os:=hm.os;subst O P R;refine KE (wpAny_load p ?_);have U:a.toList=(hI w S ep es).toList.map (·.2):=by
  apply Ub
  intro i;by_cases q:i<a.size
  .have e1:a.toList[i]?=some a[i]:=by rw[RH];simp[q]
   have e2:=f.2 i a[i] (by simp[q]);rw[e1,Rg,RH];exact e2.symm
  .rw[Td (by simpa using Nat.le_of_not_lt q),Td];rw[Q0,Sn,jI,<- f.1];exact Nat.le_of_not_lt q
 show wpAny _ _ (pure a.toList) _ _ _;rw[U];refine QX (h h' G (Rc p) λb o e=>hm.heap b o ?_ (old b o e));have:=Rc e;simp only[Q_,Rk,Ve,not_or];exact⟨Rt this,Rt (T_ this)⟩
end
noncomputable def dZ:List Int->List Int->Bool
 |[],[]=>false
 |[],_::_=>true
 |_::_,[]=>false
 |a::x,b::y=>if a=b then dZ x y else decide (a<b)
theorem v_:∀a:List Int,dZ a a=false
 |[]=>rfl
 |a::x=>by unfold dZ;rw[Re rfl];exact v_ x
theorem Aa:∀a b c:List Int,dZ a b=true->dZ b c=true->dZ a c=true
 |[],[],_,h,_=>by cases h
 |[],_::_,[],_,h=>by cases h
 |[],_::_,_::_,_,_=>rfl
 |_::_,[],_,h,_=>by cases h
 |_::_,_::_,[],_,h=>by cases h
 |a::x,b::y,c::z,h1,h2=>by
  unfold dZ at h1 h2 ⊢;by_cases e1:a=b
  .subst e1;rw[Re rfl]at h1;by_cases e2:a=c
   .subst e2;rw[Re rfl]at h2 ⊢;exact Aa x y z h1 h2
   .rw[Rf e2]at h2 ⊢;exact h2
  .grind
theorem wb:∀a b:List Int,a≠b->dZ a b=true\/dZ b a=true
 |[],[],h=>(h rfl).elim
 |[],_::_,_=>.inl rfl
 |_::_,[],_=>.inr rfl
 |a::x,b::y,h=>by
  unfold dZ;by_cases e:a=b
  .subst e;rw[Re rfl,Re rfl];exact wb x y λz=>h (by rw[z])
  .grind
section
variable{prog:Vy}{w:World}{A:VA}{s:Vw}
theorem wc:∀{a b:List Int}{xs f:List Vz}(i:Nat),ItemsAre (aO prog w) (iK a) xs->ItemsAre (aO prog w) (iK b) f->Q (dZ a b) s->PySem.W.KatLex prog w A true (decide (xs.length<f.length)) Q (xs.zip f) i s
 |[],[],_,_,i,c,d,h=>by cases c;cases d;exact h
 |[],_::_,_,_,i,c,d,h=>by
  cases c;cases d with
  |cons h1 h2=>exact PySem.W.kat_nil h
 |_::_,[],_,_,i,c,d,h=>by
  cases d;cases c with
  |cons h1 h2=>exact PySem.W.kat_nil h
 |a::x,b::y,_,_,i,c,d,h=>by
  cases c with
  |@cons _ n _ k h1 g=>
   cases d with
   |@cons _ v2 _ l h2 j=>
    obtain⟨o,rfl⟩:=lW h1;obtain⟨t2,rfl⟩:=lW h2;rw[List.zip_cons_cons];refine PySem.W.kat_cons (wpAny_eqBool_int ?_);unfold dZ at h;by_cases e:a=b
    .subst e;rw[Re rfl]at h;rw[beq_self_eq_true];refine PySem.W.kat_yes ?_;have:=wc (i+1) g j h;simpa using this
    .rw[Rf e]at h;have m:(a==b)=false:=by grind
     rw[m];refine PySem.W.kat_no ?_;cases i with
     |zero=>exact oneLt_int h
     |succ i=>exact PySem.W.kat_one _ _ (lt_int h)
structure qQ(prog:Vy) (w:World) (h:Heap) (xs:List i_):Prop where
 is:∀x∈xs,(tK prog w).is h (iK x.1) x.2
 ne:∀x∈xs,x.1≠[]
 nd:(xs.map (·.1)).Nodup
noncomputable def valsT(xs:List i_):List Vz:=xs.map λx=>Value.ref x.2
noncomputable def fO(xs:List i_)(i:Nat):List Int:=((xs[i]?).getD ([],0)).1
def DQ(t:qQ prog w s.heap xs):Lt xs.length λi j=>dZ (fO xs i) (fO xs j) where
 QL:=λi=>v_ _
 tr:=λi j k=>Aa _ _ _
 QN:=λi j hi hj e=>wb _ _ λz=>by
  have gi:fO xs i=(xs.map (·.1))[i]'(by simpa using hi):=by simp[fO,hi]
  have gj:fO xs j=(xs.map (·.1))[j]'(by simpa using hj):=by simp[fO,hj]
  rw[gi,gj]at z;rcases UA e with q|q
  .exact Rv.mp t.nd i j (by simpa using hi) (by simpa using hj) q z
  .exact Rv.mp t.nd j i (by simpa using hj) (by simpa using hi) q z.symm
def Ab(t:qQ prog w s.heap xs):DJ xs.length (λi j=>dZ (fO xs i) (fO xs j)) (kas_ask prog w A (tuples' true) (valsT xs)) s:=by intro i j C b c h;have one:∀k,k<xs.length->∃x,(valsT xs).getD k Value.none=.ref x.2/\fO xs k=x.1/\x∈xs:=λk a=>⟨xs[k],by simp[valsT,a],by simp[fO,a],List.getElem_mem a⟩;obtain⟨x,ex,d,e⟩:=one i b;obtain⟨y,f,g,l⟩:=one j c;unfold kas_ask;rw[ex,f];obtain⟨r,ix,nx,m,u,dx,n⟩:=t.is x e;obtain⟨v,z,B,o,D,p,q⟩:=t.is y l;refine PySem.W.kat_lt m dx o p ?_;have h:C (dZ (fO xs i) (fO xs j)) s:=h;rw[d,g]at h;have:=wc (A:=A) 0 n q h;simpa using this
theorem rQ:∀{xs:List i_},(∀x∈xs,(tK prog w).is h (iK x.1) x.2)->(∀x∈xs,x.1≠[])->∃fs:List Vz,PySem.W.KatTups h (valsT xs) fs/\fs.length=xs.length/\∀v∈fs,∃i t,v=Value.int i t
 |[],_,_=>⟨[],trivial,rfl,λv g=>nomatch g⟩
 |x::xs,h1,h2=>by
  obtain⟨fs,a,b,c⟩:=rQ (λy e=>h1 y (Q7 _ e)) λy e=>h2 y (Q7 _ e);obtain⟨m,ix,nx,j,o,dx,f⟩:=h1 x Q5;have d:=h2 x Q5;obtain⟨k,p⟩:=x;dsimp only at d f j;cases k with
  |nil=>exact(d rfl).elim
  |cons n ns=>
   generalize q:ix.toList=l at f;cases f with
   |@cons _ v _ vs q1 q2=>
    obtain⟨t,rfl⟩:=lW q1;refine⟨.int n t::fs,⟨⟨p,m,ix,nx,rfl,j,o,dx,?_⟩,a⟩,by simp[b],λv g=>?_⟩
    .rw[<- RH,q];rfl
    .grind
def xE(t:qQ prog w s.heap xs)(d:0<xs.length)(h:Q (tuples' true) s):wpAny (model prog w) A (keyKind' (valsT xs).toArray) Q E s:=by
 obtain⟨fs,a,b,c⟩:=rQ t.is t.ne;refine PySem.W.kat_kind (T:=.type "int") a (by lia) (λv e=>?_) (by decide) ?_
 .obtain⟨i,t,rfl⟩:=c v e;exact λA Q E s k q=>QX q
 .have:(Value.type "int" != Value.type "tuple")=true:=by decide
  rw[this];exact h
end
noncomputable def hJ{α:Type}(d:α)(xs:List α)(i:Nat):α:=(xs[i]?).getD d
section
variable{α β:Type}
def mP(d:α)(xs:List α):(List.range xs.length).map (hJ d xs)=xs:=by
 apply Ub
 intro i;rw[Rg];by_cases h:i<xs.length
 .rw[U_ h,Q1 h];simp[hJ,h]
 .rw[Td (by grind),Td (by grind)];rfl
def o6(d:α)(pm:Pm xs.length p):(p.toList.map (hJ d xs)).Perm xs:=by have:=List.Perm.map (hJ d xs) pm;rw[mP]at this;exact this
def we{r:α->α->Bool}(pm:Pm xs.length p)(so:So (λi j=>r (hJ d xs i) (hJ d xs j)) p xs.length):(p.toList.map (hJ d xs)).Pairwise λx y=>r x y=true:=by
 rw[Sw,Rv];intro i j g h b;have c:i<p.size:=by grind
 have a:j<p.size:=by grind
 have:=so i j b (by rw[<- pm.size];exact a);dsimp only at this;have e:cD p i=p.toList[i]:=by simp[cD,Array.getD,c]
 have f:cD p j=p.toList[j]:=by simp[cD,Array.getD,a]
 rw[e,f]at this;exact this
def rR{f:α->β}{e:β}(d:α)(pm:Pm xs.length p):(p.toList.map λi=>(xs.map f).getD i e)=(p.toList.map (hJ d xs)).map f:=by rw[Sf];refine Sz λi a=>?_;have a:i<xs.length:=RG.mp (pm.mem_iff.mp a);simp[hJ,a]
end
section
def qQ.off(t:qQ prog w h xs)(d:h.get? a=some o)(f:o.cls=.type "list") (k:∀b o,b≠a->h.get? b=some o->h'.get? b=some o):qQ prog w h' xs:=by refine⟨λx g=>?_,t.ne,t.nd⟩;obtain⟨c,ix,nx,h1,c1,r⟩:=t.is x g;refine⟨c,ix,nx,k x.2 c (λe=>?_) h1,c1,r⟩;rw[e,d]at h1;cases h1;rw[f]at c1;exact absurd c1 (by decide)
def rS{a:Addr}{n:Nat}{vs:List Vz}{κ:SortKind}{lt:Nat->Nat->Bool}{P:PySem.Fin->Vw->Prop}(m:s.heap.get? a=some (seqObj "list" vs.toArray n)) (y:vs.length<64)
 (z:∀H,(∀b o,b≠a->s.heap.get? b=some o->H.get? b=some o)->2<=vs.length->(∀Q,Q κ {s with heap:=H}->wpAny (model prog w) A (keyKind' vs.toArray) Q E {s with heap:=H})/\Lt vs.length lt/\DJ vs.length lt (kas_ask prog w A κ vs) {s with heap:=H})
 (h:∀p h' c,Pm vs.length p->So lt p vs.length->h'.get? a=some (seqObj "list" (p.toList.map λi=>vs.getD i Value.none).toArray c)->(∀b o,b≠a->s.heap.get? b=some o->h'.get? b=some o)->P (.done (.ret .none)) {s with heap:=h'}) :
 wpAny (model prog w) A (Builtin.«list.sort» ⟨[.ref a],[]⟩) P E s:=by
 rw[list_sort_plain];refine KE (listItems_at m rfl (KE (listUpdate_at m rfl ?_ (by rw[Ra,RB];lia) (Rh _))));obtain⟨e1,q⟩ : ∃e1,(s.heap.update a (Obj.mapSeq λ_=>#[])).get? a=some (seqObj "list" #[] e1):=⟨_,get?_update_seq m (λ_=>#[])⟩;refine KE (seqEpoch_at q rfl (KE (wpAny_newTuple (KE (U4 (Sk ?_) (Rh _))) (by show vs.length<=_;rw[RB];lia))));have k:∀b o,b≠a->s.heap.get? b=some o->(((s.heap.update a (Obj.mapSeq λ_=>(#[]:Array Vz))).push (seqObj "tuple" vs.toArray 0)).push (seqObj "list" #[] 0)).get? b=some o:=λb o hb e=>QZ _ (QZ _ ((Tp _ _ (Si hb)).trans e));have d:(((s.heap.update a (Obj.mapSeq λ_=>(#[]:Array Vz))).push (seqObj "tuple" vs.toArray 0)).push (seqObj "list" #[] 0)).get? a=some (seqObj "list" #[] e1):=QZ _ (QZ _ q);show wpAny (model prog w) A _ P E { s with heap:=((s.heap.update a (Obj.mapSeq λ_=>(#[]:Array Vz))).push (seqObj "tuple" vs.toArray 0)).push (seqObj "list" #[] 0) };generalize(((s.heap.update a (Obj.mapSeq λ_=>(#[]:Array Vz))).push (seqObj "tuple" vs.toArray 0)).push (seqObj "list" #[] 0))=r at d k;dsimp only;have t:∀(p:Array Nat)(out:Array Vz),Pm vs.length p->So lt p vs.length->out=(p.toList.map λi=>vs.getD i Value.none).toArray->P (.done (.ret .none)) {s with heap:=r.update a (Obj.mapSeq λ_=>out)}:=λp out B C m=>by subst m;exact h p _ _ B C (get?_update_seq d λ_=>(p.toList.map λi=>vs.getD i Value.none).toArray) λb o hb e=>(Tp _ _ (Si hb)).trans (k b o hb e)
 by_cases h2:vs.toArray.size<2
 .rw[Re h2,Re h2];refine KE (QX ?_);rw[StateT.run_pure];have l:vs.length<2:=by grind
  have j:Array.map (λx:Keyed=>x.2) (vs.toArray.zip vs.toArray)=vs.toArray:=by apply Array.ext';simp[List.map_snd_zip]
  refine KE (QX ?_);dsimp only;refine KE (seqEpoch_at d rfl (KE (listUpdate_at d rfl ?_ (Rh _) ?_)))
  .simp only[UN,Ro,Sx];refine QX (t (List.range vs.length).toArray _ (Tl _) (λa b h1 h2=>by lia) (j.trans ?_));rw[show(λi=>vs.getD i Value.none)=hJ Value.none vs from funext λi=>by simp[hJ]];show _=(List.map _ (List.range vs.length)).toArray;rw[mP]
  .show(Array.map (λx:Keyed=>x.2) (vs.toArray.zip vs.toArray)).size<=_;rw[j,Ra,RB];lia
 .rw[Rf h2,Rf h2];have l:2<=vs.length:=by grind
  obtain⟨k1,k2,k3⟩:=z r k l;refine KE (k1 _ ?_);refine KE (S3 (PySem.W.kat_run (s:={s with heap:=r}) (Q:=λf u=>u={s with heap:=r}/\∃p:Array Nat,Pm vs.length p/\So lt p vs.length/\arrOf f=p.map (PySem.W.kas_item (vs.toArray.zip vs.toArray))/\failedOf f=none)
   (G:=λp u=>u={s with heap:=r}/\Pm vs.length p/\So lt p vs.length) rfl (by lia) (by lia) (λp f u _ D F g=>⟨g.1,p,g.2.1,g.2.2,D,F⟩) ?_) ?_ λ_ _ e=>e)
  .exact DM k2 k3 l λp pm so=>⟨rfl,pm,so⟩
  .rintro⟨⟨⟩,f⟩ u ⟨rfl,p,pm,so,v,I⟩;dsimp only;rw[PySem.W.kat_snds rfl v];refine KE (seqEpoch_at d rfl (KE (listUpdate_at d rfl ?_ (Rh _) ?_)))
   .rw[I];simp only[UN,Ro,Sx];exact QX (t _ _ pm so rfl)
   .have:=pm.size;simp[this];rw[RB];lia
def o7(m:s.heap.get? a=some (seqObj "list" (valsT xs).toArray n)) (t:qQ prog w s.heap xs) (u:xs.length<64)
 (h:∀f h' c,f.Perm xs->f.Pairwise (λx y=>dZ x.1 y.1=true)->h'.get? a=some (seqObj "list" (valsT f).toArray c)->(∀b o,b≠a->s.heap.get? b=some o->h'.get? b=some o)->P (.done (.ret .none)) {s with heap:=h'}) :
 wpAny (model prog w) A (Builtin.«list.sort» ⟨[.ref a],[]⟩) P E s:=by
 have d:(valsT xs).length=xs.length:=by simp[valsT]
 refine rS (κ:=tuples' true) (lt:=λi j=>dZ (fO xs i) (fO xs j)) m (by lia) (λH g h2=>?_) λp h' c pm so e k=>?_
 .have l:qQ prog w H xs:=t.off m rfl g;rw[d];exact⟨λQ q=>xE (s:={s with heap:=H}) l (by lia) q,DQ (s:={s with heap:=H}) l,Ab (s:={s with heap:=H}) l⟩
 .rw[d]at pm so;exact h (p.toList.map (hJ ([],0) xs)) h' c (o6 _ pm) (we (r:=λx y=>dZ x.1 y.1) pm so) (by rw[e];unfold valsT;rw[rR ([],0) pm]) k
def wf(prog:Vy)(w:World)(N:Nat):Prop:=∀(A:VA)(E:Vz->Vw->Prop)(s:Vw)(a:Addr)(n:Nat)(xs:List i_)(P:PySem.Fin->Vw->Prop),s.heap.get? a=some (seqObj "list" (valsT xs).toArray n)->qQ prog w s.heap xs->xs.length<=N->
 (∀d h' c,d.Perm xs->d.Pairwise (λx y=>dZ x.1 y.1=true)->h'.get? a=some (seqObj "list" (valsT d).toArray c)->(∀b o,b≠a->s.heap.get? b=some o->h'.get? b=some o)->P (.done (.ret .none)) {s with heap:=h'})->wpAny (model prog w) A (Builtin.«list.sort» ⟨[.ref a],[]⟩) P E s
def DR:wf prog w 63:=λ_ _ _ _ _ _ _ a t hz h=>o7 a t (by lia) h
end
section
variable{κ μ:Type}{its:List (κ×μ)}
theorem mQ:∀(l:List (Int×Vz)),(∀e∈l,∃x∈its,e=ent x)->∃zs:List (κ×μ),l=zs.map ent/\∀z∈zs,z∈its
 |[],_=>⟨[],rfl,λz hz=>nomatch hz⟩
 |e::l,h=>by
  obtain⟨x,a,rfl⟩:=h e Q5;obtain⟨zs,h1,h2⟩:=mQ l λe b=>h e (Q7 _ b);exact⟨x::zs,by rw[h1];rfl,λz hz=>by
   rcases Q_.mp hz with rfl|hz
   .exact a
   .exact h2 z hz⟩
structure nR(lt:κ->κ->Prop) (its ys:List (κ×μ)):Prop where
 sub:∀y∈ys,y∈its
 all:∀x∈its,∃y∈ys,y.1=x.1
 pw:ys.Pairwise λx y=>lt x.1 y.1
def GW(prog:Vy)(w:World)(hb:Heap)(ent:κ×μ->Int×Vz)(lt:κ->κ->Prop)(its:List (κ×μ)) (N:Nat):Prop:=∀(A:VA)(E:Vz->Vw->Prop)(s:Vw)(a:Addr)(n:Nat)(zs:List (κ×μ))(P:PySem.Fin->Vw->Prop),(∀b o,hb.get? b=some o->s.heap.get? b=some o)->s.heap.get? a=some (seqObj "list" (zs.map λz=>(ent z).2).toArray n)->(∀z∈zs,z∈its)->(zs.map (·.1)).Nodup->zs.length<=N->
 (∀(d:List (κ×μ)) h' c,d.Perm zs->d.Pairwise (λx y=>lt x.1 y.1)->h'.get? a=some (seqObj "list" (d.map λz=>(ent z).2).toArray c)->(∀b o,b≠a->s.heap.get? b=some o->h'.get? b=some o)->P (.done (.ret .none)) {s with heap:=h'})->wpAny (model prog w) A (Builtin.«list.sort» ⟨[.ref a],[]⟩) P E s
def jK(sa:SetAt w s.heap S es)(v:d7 ent es its)(un:CT ent its)(G:A.handled=none)(Y:N<=300)(H:GW prog w s.heap ent lt its N)(hz:its.length<=N)
 (h:∀(d:List (κ×μ)) h' tk l c,nR lt its d->d.length<=N->s.heap.objs.size<=l->h'.get? l=some (seqObj "list" (d.map λz=>(ent z).2).toArray c)->(∀b o,s.heap.get? b=some o->h'.get? b=some o)->Q (.ref l) {s with heap:=h',toks:=tk}) :
 wpAny (model prog w) A (call (.builtin "sorted") [.ref S]) Q E s:=by
 obtain⟨o,ep,t,I,hex,hd,T,sp,j,k⟩:=sa;have n:=rO w S ep es;have J:=v.sz;obtain⟨zs,i,f⟩:=mQ (ent:=ent) (its:=its) (hI w S ep es).toList λe K=>v.el e (n.mem_iff.mp K);have L:(hI w S ep es).toList.map (·.2)=zs.map λz=>(ent z).2:=by rw[i,Sf];rfl
 have p:zs.length=es.size:=by have:=Sy List.length i;rw[Q0,Sn,jI]at this;exact this.symm
 have nd:(zs.map (·.1)).Nodup:=by have pw:=(n.pairwise_iff (λ{x y} q a b e1 e2 M m2 z=>q b a e2 e1 m2 M z.symm)).mpr v.pw;rw[i,Sw]at pw;unfold List.Nodup;rw[Sw];exact SV (λ{a b} ha hb r=>r a b rfl rfl (f a ha) (f b hb)) pw
 refine Calls.call_function_entry kind_sorted plain_sorted entry_sorted (args_sorted1 _) ?_;unfold Builtin.«sorted»;refine KE (m:=checkCount "sorted" 1 1 _) (QX (KE (rP ⟨o,I,hex,hd⟩ T (fw sp) j k (by simp[G]) (by lia) λh1 tk1 g1 k1=>?_)));rw[L];refine KE (U4 ?_ (by rw[Q0,p,RB];lia));have g:(h1.push (seqObj "list" (zs.map λz=>(ent z).2).toArray 0)).get? h1.objs.size=some (seqObj "list" (zs.map λz=>(ent z).2).toArray 0):=Rb _ rfl;have C:∀b o,s.heap.get? b=some o->(h1.push (seqObj "list" (zs.map λz=>(ent z).2).toArray 0)).get? b=some o:=λb o e=>QZ _ (k1 b o e);have ge:s.heap.objs.size<=h1.objs.size:=SG g1;refine KE (Sk (R7 slot_list_sort ⟨_,g,rfl⟩ entry_list_sort (H _ _ { s with heap:=h1.push (seqObj "list" (zs.map λz=>(ent z).2).toArray 0),toks:=tk1 } _ _ zs _ C g f nd (by lia) λd h2 c2 u O B k2=>⟨_,rfl,?_⟩) (args_list_sort _)));refine QX ⟨_,rfl,h d h2 tk1 _ c2 ⟨λy P=>f y (u.mem_iff.mp P),λx R=>?_,O⟩ (by rw[u.length_eq];lia) ge B λb o e=>k2 b o (λz=>?_) (C b o e)⟩
 .obtain⟨y,U,V,W⟩:=v.all x R;have D:=n.mem_iff.mpr W;rw[i]at D;obtain⟨z,F,X⟩:=Q3.mp D;exact⟨z,u.mem_iff.mpr F,(un z (f z F) y U X).trans V⟩
 .subst z;exact absurd (Rc e) (Nat.not_lt.mpr ge)
end
def TupsIn(H:Hp):List V->List i_->Prop:=Paired λv x=>v=.ref x.2/\H x.2=some (.tup ((iK x.1).map kV))
theorem TupsIn.get(t:TupsIn H vs its)(d:Vals vs us):its.length=us.length/\(∀(i:Nat)(v:Vz),us[i]?=some v->∃x:i_,its[i]?=some x/\v=.ref x.2)/\∀x∈its,H x.2=some (.tup ((iK x.1).map kV)):=by
 unfold TupsIn at t;induction t generalizing us with
 |nil=>cases d;exact⟨rfl,λi v e=>by simp at e,λx hx=>nomatch hx⟩
 |@cons v y vs its q t f=>
  cases d with
  |@cons _ u _ us r s=>
   obtain⟨a,b,c⟩:=f s;obtain⟨rfl,q⟩:=q;obtain rfl:u=Value.ref y.2:=r;refine⟨by simp[a],λi v e=>?_,λx hx=>?_⟩
   .cases i with
    |zero=>simp at e;exact⟨y,rfl,e.symm⟩
    |succ i=>exact b i v e
   .rcases Q_.mp hx with rfl|hx
    .exact q
    .exact c x hx
section
def xF(g:X.calm=true)(E:X.A.units+64<cLine):CallR X (.type "set") (λxs H Q=>∃l vs its,xs=[.ref l]/\Rd H l (.lst vs)/\TupsIn H vs its/\vs.length<=300/\
 ∀p es,H p=none->d7 (eT X.prog X.w) es its->Q (.ref p) (upd H p (.ext λh=>SetAt X.w h p es))):=by
 intro ac s σ H xs us Q I r h;obtain⟨l,vs,its,rfl,j,m,hz,q⟩:=h;obtain⟨u,rfl,ru⟩:=dR r;obtain rfl:u=Value.ref l:=ru;obtain⟨_,us,n,d,t⟩:=(show ObjOk X.prog X.w H s.heap l (.lst vs)from j.ok I.aW);obtain⟨g1,g2,y⟩:=m.get d;have c:=λx z=>dc I.aW (y x z);refine oZ (ent:=eT X.prog X.w) (I.ok.hd g) t (its:=its) (by grind) (by rw[Ra,<- d.length];exact hz) (λi v e=>g2 i v (by grind)) (DO c) (DP (by show X.A.units+1+1+1<cLine;lia) c) λh' tk es f v B=>?_;have C:H s.heap.objs.size=none:=I.aW.fresh (QY _);refine⟨.ref s.heap.objs.size,_,I.laid (a:=s.heap.objs.size) (o:=.ext λh=>SetAt X.w h s.heap.objs.size es) (t':=tk) (λb o e=>B b o (Rc e) e) (QY _) ?_,rfl,q _ es C v⟩;exact⟨f,(let ⟨o,_,_,e,_⟩:=f;⟨o,e⟩),λh1 h2 D k=>SetAt.keep D k⟩
def pW(m:X.calm=true)(t:N<=300)(z:wf X.prog X.w N):CallR X (.builtin "sorted") (λxs H Q=>∃p es its,xs=[.ref p]/\H p=some (.ext λh=>SetAt X.w h p es)/\d7 (eT X.prog X.w) es its/\(∀x∈its,H x.2=some (.tup ((iK x.1).map kV)))/\(∀x∈its,x.1≠[])/\its.length<=N/\
 ∀l b,H l=none->nR (λx y=>dZ x y=true) its b->Q (.ref l) (upd H l (.lst (b.map λy=>.ref y.2)))):=by
 intro ac s σ H xs us Q I r h;obtain⟨p,es,its,rfl,B,v,C,g,hz,q⟩:=h;obtain⟨u,rfl,ru⟩:=dR r;obtain rfl:u=Value.ref p:=ru;obtain⟨D,_,_⟩:=(show ObjOk X.prog X.w H s.heap p (.ext λh=>SetAt X.w h p es)from I.aW p _ B);have d:=λx e=>dc I.aW (C x e);refine jK D v (DO d) (I.ok.hd m) t (lt:=λx y=>dZ x y=true) (λA E s a n zs P F G j nd hz h=>z A E s a n zs P G ⟨λx e=>iD (d x (j x e)) F,λx e=>g x (j x e),nd⟩ hz h) hz λb h' tk l c so i f k J=>?_;refine⟨.ref l,_,I.laid (a:=l) (o:=.lst (b.map λy=>.ref y.2)) (t':=tk) J f ⟨by rw[Q0,RB];lia,_,c,?_,k⟩,rfl,q l b (I.aW.fresh f) so⟩;clear so k i;induction b with
 |nil=>exact .nil
 |cons y b K=>exact .cons rfl K
end
end L2
namespace L2
open PySem PySem.Spec PySem.Calls PyProof.Rows ST
section
def DS(T:md t es)(sp:i9 t)(h:Int)(x:Vz):∃j,j∉t.place.toList/\j<=t.mask/\Rea t.mask (·∈ t.place.toList) h j/\layNew t es h x=(SetTable.insertAt es (t.put j).2 (h,x),(t.put j).1,false,false):=by
 have o:=fw sp;have f:=mI T.tb o (λ_=>h+1) h (Va.st t.mask h);have c:t.probeStart h=st t.mask h:=rfl;generalize p:t.probe (λ_=>h+1) h (st t.mask h)=m at f;cases f with
 |ca n i r e q b=>exact absurd q (by lia)
 |em n e b=>
  have g:Rea t.mask (·∈ t.place.toList) h (it t.mask n (st t.mask h)).j:=⟨n,rfl,λk s=>by obtain⟨i,r,q,_⟩:=b k s;show _∈t.place.toList;rw[<- q];simp⟩;have a:(it t.mask n (st t.mask h)).j<=t.mask:=((Va.st t.mask h).it).Pw;refine⟨_,e,a,g,?_⟩;obtain⟨u,em,y⟩:=uI T e a (v:=x) g;have w:(t.put (it t.mask n (st t.mask h)).j).2<=es.size:=by rw[lV,<- T.len];exact(cW _ T.tb.tX).1
  have d:(t.put (it t.mask n (st t.mask h)).j).1.place.size<=(t.put (it t.mask n (st t.mask h)).j).1.mask:=by grind [i9]
  have l:=md.fits u d;unfold layNew SetTable.freeSlot;rw[c,p];dsimp only[Option.getD,Option.isSome];unfold SetTable.orStandIn;rw[Re l,l];rfl
def xG(hm:t_ m)(d:SetTable.sizeAbove n=m+1)(c:es.size<=m):∃b t',relayAll t es n=(b,t',false)/\Laid m es b t'/\t'.led=t.led/\t'.plain=t.plain:=by
 obtain⟨t',a,e,L,h1,h2,f⟩:=rM hm es c t.finger (t.movedTo m) t.led t.plain;refine⟨_,t',?_,L,h1,h2⟩;have er:t.relaid (es.map (·.1)) n=some (t',a):=by unfold SetTable.relaid;rw[d];exact e
 unfold relayAll;rw[er];dsimp only;have g:coversAll a es.size=true:=by unfold coversAll;exact List.isPerm_iff.mpr f
 have h:t'.fits (a.filterMap (es[·]?)).size=true:=md.fits L.tV (by rw[L.tV.len,L.mask,L.size];exact c);rw[g,h];rfl
end
section
def DT(M:SetAt w s.heap a es)(el:ElemsOf (intKind prog w) es.toList)(hz:es.size+1<=300)
 (h1:∀tk,s.toks<=tk->(∃e∈es.toList,(intKind prog w).is i e.2=true)->Q false {s with toks:=tk})
 (h2:∀tk h' c,s.toks<=tk->(∀e∈es.toList,(intKind prog w).is i e.2=false)->Heap.SameBut a s.heap h'->SetAt w h' a c->lG es c ((intKind prog w).hash i,.int i t0)->Q true {s with heap:=h',toks:=tk}) :
 wpAny (model prog w) A (setAdd a (.int i t0)) Q E s:=by
 obtain⟨o,ep,t,q,hex,hd,T,sp,r,u⟩:=M;have F:=md.fits T (fw sp);have G:=intKind_is prog w i t0;have n:(Value.int i t0).scannable=true:=rfl;unfold setAdd;refine Sk ?_;refine KE ((intKind prog w).pyHash (k:=i) G ?_);have f:s.toks<=s.toks+1:=Vj _;generalize s.toks+1=tk at f;unfold setAddHashed setAddHashedIn;refine Sk (KE (SF (s:={s with toks:=tk}) q hd F ?_));dsimp only;rw[byScan_of n (by unfold scanBound;lia) el];simp only[TB];unfold setAddByScan;refine KE ?_;refine KE (U6 ?_);refine KE (wpAny_setScan_of (s:={s with toks:=tk}) G q hd F el ?_);cases H:List.findIdx? (λe=>(intKind prog w).is i e.2) es.toList with
 |some j=>dsimp only;obtain⟨x,y,_⟩:=Tv.mp H;exact QX (QX (h1 tk f ⟨_,List.getElem_mem x,y⟩))
 |none=>
  dsimp only;have h:∀e∈es.toList,(intKind prog w).is i e.2=false:=λe N=>by have:=List.findIdx?_eq_none_iff.mp H e N;simpa using this
  obtain⟨j,x,z,O,p⟩:=DS T sp ((intKind prog w).hash i) (.int i t0);obtain⟨I,em,J⟩:=uI T x z (v:=Value.int i t0) O;have d:(t.put j).1.plain=true:=by rw[jH T.tb];exact r
  have l:(t.put j).1.led=!byT w:=by rw[jH T.tb];exact u
  rw[p];dsimp only;refine KE (show wpAny _ _ (pure ()) _ _ _ from QX ?_);rw[d];simp only[TB];rw[hashByValue_scannable 8 n];refine KE (QX ?_);rw[show plainKind (Value.int i t0)=true from rfl];simp only[TB];have P:(t.put j).2<=es.size:=by rw[lV,<- T.len];exact(cW j T.tb.tX).1
  have g:=oY es (t.put j).2 ((intKind prog w).hash i,Value.int i t0) P;refine KE (UM (s:={s with toks:=tk}) q hd ?_ (by rw[g.size,RB];lia));obtain⟨o1,q1,q2,B⟩:=iF (SetTable.insertAt es (t.put j).2 ((intKind prog w).hash i,Value.int i t0)) (t.put j).1 q hex hd;have K:=RZ s.heap a (Obj.putSet (SetTable.insertAt es (t.put j).2 ((intKind prog w).hash i,Value.int i t0)) (t.put j).1);have fill:(t.put j).1.fill=es.size+1:=by unfold SetTable.fill;rw[I.tb.JP,J,T.len];rfl
  by_cases b:(t.put j).1.tooFull=true
  .rw[b];simp only[Bool.not_false,Vk,TB];unfold SetTable.tooFull at b;rw[fill,em]at b;have b:(es.size+1)*5>=t.mask*3:=by simpa using b
   have C:es.size*5<t.mask*3:=by rw[<- T.len];exact sp
   obtain⟨m,R,m2,S⟩:=mL T.tb.kI C b hz;rw[g.size];obtain⟨c,t',D,L,U,V⟩:=xG (t:=(t.put j).1) (es:=SetTable.insertAt es (t.put j).2 ((intKind prog w).hash i,Value.int i t0)) m2 R (by rw[g.size];lia);rw[D];dsimp only;refine KE (show wpAny _ _ (pure ()) _ _ _ from QX ?_);refine KE (UM q1 B ?_ (by rw[L.size,g.size,RB];lia));obtain⟨W,X,Y,Z⟩:=iF c t' q1 q2 B;refine QX (QX (h2 tk _ c f h (K.trans (RZ _ a _)) ⟨W,_,_,X,Y,Z,L.tV,?_,by rw[V];exact d,by rw[U];exact l⟩ (g.laid L)));unfold i9;rw[L.tV.len,L.mask,L.size,g.size];exact S
  .have b:(t.put j).1.tooFull=false:=by simpa using b
   rw[b];simp only[Uh,Ro,Sx];refine QX (QX (h2 tk _ _ f h K ⟨o1,_,_,q1,q2,B,I,?_,d,l⟩ g));unfold SetTable.tooFull at b;unfold i9;rw[fill]at b;rw[J,T.len];simpa using b
end
section
noncomputable abbrev rT:=Int×Tok
noncomputable abbrev eI(prog:Vy)(w:World)(x:rT):Int×Vz:=((intKind prog w).hash x.1,.int x.1 x.2)
def isI:(intKind prog w).is k (.int j t)=true↔k=j:=by
 constructor
 .intro h;by_cases e:k=j
  .exact e
  .have h2:=intKind_is prog w j t;exact absurd ((intKind prog w).inj _ _ _ h h2) e
 .rintro rfl;exact intKind_is prog w k t
def J8:CT (eI prog w) its:=λx _ y _ e=>by injection e with _ e;injection e
def DU:v8 prog w A hb S (eI prog w) its:=λx xs s es Q E n o K h v hz h1 h2=>by
 refine DT h (λe c=>?_) hz (λtk t a=>h1 tk t ?_) λtk h' d t b i sa g=>h2 tk h' d t (λa=>?_) i sa g
 .obtain⟨y,_,rfl⟩:=v.el e c;exact⟨⟨y.1,intKind_is prog w y.1 y.2,rfl⟩,rfl⟩
 .obtain⟨e,c,j⟩:=a;obtain⟨y,f,rfl⟩:=v.el e c;exact⟨y,f,(isI.mp j).symm⟩
 .obtain⟨y,f,k⟩:=a;obtain⟨z,p,l,m⟩:=v.all y f;have:=b _ m;rw[isI.mpr (l.trans k).symm]at this;cases this
end
section
def J9(r:Vals (xs.map V.int) us):∃its:List rT,its.map (·.1)=xs/\us=its.map λz=>Value.int z.1 z.2:=by
 induction xs generalizing us with
 |nil=>cases r;exact⟨[],rfl,rfl⟩
 |cons x xs a=>
  cases r with
  |cons q h=>obtain⟨t,rfl⟩:=q;obtain⟨its,rfl,rfl⟩:=a h;exact⟨(x,t)::its,rfl,rfl⟩
def uN(d:X.calm=true):CallR X (.type "set") (λvs H Q=>∃l xs,vs=[.ref l]/\Rd H l (.lst (xs.map V.int))/\xs.length<=300/\∀p es its,H p=none->its.map (·.1)=xs->d7 (eI X.prog X.w) es its->Q (.ref p) (upd H p (.ext λh=>SetAt X.w h p es))):=by
 intro ac s σ H vs us Q I r h;obtain⟨l,xs,rfl,f,hz,q⟩:=h;obtain⟨u,rfl,ru⟩:=dR r;obtain rfl:u=Value.ref l:=ru;obtain⟨_,us,n,g,j⟩:=(show ObjOk X.prog X.w H s.heap l (.lst (xs.map V.int))from f.ok I.aW);obtain⟨its,rfl,rfl⟩:=J9 g;rw[Q0]at hz;refine oZ (ent:=eI X.prog X.w) (I.ok.hd d) j (its:=its) (by simp) (by simpa using hz) (λi v e=>?_) J8 DU λh' tk es c v m=>?_
 .simp only[List.getElem?_toArray,Rg,Ss]at e;obtain⟨x,h1,h2⟩:=e;exact⟨x,h1,h2.symm⟩
 .refine⟨.ref s.heap.objs.size,_,I.laid (a:=s.heap.objs.size) (o:=.ext λh=>SetAt X.w h s.heap.objs.size es) (t':=tk) (λb o e=>m b o (Rc e) e) (QY _) ?_,rfl,q _ es its (I.aW.fresh (QY _)) rfl v⟩;exact⟨c,(let ⟨o,_,_,e,_⟩:=c;⟨o,e⟩),λh1 h2 t k=>SetAt.keep t k⟩
end
noncomputable def hV(zs:List rT):List Vz:=zs.map λz=>Value.int z.1 z.2
section
theorem rU:∀zs:List rT,IntsAre (hV zs) (zs.map (·.1))
 |[]=>.nil
 |z::zs=>.cons _ _ (rU zs)
def xH{P:PySem.Fin->Vw->Prop}(u:s.heap.get? a=some (seqObj "list" (hV zs).toArray n)) (nd:(zs.map (·.1)).Nodup) (hz:zs.length<=63)
 (h:∀t h' c,t.Perm zs->t.Pairwise (λx y=>x.1<y.1)->h'.get? a=some (seqObj "list" (hV t).toArray c)->(∀b o,b≠a->s.heap.get? b=some o->h'.get? b=some o)->P (.done (.ret .none)) {s with heap:=h'}) :
 wpAny (model prog w) A (Builtin.«list.sort» ⟨[.ref a],[]⟩) P E s:=by
 have d:(hV zs).length=zs.length:=by simp[hV]
 have at_:∀k (m:k<zs.length),hJ (0,0) zs k=zs[k]:=λk m=>by simp[hJ,m]
 refine rS (κ:=oneType') (lt:=λi j=>decide ((hJ (0,0) zs i).1<(hJ (0,0) zs j).1)) u (by lia) (λH v h2=>⟨λQ q=>?_,⟨λi=>by simp,λi j k=>by grind,λi j g l e=>?_⟩,λi j C g l q=>?_⟩) λp h' c pm so e k=>?_
 .have f:keyKind' (hV zs).toArray=pure oneType':=by
   match zs,(show 2<=zs.length by lia)with
   |z1::z::r,_=>exact keyKind_ints (rU (z1::z::r))
  rw[f];exact QX q
 .rw[d]at g l;rw[at_ i g,at_ j l];rcases UA e with q|q
  .have:=Rv.mp nd i j (by grind) (by grind) q;grind
  .have:=Rv.mp nd j i (by grind) (by grind) q;grind
 .rw[d]at g l;unfold kas_ask;have one:∀k (m:k<zs.length),(hV zs).getD k Value.none=.int zs[k].1 zs[k].2:=λk m=>by simp[hV,m]
  rw[one i g,one j l,keyLt'_oneType];dsimp only at q;rw[at_ i g,at_ j l]at q;exact oneLt_int q
 .rw[d]at pm so;refine h (p.toList.map (hJ (0,0) zs)) h' c (o6 _ pm) ((we (r:=λx y=>decide (x.1<y.1)) pm so).imp λh=>Rr h) ?_ k;rw[e];unfold hV;rw[rR (0,0) pm]
end
section
theorem o8:∀a:List rT,Vals (a.map λy=>V.int y.1) (hV a)
 |[]=>.nil
 |y::a=>.cons ⟨y.2,rfl⟩ (o8 a)
def oe(f:X.calm=true):CallR X (.builtin "sorted") (λvs H Q=>∃p es its,vs=[.ref p]/\H p=some (.ext λh=>SetAt X.w h p es)/\d7 (eI X.prog X.w) es its/\its.length<=63/\
 ∀(l:Addr)(ks:List Int),H l=none->(∀k,k∈ks↔k∈its.map (·.1))->ks.Pairwise (·< ·)->Q (.ref l) (upd H l (.lst (ks.map V.int)))):=by
 intro ac s σ H vs us Q I r h;obtain⟨p,es,its,rfl,g,v,hz,q⟩:=h;obtain⟨u,rfl,ru⟩:=dR r;obtain rfl:u=Value.ref p:=ru;obtain⟨i,_,_⟩:=(show ObjOk X.prog X.w H s.heap p (.ext λh=>SetAt X.w h p es)from I.aW p _ g);refine jK i v J8 (I.ok.hd f) (by decide) (lt:=(·< ·)) (λA E s a n zs P _ j _ nd hz h=>xH j nd hz h) hz λb h' tk l c so m d t e=>?_;have em:(b.map (·.1)).map V.int=b.map λy=>V.int y.1:=by rw[Sf];rfl
 refine⟨.ref l,_,I.laid (a:=l) (o:=.lst ((b.map (·.1)).map V.int)) (t':=tk) e d ?_,rfl,q l (b.map (·.1)) (I.aW.fresh d) (λk=>?_) (Sw.mpr so.pw)⟩
 .rw[em];exact⟨by rw[Q0,RB];lia,hV b,c,o8 b,t⟩
 .constructor
  .intro e;obtain⟨y,z,rfl⟩:=Q3.mp e;exact Q3.mpr ⟨y,so.sub y z,rfl⟩
  .intro e;obtain⟨x,B,rfl⟩:=Q3.mp e;obtain⟨y,C,D⟩:=so.all x B;exact Q3.mpr ⟨y,C,D⟩
end
end L2
namespace L2
open PySem PySem.Spec PySem.Calls PyProof.Rows
section
def GX{k:List bW}{dflt:Vz}{Q:Vz->Vw->Prop}(n:A.units<cLine)(l:(tK prog w).is s.heap k a)(hm:s.heap.DictOfH (tK prog w) d xs)(hsz:xs.length<=sizeLine)
 (h1:∀p,atKey xs k=some p->Q p.2 {s with toks:=s.toks+(tK prog w).draws k})
 (h2:atKey xs k=none->∀h',h'.DictOfH (tK prog w) d (storedH xs k a dflt)->Heap.SameBut d s.heap h'->Q dflt {s with heap:=h',toks:=s.toks+(tK prog w).draws k}):wpAny (model prog w) A (dictSetDefault d (.ref a) dflt) Q E s:=by
 obtain⟨o,es,ep,c,t,hd,i,f,m⟩:=hm;unfold dictSetDefault
 try with_reducible refine Sk ?_
 refine KE ((tK prog w).pyHash n l (KE (wpAny_dictFind_heap (knd:=tK prog w) (s:={s with toks:=s.toks+(tK prog w).draws k}) n l c hd i f m (λg=>?_) λj p q=>?_)))
 .have b:=atKey_none_of_get g;have h:k∉xs.map (·.1):=not_mem_keys_of_get g;refine KE (U6 (KE (wpAny_updateDictKeys (hz:=by have e:=Vb i;lia) (s:={s with toks:=s.toks+(tK prog w).draws k}) c hd (QX (h2 b _ ⟨_,_,ep+1,SJ _ c (Obj.isFreed_of_dict (Ud hd _)),t.mapDictKeys _,Ud hd _,?_,?_,?_⟩ (RZ ..))))))
  .rw[storedH_new b];simp[i,entryOfKey]
  .rw[storedH_new b];intro x hx;rcases Rj.mp hx with hx|hx
   .exact(tK prog w).keeps (f x hx) c hd (RZ ..)
   .obtain rfl:=Q9.mp hx;exact(tK prog w).keeps l c hd (RZ ..)
  .rw[storedH_new b,RX,RC];exact⟨m,by simp,λx hx y r e=>by simp only[Rn,TR,Q9]at r;subst r;exact h (e▸hx)⟩
 .refine KE (TJ (s:={s with toks:=s.toks+(tK prog w).draws k}) c hd ?_);rw[entry_at i j,q];exact KE (U6 (QX (h1 p (atKey_of_get m q))))
end
section
def DV:V->List V->Hp->VK->Prop:=λx xs H Q=>∃a b k y kvs,x=.ref a/\xs=[.ref b,y]/\H b=some (.tup (k.map kV))/\H a=some (.dT kvs)/\kvs.length<sizeLine/\
 ((∃v,cJ kvs k=some v/\Q v H)\/(cJ kvs k=none/\Q y (upd H a (.dT (bY kvs k y)))))
def o9(O:X.A.units+64<cLine):FF X "dict.setdefault" DV:=by
 intro ac s σ H x xs v us Q I B rs q;obtain⟨a,b,k,y,kvs,rfl,rfl,hb,ha,hz,q⟩:=q;obtain rfl:v=Value.ref a:=B;obtain⟨u1,u2,rfl,g,e⟩:=vS rs;obtain rfl:u1=Value.ref b:=g;obtain⟨C,D,vs,h,l⟩:=FG I.aW ha;have E:=dc I.aW hb;have m:Shared.TypeIs s (.ref a) "dict":=by obtain⟨o,es,ep,F,G,_⟩:=l;exact⟨o,F,G.1⟩
 refine R7 RY m UW ?_ (US _ _ _);unfold Builtin.«dict.setdefault»;refine KE ?_;unfold Builtin.Dict.keyAndDefault;refine KE (Tu m (show wpAny _ _ (pure (a,Value.ref b,some u2)) _ _ s from QX ?_));show wpAny _ _ (if(a==sysModules)=true then _ else(dictSetDefault a (Value.ref b) u2 >>= _)) _ _ s;rw[Rf (by grind)];have J:vs.length<=sizeLine:=by rw[<- Ta h];exact C
 have f:=h.val k;refine KE (GX (by grind) E l J (λp n=>?_) λi h' j K=>?_)
 .rcases q with⟨v,d,q⟩|⟨d,q⟩
  .have:RelO (some v) (some p.2):=by rw[<- d];rw[n]at f;exact f
   exact QX ⟨_,rfl,v,H,I.tok _,this,q⟩
  .have:=f.fg;rw[d,n]at this;cases this
 .rcases q with⟨v,d,q⟩|⟨d,q⟩
  .have:=f.fg;rw[d,i]at this;cases this
  .obtain⟨r,es,ep,t,h2,h3,L,_,M⟩:=j;have N:(bY kvs k y).length<=sizeLine:=by have:=dW kvs k y;lia
   have aW:ObjOk X.prog X.w (upd H a (.dT (bY kvs k y))) h' a (.dT (bY kvs k y)):=by refine⟨N,D,_,(h.put k hb e).keeps λc P u=>?_,r,es,ep,t,h2,h3,L,M⟩;rw[ai (zf u ha (λz=>nomatch z))];exact u
   exact QX ⟨_,rfl,y,_,jD (t':=s.toks+(tK X.prog X.w).draws k) I (by rw[ha];exact True.intro) K ⟨r,t⟩ aW,e,q⟩
def uO:V->List V->Hp->VK->Prop:=λx xs H Q=>∃a b k y kvs,x=.ref a/\xs=[.ref b,y]/\H b=some (.tup (k.map kV))/\(H a=some (.dT kvs)\/(H a=some (.dK [])/\kvs=[]))/\kvs.length<sizeLine/\
 ((∃v,cJ kvs k=some v/\Q v H)\/(cJ kvs k=none/\Q y (upd H a (.dT (bY kvs k y)))))
def gb(f:X.A.units+64<cLine):FF X "dict.setdefault" uO:=by
 intro ac s σ H x xs v us Q I g rs q;obtain⟨a,b,k,y,kvs,e1,e2,hb,ha,hz,q⟩:=q;rcases ha with ha|⟨ha,rfl⟩
 .exact o9 f ac s σ H x xs v us Q I g rs ⟨a,b,k,y,kvs,e1,e2,hb,ha,hz,q⟩
 .have d:b≠a:=zf hb ha (λz=>nomatch z);refine o9 f ac s σ (upd H a (.dT [])) x xs v us Q (I.Pc ha) g rs ⟨a,b,k,y,[],e1,e2,by rw[ai d];exact hb,ag,hz,.inr ?_⟩;rcases q with⟨v,e,q⟩|⟨e,q⟩
  .cases e
  .have:upd (upd H a (.dT [])) a (.dT (bY [] k y))=upd H a (.dT (bY [] k y)):=by
    funext c;by_cases h:c=a
    .subst h;rw[ag,ag]
    .rw[ai h,ai h,ai h]
   exact⟨e,by grind⟩
end
def RawD(h:Heap)(d:Addr)(es:Array DictEntry)(ep:Nat):Prop:=∃o,h.get? d=some o/\o.ExactDict/\o.data=.dict es ep
section
variable{prog:Vy}{w:World}{A:VA}{s:Vw}{d v it:Addr}{es:Array DictEntry}{ep i:Nat}{ok ov:Vz}
def RawD.ty(m:RawD s.heap d es ep):s.TypeIs (.ref d) "dict":=let ⟨o,h,c,_⟩:=m;⟨o,h,c.1⟩
theorem pX(d:Addr)(hd:(d==sysModules)=false) :
 MeetsIn prog w (Builtin.«dict.items» ⟨[.ref d],[]⟩) (λ_ R s=>(∃es ep,RawD s.heap d es ep)/\R (.ok (.ret (.ref s.heap.objs.size))) { s with heap:=s.heap.push { cls:=.type "dict_items",data:=.fields #[.ref d] } }):=
 .of_wp λA R s ⟨⟨es,ep,m⟩,h⟩=>by unfold Builtin.«dict.items» Builtin.Dict.noArgs;refine KE (KE (Tu m.ty (QX ?_)));show wpAny _ _ (Builtin.Dict.showsAll d >>= _) _ _ s;unfold Builtin.Dict.showsAll;rw[Rf (by rw[hd];simp)];exact KE (QX (KE (R3 (QX ⟨_,rfl,h⟩))))
theorem rV(a:s.heap.IsItemsView v d)(m:RawD s.heap d es ep)
 (c:Q (.ref s.heap.objs.size) { s with heap:=s.heap.push { cls:=.type "dict_itemiterator",data:=.fields #[.none,.bool false,.ref d,.int 0 0,.int es.size 0,.int ep 0,.none,.none] } }) :
 wpAny (model prog w) A (pyIter (.ref v)) Q E s:=by
 obtain⟨e,e1,_,e2⟩:=id a;obtain⟨o,b,_,hd⟩:=id m;refine Ua a.typeIs F.slot_dict_items_iter (R7 F.slot_dict_items_iter a.typeIs F.entry_dict_items_iter ?_ (F.args_dict_items_iter_1 _));unfold Builtin.«dict_items.__iter__» Builtin.Dict_items.dictOf Builtin.Dict_items.newIterator;refine KE (QX (KE (KE (UK e1 e2 (x:=.ref d) rfl (QX (KE (KE (TJ b hd (KE (UD b hd ?_))))))))));simp only[show Builtin.Dict_items.ownsTuple "dict_itemiterator"=true by decide,TB];refine R3 (QX ⟨_,rfl,"dict_itemiterator",_,⟨_,Rb _ rfl,rfl⟩,SD.lookup,?_⟩)
  (by simp only[sizeOk,Builtin.Dict_items.ownedTupleFields,Ra,Q8,Rq,T6,RB];lia)
 simpa[rawInt,Builtin.Dict_items.ownedTupleFields]using c
theorem rW(f:A.handled=none)(y:IsItemIter s.heap it d i es.size ep ok ov)(m:RawD s.heap d es ep)(g:es.size<=i)(h:∀h',Heap.ExtBut it s.heap h'->Q none {s with heap:=h'}):wpAny (model prog w) A (pyNext (.ref it)) Q E s:=by
 obtain⟨o,e,_,hd⟩:=id m;have c:s.TypeIs (.ref it) "dict_itemiterator":=⟨_,y,rfl⟩;unfold pyNext;refine KE (U3 (SK (name:=Str.ofString "__next__") c SD (R7 SD c F.entry_dict_itemiterator_next ?_ (F.args_dict_itemiterator_next_1 _))));refine KE (QX (KE (KE ?_)))
 first|refine KE (Te c (QX ?_))|refine KE (TC c (QX ?_))
 refine KE (Vf y rfl ?_);simp only[show Builtin.Dict_items.ownsTuple "dict_itemiterator"=true by decide,TB];show wpAny _ _ (if(Value.ref d==Value.none)=true then _ else _) _ _ s;rw[Rf (show ¬((Value.ref d==Value.none)=true)from RF)];refine KE (QX (KE (TJ e hd ?_)));rw[Rf (by simp)];refine KE (QX (KE (UD e hd ?_)));rw[Rf (by simp)];refine QX ?_;simp only[show ¬((i:Int)<0)from by lia,Sx,T9,UF g];refine KE ?_
 first|refine KE (Te c (QX ?_))|refine KE (TC c (QX ?_))
 show wpAny _ _ (setField (.ref it) 2 .none >>= _) _ _ s;refine KE (Uk y rfl (by simp) ?_);show wpAny _ _ (newExc (.type "StopIteration") [] >>= _) _ _ _;refine KE ?_;simp only[newExc,newTuple];refine KE (R3 ?_ (by size_fits));refine KE (m:=firstArgMember _ _) (wpAny_of_eq (a:=Value.none) (by first|rfl|(simp only[firstArgMember];rfl)) ?_);refine R3 ?_ (by size_fits);simp only[raiseNew];refine KE (wpAny_handled ?_);rw[show A.in1.handled=none from f];refine KE (QX (wpAny_throw ?_));refine KE (UX (T:="StopIteration") (b:=true) ⟨_,Rb _ rfl,rfl⟩ isSubtype_stop ?_);exact QX (h _ (((RZ ..).extBut.push _).push _))
theorem uP(y:IsItemIter s.heap it d i es.size ep ok ov)(m:RawD s.heap d es ep)(H:es[i]?=some e)
 (I:∀h',IsItemIterOut h' it d (i+1) es.size ep e.key e.val s.heap.objs.size->h'.get? s.heap.objs.size=some { cls:=.type "tuple",data:=.seq #[e.key,e.val] }->
   (∀b o,b≠it->s.heap.get? b=some o->h'.get? b=some o)->Q (some (.ref s.heap.objs.size)) {s with heap:=h'}):wpAny (model prog w) A (pyNext (.ref it)) Q E s:=by
 obtain⟨a,g,h,tk,os⟩:=s;obtain⟨o,D,_,hd⟩:=id m;have c:Shared.TypeIs ⟨a,g,h,tk,os⟩ (.ref it) "dict_itemiterator":=⟨_,y,rfl⟩;have p:a.objs.size≠it:=Ts (Rc y);unfold pyNext;refine KE (U3 (SK (name:=Str.ofString "__next__") c SD (R7 SD c F.entry_dict_itemiterator_next ?_ (F.args_dict_itemiterator_next_1 _))));refine KE (QX (KE (KE ?_)))
 first|refine KE (Te c (QX ?_))|refine KE (TC c (QX ?_))
 refine KE (Vf y rfl ?_);simp only[show Builtin.Dict_items.ownsTuple "dict_itemiterator"=true by decide,TB];show wpAny _ _ (if(Value.ref d==Value.none)=true then _ else _) _ _ _;rw[Rf (show ¬((Value.ref d==Value.none)=true)from RF)];refine KE (QX (KE (TJ D hd ?_)));rw[Rf (by simp)];refine KE (QX (KE (UD D hd ?_)));rw[Rf (by simp)];refine QX ?_;simp only[show ¬((i:Int)<0)from by lia,Sx,T9,H];refine KE ?_
 first|refine KE (Te c (QX ?_))|refine KE (TC c (QX ?_))
 refine KE (UG c ?_);show wpAny _ _ (setField (.ref it) 3 (rawInt ((i:Int)+1)) >>= _) _ _ ⟨a,g,h,tk,os⟩;refine KE (T3 y (by simp) λh1 j s1=>?_);replace s1:Heap.SameBut it a h1:=s1;replace j:IsItemIter h1 it d (i+1) es.size ep ok ov:=by
  have q:((i+1:Nat):Int)=(i:Int)+1:=by lia
  unfold IsItemIter;rw[q];simpa[rawInt]using j
 have f:Shared.TypeIs ⟨h1,g,h,tk,os⟩ (.ref it) "dict_itemiterator":=⟨_,j,rfl⟩;refine KE (Sk (KE (UG f (KE (UG f ?_)))));show wpAny _ _ (Builtin.Dict_items.pairFromOwner (.ref it) 6 e.key e.val) _ _ ⟨h1,g,h,tk,os⟩;unfold Builtin.Dict_items.pairFromOwner;refine KE (wpAny_newTuple ?_);have k:IsItemIter (h1.push { cls:=.type "tuple",data:=.seq #[e.key,e.val] }) it d (i+1) es.size ep ok ov:=QZ _ j;have t2:(h1.push { cls:=.type "tuple",data:=.seq #[e.key,e.val] }).get? a.objs.size=some { cls:=.type "tuple",data:=.seq #[e.key,e.val] }:=by rw[<- s1.1];exact Rb _ rfl
 have k2:∀b o,b≠it->a.get? b=some o->(h1.push { cls:=.type "tuple",data:=.seq #[e.key,e.val] }).get? b=some o:=λb o n q=>QZ _ (s1.extBut b o n q);have G:h1.objs.size=a.objs.size:=s1.1;generalize h1.push { cls:=.type "tuple",data:=.seq #[e.key,e.val] }=h2 at k t2 k2;show wpAny _ _ (Builtin.Dict_items.ownedTupleIsFree (.ref it) >>= _) _ _ ⟨h2,g,h,tk,os⟩;rw[G];clear j s1 f G h1;refine KE ?_;unfold Builtin.Dict_items.ownedTupleIsFree;refine KE (UK k rfl (x:=.none) rfl (QX ?_));simp only[TB];refine KE (UK k rfl (x:=ok) rfl (KE (UK k rfl (x:=ov) rfl ?_)));refine KE (T3 k (by simp) λh3 r J=>?_);replace r:IsItemIter h3 it d (i+1) es.size ep e.key ov:=r;refine KE (T3 r (by simp) λt u K=>?_);replace u:IsItemIter t it d (i+1) es.size ep e.key e.val:=u;refine KE (T3 u (by simp) λz B L=>?_);replace B:IsItemIterOut z it d (i+1) es.size ep e.key e.val a.objs.size:=B;refine KE (T3 B (by simp) λl C M=>?_);replace C:IsItemIterOut l it d (i+1) es.size ep e.key e.val a.objs.size:=C;have up:∀b o,b≠it->h2.get? b=some o->l.get? b=some o:=λb o n q=>Uq (show Heap.SameBut it z l from M) b o n (Uq (show Heap.SameBut it t z from L) b o n (Uq (show Heap.SameBut it h3 t from K) b o n (Uq (show Heap.SameBut it h2 h3 from J) b o n q)));exact KE (wpAny_letGo (QX (QX ⟨_,rfl,QX (I l C (up _ _ p t2) λb o n q=>up b o n (k2 b o n q))⟩)))
end
def uQ{P:Vy}{w:World}{K:Vx}{es:List Expr}{k0:Nat}{pos:Pos}{J:It}{d it:Addr}{o:Obj}{u:HO}{en:Array DictEntry}{ep:Nat}(hex:o.ExactDict)(hdat:o.data=.dict en ep)(hgo:∀i H,J.go i H->H d=some (.bw o u))(hst:∀i H,J.stop i H->H d=some (.bw o u)/\en.size<=i)
 (hent:∀H h,HOk P w H h->∀i,J.go i H->∃e y v,en[i]?=some e/\RelV y e.key/\RelV v e.val/\∀p,H p=none->J.Cv i H (.ref p) (upd H p (.tup [y,v]))) :
 Turn P w K (.Tuple es k0 pos) J [it] it (λi h=>∃ok ov,IsItemIter h it d i en.size ep ok ov) where
 mem:=by simp
 obj:=λi h st b hb=>by
  have e:b=it:=by simpa using hb
  subst e;obtain⟨ok,ov,e⟩:=st;exact⟨_,e,λv z=>by cases z⟩
 keep:=λi h h' st k=>by obtain⟨ok,ov,e⟩:=st;exact⟨ok,ov,k it (by simp) _ e⟩
 item:=by
  intro X hP hw hK hc i ac s σ H E I hf st hg;subst hP hw hK;have hd:=hgo i H hg;obtain⟨ok,ov,st⟩:=st;obtain⟨eo,_⟩:=(show ObjOk X.prog X.w H s.heap d (.bw o u)from I.aW d _ hd);obtain⟨e,y,v,he,ry,rv,hy⟩:=hent H s.heap I.aW i hg;have fi:=hf it (by simp);refine uP st ⟨o,eo,hex,hdat⟩ he λh' hout hT kp=>?_;refine⟨_,rfl,wpAny_letOwnedTupleGo_items hout λh'' hit'' hs''=>?_⟩;have keep2:∀b o,b≠it->s.heap.get? b=some o->h''.get? b=some o:=λb o n1 q=>(hs''.2 b n1).trans (kp b o n1 q);have hTe:s.heap.objs.size≠it:=Ts (Rc st);have hT'':h''.get? s.heap.objs.size=some { cls:=.type "tuple",data:=.seq #[e.key,e.val] }:=(hs''.2 _ hTe).trans hT;have fr:=I.aW.fresh (QY _);have I1:Inv X ac σ (upd H s.heap.objs.size (.tup [y,v])) {s with heap:=h''}:=by
   refine I.step (g':=s.gens) (d':=s.drawn) (ch:=[it]) (λb hb=>?_) (λb o _ _ hn q _=>keep2 b o (λz=>hn (by simp[z])) q)
    (λb o _ _ hn q _=>⟨o.slots,keep2 b o (λz=>hn (by simp[z])) q⟩) (λb o _ q hH=>by rw[ai (Rt (Rc q))];exact hH)
    (λb o hn q=>⟨o,keep2 b o (λz=>hn (by simp[z])) q⟩) (λb ys q=>by rw[ai (ax q fr)];exact q)
    (λb o' u' q=>by rw[ai (ax q fr)];exact q) (λb ps q=>⟨#[],by rw[ai (ax q fr)];simp[q]⟩) (λm hm=>?_) (λb u' q=>?_) I.bare
   .have:b=it:=by simpa using hb
    subst this;exact⟨fi.2.2.2.1,fi.2.1,fi.2.2.2.2.1,fi.2.2.2.2.2⟩
   .obtain⟨o,es',ep,ho',r⟩:=hm;exact⟨o,es',ep,keep2 _ o (Si fi.2.1) ho',r⟩
   .by_cases hb:b=s.heap.objs.size
    .subst hb;rw[ag]at q;cases q;exact⟨by show 2<=sizeLine;decide,[e.key,e.val],.cons ry (.cons rv .nil),⟨_,hT'',rfl,0,rfl⟩⟩
    .rw[ai hb]at q;refine(I.aW b u' q).stay (λc v hc' q'=>keep2 c v ?_ q') (λc r=>by rw[ai (ax r fr)];exact r) λc ys r=>by rw[ai (ax r fr)];exact r
     rcases hc' with z|z
     .rw[z];exact ax q fi.1
     .exact ax z fi.1
  refine⟨.ref s.heap.objs.size,_,I1,rfl,hy _ fr,⟨_,_,hit''⟩,λb hb=>?_⟩;have:b=it:=by simpa using hb
  subst this;rw[ai (Rt (Rc st))];exact fi.1
 done:=by intro X hP hw hK hc i ac s σ H E I hf st hg;subst hP hw hK;obtain⟨hd,hi⟩:=hst i H hg;obtain⟨ok,ov,st⟩:=st;obtain⟨eo,_⟩:=(show ObjOk X.prog X.w H s.heap d (.bw o u)from I.aW d _ hd);obtain⟨f0,f1,f2,f3,f4,f5⟩:=hf it (by simp);exact rW (I.ok.hd hc) st ⟨o,eo,hex,hdat⟩ (by lia) λh' eb=>⟨rfl,I.turned (t':=s.toks) (λb o hb e=>eb b o hb e) f0 f1 f3 f4 f5⟩
 self:=λA i s Q E st h=>by obtain⟨ok,ov,st⟩:=st;have hT:s.TypeIs (.ref it) "dict_itemiterator":=⟨_,st,rfl⟩;refine Ua hT F.slot_dict_itemiterator_iter (R7 F.slot_dict_itemiterator_iter hT (entryFor_alias (id':="dict_keyiterator.__iter__") (by kernel_rfl) rfl (by decide +kernel) (by kernel_rfl):entryFor table "dict_itemiterator.__iter__"=some Builtin.«dict_keyiterator.__iter__») ?_ (F.args_dict_itemiterator_iter_1 _));show wpAny _ _ (ret (.ref it)) _ _ s;exact QX ⟨_,rfl,"dict_itemiterator",_,hT,SD.lookup,h⟩
section
def xI{R:It->Hp->Prop}(s:Inv X ac σ H2 s1)(e2:H2 d=some (.bw o u))(hd:(d==sysModules)=false)(hex:o.ExactDict)(c:o.data=.dict en ep)(n:∀i H,J.go i H->H d=some (.bw o u))(q:∀i H,J.stop i H->H d=some (.bw o u)/\en.size<=i)
 (f:∀H h,HOk X.prog X.w H h->∀i,J.go i H->∃e y v,en[i]?=some e/\RelV y e.key/\RelV v e.val/\∀p,H p=none->J.Cv i H (.ref p) (upd H p (.tup [y,v]))) (q2:R J H2) :
 MethodOn X.prog X.w X.A "items" cpos (.ref d) [] (λv s1=>wX X (pyIter v) (Na X ac σ (.Tuple es k0 Jg) R) X.xe s1) X.xe s1:=by
 obtain⟨l,_⟩:=(show ObjOk X.prog X.w H2 s1.heap d (.bw o u)from s.aW d _ e2);have g:s1.TypeIs (.ref d) "dict":=⟨o,l,hex.1⟩;have j:∀a,Value.ref d=.ref a->∃t,s1.heap.get? a=some t/\t.dict=none:=λa e=>by cases e;exact⟨o,l,hex.2.1⟩
 refine⟨"dict","dict.items",RV,PySem.F.slot_dict_items,PySem.F.type_dict_items,g,j,S1 rfl (PySem.evalArgs_none ?_)⟩;refine Ut PySem.F.slot_dict_items g PySem.F.entry_dict_items (PySem.F.args_dict_items_1 _) (pX d hd) ⟨⟨en,ep,o,l,hex,c⟩,?_⟩;have m:Inv X ac σ H2 { s1 with heap:=s1.heap.push { cls:=.type "dict_items",data:=.fields #[.ref d] } }:=s.kept (t':=s1.toks) λb o e=>QZ _ e;have e3:({ s1 with heap:=s1.heap.push { cls:=.type "dict_items",data:=.fields #[.ref d] } }:Vw).heap.get? d=some o:=QZ _ l;generalize r:({ s1 with heap:=s1.heap.push { cls:=.type "dict_items",data:=.fields #[.ref d] } }:Vw)=k at m e3;have x:k.heap.IsItemsView s1.heap.objs.size d:=by rw[<- r];exact⟨_,Rb _ rfl,rfl,rfl⟩
 show wpAny _ _ (pyIter (.ref s1.heap.objs.size)) _ _ _;refine rV x ⟨o,e3,hex,c⟩ ?_;refine⟨k.heap.objs.size,[k.heap.objs.size],_,_,H2,rfl,m.kept (t':=k.toks) λb o e=>QZ _ e,uQ hex c n q f,⟨_,_,Rb _ rfl⟩,λb hb=>?_,q2⟩;have e:b=k.heap.objs.size:=by simpa using hb
 subst e;exact m.tO (QY _) (m.aW.fresh (QY _))
end
theorem KV.at(r:KV a b):∀(i:Nat) p q,a[i]?=some p->b[i]?=some q->p.1=q.1/\RelV p.2 q.2:=by
 induction r with
 |nil=>intro i p q e;simp at e
 |cons c t d=>
  intro i p q e1 e2;cases i with
  |zero=>simp at e1 e2;subst e1 e2;exact c
  |succ i=>exact d i p q (by simpa using e1) (by simpa using e2)
def J_(d:Addr)(o:Obj)(u:HO)(kvs:List (List bW×V)):It:=⟨λi H=>H d=some (.bw o u)/\i<kvs.length,λi H x H'=>∃p b k v,H p=none/\x=.ref p/\H b=some (.tup (k.map kV))/\H'=upd H p (.tup [.ref b,v])/\kvs[i]?=some (k,v),λi H=>H d=some (.bw o u)/\kvs.length<=i⟩
theorem KT.at{H:Hp}{a:List (List bW×V)}{b:List (List bW×Addr×Vz)}(r:KT H a b):∀(i:Nat) p q,a[i]?=some p->b[i]?=some q->p.1=q.1/\H q.2.1=some (.tup (p.1.map kV))/\RelV p.2 q.2.2:=by
 induction r with
 |nil=>intro i p q e;simp at e
 |cons c t d=>
  intro i p q e1 e2;cases i with
  |zero=>simp at e1 e2;subst e1 e2;exact c
  |succ i=>exact d i p q (by simpa using e1) (by simpa using e2)
section
def Ac(X:Cx)(a:TE):TI:=λσ H R=>a σ H λx H1=>∃d kvs u,x=.ref d/\(u=.dT kvs\/(u=.dK []/\kvs=[]))/\((∃o,H1 d=some (.bw o u)/\R (J_ d o u kvs) H1)\/(H1 d=some u/\∀o,(∀b v,X.H₀ d≠some (.bw b v))->R (J_ d o u kvs) (upd H1 d (.bw o u))))
def iG(F:PE X l tl)(m:autoParam (attributeBase l "items" X.env (eval l X.env)=eval l X.env) aM) (n:autoParam ((apos.endLine==cpos.line)=true) aM):PI X (.Tuple es k0 Jg) (.Call (.Attribute l "items" apos) [] [] cpos) (Ac X tl):=by
 intro ac s σ H R I h;refine wpAny_Call_method0_late m n (cc (F ac s σ H _ I h) λv s1 ⟨x,H1,r,S,q1⟩=>?_);obtain⟨d,kvs,u,e,G,q⟩:=q1;subst e;cases S;have O:n8 u:=by rcases G with rfl|⟨rfl,_⟩<;>exact True.intro
 have t:∀(o:Obj)(y:Hp),Inv X ac σ y s1->y d=some (.bw o u)->R (J_ d o u kvs) y->MethodOn X.prog X.w X.A "items" cpos (.ref d) [] (λv s1=>wX X (pyIter v) (Na X ac σ (.Tuple es k0 Jg) R) X.xe s1) X.xe s1:=λo y K e2 q2=>by
  obtain⟨L,_⟩:=(show ObjOk X.prog X.w y s1.heap d (.bw o u)from K.aW d _ e2);have z:∀{H h},HOk X.prog X.w H h->H d=some (.bw o u)->(d==sysModules)=false/\∃(en:Array DictEntry)(ep:Nat),o.ExactDict/\o.data=.dict en ep/\en.size=kvs.length/\∀(i:Nat) p,kvs[i]?=some p->∃e b,en[i]?=some e/\e.key=.ref b/\H b=some (.tup (p.1.map kV))/\RelV p.2 e.val:=λ{H h} ok e=>by
   obtain⟨L,M⟩:=(show ObjOk X.prog X.w H h d (.bw o u)from ok d _ e);rcases G with rfl|⟨rfl,rfl⟩
   .obtain⟨_,hd,xs,c,T,en,ep,j,hex,a,B,_,_⟩:=i7 ok (.inr ⟨o,e⟩);rw[L]at j;cases j;refine⟨hd,en,ep,hex,a,by rw[Vb B,Ta c],λi p E=>?_⟩;have F:i<xs.length:=by rw[<- Ta c];exact(Q2.mp E).1
    have M:xs[i]?=some xs[i]:=by simp[F]
    obtain⟨_,hb,U⟩:=c.at i _ _ E M;exact⟨_,_,by rw[entry_at B,M];rfl,rfl,hb,U⟩
   .obtain⟨_,hd,vs,c,T,en,ep,j,hex,a,_,C,_⟩:=i6 ok (.inr ⟨o,e⟩);rw[L]at j;cases j;cases c;cases P:en.toList with
    |nil=>exact⟨hd,en,ep,hex,a,by rw[<- Sn,P];rfl,λi p e=>by simp at e⟩
    |cons _ _=>rw[P]at C;cases C
  obtain⟨hd,en,ep,hex,a,V,_⟩:=z K.aW e2;refine xI (J:=J_ d o u kvs) K e2 hd hex a (λi H h=>h.1) (λi H h=>⟨h.1,by rw[V];exact h.2⟩) (λH h ok i g=>?_) q2;obtain⟨_,W,Y,_,k,_,f⟩:=z ok g.1;rw[a]at k;cases k;obtain⟨_,g⟩ : _/\i<kvs.length:=g;have Q:kvs[i]?=some kvs[i]:=by simp[g]
  obtain⟨e,b,h1,h2,h3,Z⟩:=f i _ Q;exact⟨e,.ref b,kvs[i].2,h1,h2,Z,λp E=>⟨p,b,_,_,E,rfl,h3,rfl,Q⟩⟩
 rcases q with⟨o,e1,q⟩|⟨e1,q⟩
 .exact t o H1 r e1 q
 .have N:∃o,s1.heap.get? d=some o:=by
   rcases G with rfl|⟨rfl,_⟩
   .obtain⟨_,_,_,_,o,_,_,D,_⟩:=(show ObjOk X.prog X.w H1 s1.heap d (.dT kvs)from r.aW d _ e1);exact⟨o,D⟩
   .obtain⟨_,_,_,_,o,_,_,D,_⟩:=(show ObjOk X.prog X.w H1 s1.heap d (.dK [])from r.aW d _ e1);exact⟨o,D⟩
  obtain⟨o,D⟩:=N;exact t o _ (r.bw e1 O D) ag (q o (r.Gi e1 O))
end
section
def GY:List V->Hp->VK->Prop:=λxs H Q=>∃d kvs u,xs=[.ref d]/\(u=.dK kvs\/(u=.dT []/\kvs=[]))/\Rd H d u/\kvs.length<=sizeLine/\∀l,H l=none->Q (.ref l) (upd H l (.lst (kvs.map λp=>kV p.1)))
theorem wg:∀{vs:List V}{its:List Vz},vs.length=its.length->(∀(i:Nat) v u,vs[i]?=some v->its[i]?=some u->RelV v u)->Vals vs its
 |[],[],_,_=>.nil
 |[],_::_,e,_=>by cases e
 |_::_,[],e,_=>by cases e
 |v::vs,u::its,e,f=>.cons (f 0 v u rfl rfl) (wg (by simpa using e) λi w z a b=>f (i+1) w z (by simpa using a) (by simpa using b))
def uR(t:X.calm=true):CallR X (.type "list") GY:=by
 intro ac s σ H xs us Q I r h;obtain⟨d,kvs,u,rfl,y,f,hz,q⟩:=h;obtain⟨w,rfl,A⟩:=dR r;cases A;have m:=f.ok I.aW;have g:(d==sysModules)=false/\∃vs,KV kvs vs/\s.heap.DictOf (aO X.prog X.w) d vs:=by
  rcases y with rfl|⟨rfl,rfl⟩
  .obtain⟨z,hd,vs,a,dd⟩:=m;exact⟨hd,vs,a,dd⟩
  .obtain⟨hd,dd⟩:=pR m;exact⟨hd,[],.nil,dd⟩
 obtain⟨hd,vs,a,dd⟩:=g;obtain⟨ep,B⟩:=dd.dictAt;have n:=a.length;refine PySem.W.kdl_call (PySem.W.kdl_dict (knd:=aO X.prog X.w) (kvs:=vs) (ep:=ep) hd) (I.ok.hd t) B (by rw[<- n];exact hz) λh' tk b o kp e it=>?_;obtain⟨C,D⟩:=it;have la:b.toList.length=kvs.length:=by rw[Sn,C,n]
 have E:Vals (kvs.map λp=>kV p.1) b.toList:=by
  refine wg (by rw[Q0,la]) λi v w c F=>?_;rw[Rg]at c;cases j:kvs[i]? with
  |none=>rw[j]at c;cases c
  |some p=>rw[j]at c;cases c;obtain⟨k,x,e1,e2⟩:=D i w (by rw[<- RH];exact F);obtain⟨l,_⟩:=a.at i _ _ j e1;show RelV (kV p.1) w;rw[show p.1=k from l];exact DE e2
 have e:h'.get? s.heap.objs.size=some { cls:=.type "list",dict:=none,data:=.seq b.toList.toArray o,slots:=#[] }:=by rw[Array.toArray_toList];exact e
 exact⟨.ref s.heap.objs.size,_,I.laid (t':=tk) kp (QY _) (show ObjOk X.prog X.w _ h' _ (.lst (kvs.map λp=>kV p.1))from⟨by rw[Q0];exact hz,b.toList,o,E,e⟩),rfl,q _ (I.aW.fresh (QY _))⟩
end
noncomputable def pY:List Int->Int
 |[]=>0
 |x::r=>r.foldl (λa b=>if b<a then b else a) x
def xJ(h:l≠[])(z:Int):pY (l++[z])=if z<pY l then z else pY l:=by
 cases l with
 |nil=>exact(h rfl).elim
 |cons x r=>show(r++[z]).foldl _ x=_;rw[S8];rfl
theorem mR(xs:Array (Int×Tok)):∀k,k<xs.size->numAt xs (argBest (λi j=>decide (numAt xs i<numAt xs j)) k)=pY ((xs.toList.map (·.1)).take (k+1))
 |0,h=>by
  have e:xs.toList.map (·.1)≠[]:=λz=>by have:=Sy List.length z;simp at this;rw[this]at h;simp at h
  cases q:xs.toList.map (·.1)with
  |nil=>exact(e q).elim
  |cons y r=>
   have:(xs[0]?.map (·.1))=some y:=by rw[<- RH,<- Rg,q];rfl
   show numAt xs 0=y;unfold numAt;rw[this];rfl
 |k+1,h=>by
  have b:=mR xs k (by lia);have c:(xs.toList.map (·.1))[k+1]?=some (numAt xs (k+1)):=by rw[Rg,RH];unfold numAt;rw[TF h];rfl
  have d:(xs.toList.map (·.1)).take (k+1+1)=(xs.toList.map (·.1)).take (k+1)++[numAt xs (k+1)]:=by rw[List.take_succ,c];rfl
  have ne:(xs.toList.map (·.1)).take (k+1)≠[]:=λz=>by have f:=Sy List.length z;rw[Sa,Q0,Sn,T6]at f;lia
  rw[d,xJ ne,<- b];show numAt xs (if(decide (numAt xs (k+1)<numAt xs (argBest _ k)))=true then k+1 else argBest _ k)=_;by_cases a:numAt xs (k+1)<numAt xs (argBest (λi j=>decide (numAt xs i<numAt xs j)) k)
  .rw[Re (Rm a),Re a]
  .rw[Rf (by simpa using a),Rf a]
theorem mS:∀{ns:List Int}{its:List Vz},Vals (ns.map V.int) its->∃ps:List (Int×Tok),its=ps.map (λp=>.int p.1 p.2)/\ps.map (·.1)=ns
 |[],_,h=>by cases h;exact⟨[],rfl,rfl⟩
 |n::ns,_,h=>by
  cases h with
  |cons r a=>obtain⟨t,rfl⟩:=r;obtain⟨ps,rfl,e⟩:=mS a;exact⟨(n,t)::ps,rfl,by rw[Rn,e]⟩
def xK(c:X.calm=true):CallR X (.builtin "min") (λxs H Q=>∃p ns,xs=[.ref p]/\SqL X.K H p (ns.map V.int)/\ns≠[]/\Q (.int (pY ns)) H):=by
 intro ac s σ H xs us Q I r h;obtain⟨p,ns,rfl,d,b,q⟩:=h;obtain⟨u,rfl,f⟩:=dR r;cases f;obtain⟨its,g,pl,hz⟩:=I.list d;obtain⟨ps,rfl,e⟩:=mS g;have i:s.heap.IsList p (intItems ps.toArray):=by
  have:intItems ps.toArray=(ps.map (λp=>Value.int p.1 p.2)).toArray:=by simp[intItems]
  rw[this];exact pl.isList
 have a:0<ps.toArray.size:=by
  cases ps with
  |nil=>exact(b e.symm).elim
  |cons _ _=>simp
 refine min_intList (I.ok.hd c) i a λv h' tk j kp=>?_;obtain⟨t,rfl⟩:=intItems_at j;rw[mR ps.toArray _ (by lia)];have k:(ps.toArray.toList.map (·.1)).take (ps.toArray.size-1+1)=ns:=by rw[Su (by simp;lia)];simpa using e
 rw[k];exact⟨.int (pY ns),H,I.kept (t':=tk) kp,⟨t,rfl⟩,q⟩
end L2
namespace L2
open PySem PySem.Spec PySem.Calls PyProof.Rows ST
section
variable{prog:Vy}{w:World}{A:VA}{E:Vz->Vw->Prop}{s:Vw}
theorem rX(K:PySem.W.KdlSrc prog w T r d n P OK)(k:A.handled=none)(aW:OK s.heap)(l:n<=sizeLine)
 (h:∀h' tk (a:Array Vz),s.heap.objs.size<h'.objs.size->(∀b o,s.heap.get? b=some o->h'.get? b=some o)->ItemsOf P a n->Q a.toList {s with heap:=h',toks:=tk}):wpAny (model prog w) A (collect (.ref r)) Q E s:=by
 have f:=K.there _ aW;have m:(s.heap.push (seqObj "list" #[] 0)).get? s.heap.objs.size=some (seqObj "list" #[] 0):=Rb _ rfl;have j:∀R:Result->Vw->Prop,(∀h' tk (a:Array Vz) c,(∀b o,b≠s.heap.objs.size->(s.heap.push (seqObj "list" #[] 0)).get? b=some o->h'.get? b=some o)->h'.get? s.heap.objs.size=some { cls:=.type "list",dict:=none,data:=.seq a c,slots:=#[] }->ItemsOf P a n->R (.ok (.ret (.ref s.heap.objs.size))) {s with heap:=h',toks:=tk})->
  codeAny (model prog w) A (.builtin "list.__iadd__" ⟨[.ref s.heap.objs.size,.ref r],[]⟩) R { s with heap:=s.heap.push (seqObj "list" #[] 0) }:=λR p=>SW entry_list_iadd' (by
  rw[Th (show plainId "list.__iadd__"=true by decide +kernel) _];exact PySem.W.kdl_extend (s:={ s with heap:=s.heap.push (seqObj "list" #[] 0) }) K k (K.keep _ _ aW λb _ o e=>QZ _ e) s.heap.objs.size (Ts f.1) (Ts f.2) (.ref s.heap.objs.size) 0 m p l)
 unfold collect;refine KE (wpAny_runValue (SW entry_proto_collect' (show wpAny _ _ (do again (.builtin "list.__iadd__" ⟨[<- newList [],.ref r],[]⟩)) _ _ s from ?_)));refine KE (U4 (QX ⟨Code.quiet_builtin _ (by decide +kernel),j _ λh' tk a c kp g i=>?_⟩));refine KE (wpAny_load g ?_);show wpAny _ _ (pure a.toList) _ _ _;exact QX (h h' tk a (Rc g) (λb o e=>kp b o (Rt (Rc e)) (QZ _ e)) i)
end
end L2
namespace L2
open PySem PySem.Spec PyProof.Rows
open Sem (wp)
open Builtin
open Sem (wp)
open Builtin
noncomputable def mT(kts:List (Addr×List V))(a:Addr)(o:Obj)(ns:List Int):Hp:=λb=>match kts.lookup b with
 |some xs=>some (.tup xs)
 |none=>if b=a then some (.bw o (.lst (ns.map V.int)))else none
section
def DW(e:kts.lookup b=some xs):mT kts a o ns b=some (.tup xs):=by unfold mT;rw[e]
def DY(e:kts.lookup a=none):mT kts a o ns a=some (.bw o (.lst (ns.map V.int))):=by unfold mT;rw[e];exact Re rfl
def DZ(e:kts.lookup b=none)(n:b≠a):mT kts a o ns b=none:=by unfold mT;rw[e];exact Rf n
end
theorem jL:∀{vs:List Vz}{ns:List Int},IntsAre vs ns->Vals (ns.map V.int) vs
 |_,_,.nil=>.nil
 |_,_,.cons n t h=>.cons ⟨t,rfl⟩ (jL h)
def xL{P:Vy}{w:World}{K:Vx}{mg L:Str->Option Vz}{CX:CS}{k:Nat}{X a:Addr}{fd:FuncData}{x:Str}{sp:Sp}{f:Vw}{vs:List Vz}{ns:List Int}{kts:List (Addr×List V)}
 (Y:K.In f.heap) (C:f.heap.Ns mainGlobals mg) (hb:f.heap.Ns builtinsNs L) (M:∀x:Str,x≠"__name__"->L x=bootBuiltins x) (D:f.heap.NoLimit) (hg:f.gens=#[])
 (ha:f.heap.get? a=some { cls:=.type "list",data:=.seq vs.toArray }) (hi:IntsAre vs ns) (hl:ns.length<=sizeLine) (hr:c9 k callerA)
 (hK:∀o,K.lookup a=some o->o.cls=.type "list"->False)
 (I:∀b xs,kts.lookup b=some xs->K.lookup b=none/\∃(o:Obj)(its:Array Vz)(n:Nat),f.heap.get? b=some o/\o.cls=.type "tuple"/\o.data=.seq its n/\its.size<=sizeLine/\Vals xs its.toList)
 (hM:∀p∈K,∀b xs,Gq p.2=some (b,xs)->kts.lookup b=some xs)
 (F:∀base:Heap,K.In base->base.Ns mainGlobals mg->bF P w K mg base CX k X fd [x] sp) (j:∀(s:Vw)(u:Vz),BindsTo s fd ⟨[u],[]⟩ [(x,u)])
 (N:∀H:Hp,(∃o,H a=some (.bw o (.lst (ns.map V.int))))->sp [.ref a] H (λv _=>v=.bl true) λ_ _ _=>False)
 (O:∀H e l,CX [] H f (λ_ _ _=>False) e l->False) :
 codeAny (model P w) callerA (.call (.ref X) ⟨[.ref a],[]⟩) (λr l=>r=.ok (.ret (.bool true))/\OldK f.heap l.heap/\l.os=f.os/\AllBare l.gens) f:=by
 have rv:=jL hi;have Q:K.lookup a=none:=by
  cases q:K.lookup a with
  |none=>rfl
  |some o=>have e:=Y a o q;rw[ha]at e;cases e;exact(hK _ q rfl).elim
 have R:kts.lookup a=none:=by
  cases q:kts.lookup a with
  |none=>rfl
  |some xs=>obtain⟨_,o,its,n,e,c,_⟩:=I a xs q;rw[ha]at e;cases e;exact absurd c (by simp)
 obtain⟨B,t⟩ : ∃B:Obj,B={ cls:=.type "list",data:=.seq vs.toArray }:=⟨_,rfl⟩;rw[<- t]at ha;generalize S:mT kts a B ns=H;have T:H a=some (.bw B (.lst (ns.map V.int))):=by rw[<- S];exact DY R
 have U:∀b xs,kts.lookup b=some xs->H b=some (.tup xs):=λb xs e=>by rw[<- S];exact DW e
 have J:∀b,kts.lookup b=none->b≠a->H b=none:=λb e n=>by rw[<- S];exact DZ e n
 have y:∀b o,K.lookup b=some o->H b=none:=λb o e=>by
  refine J b ?_ λz=>by rw[z,Q]at e;cases e
  cases q:kts.lookup b with
  |none=>rfl
  |some xs=>rw[(I b xs q).1]at e;cases e
 have A:∀(b:Addr)(o:Obj)(es:Array DictEntry)(ep:Nat),f.heap.get? b=some o->o.data=.dict es ep->H b=none:=λb o es ep e d=>by
  refine J b ?_ λz=>?_
  .cases q:kts.lookup b with
   |none=>rfl
   |some xs=>obtain⟨_,o',its,n,Z,_,d',_⟩:=I b xs q;rw[e]at Z;cases Z;rw[d]at d';cases d'
  .rw[z,ha]at e;cases e;rw[t]at d;cases d
 have i:∀{b:Addr}{m:Str->Option Vz},f.heap.Ns b m->(rh f.heap H).Ns b m:=λ{b m} ⟨o,es,ep,e,d,r⟩=>⟨o,es,ep,ri e (A b o es ep e d),d,r⟩;have E:K.In (rh f.heap H):=λb o e=>ri (Y b o e) (y b o e);have W:Mod K mg (rh f.heap H):=⟨E,i C,⟨L,i hb,M⟩,let ⟨mc,h1,h2⟩:=D;⟨mc,i h1,h2⟩⟩;have aW:HOk P w H f.heap:=λb u e=>by
  cases q:kts.lookup b with
  |some xs=>rw[U b xs q]at e;cases e;obtain⟨_,o,its,n,e1,c,d,z,r⟩:=I b xs q;refine⟨by rw[r.length];simpa using z,its.toList,r,o,e1,c,n,by simpa using d⟩
  |none=>
   by_cases g:b=a
   .rw[g,T]at e;cases e;rw[g];exact⟨ha,by rw[Q0];exact hl,vs,_,rv,by rw[ha,t]⟩
   .rw[J b q g]at e;cases e
 have e0:vJ P w K mg (rh f.heap H) callerA [] f H:=⟨rfl,W,λb o e=>Dt e,Vq (xm _ _),trivial,λb hb=>absurd (show b∈([]:List Addr)from hb) (by simp),aW,.of_eq hg,λp hp b xs e=>U b xs (hM p hp b xs e)⟩;refine UR ((F _ E (i C)).run callerA [] f H ⟨[.ref a],[]⟩ [.ref a] [.ref a] _ _ hr e0 (j f (.ref a)) (.cons rfl .nil) (N H ⟨B,T⟩)) λr l h=>?_;cases r with
 |error e=>exact(O H e l h).elim
 |ok fl=>
  cases fl with
  |next=>exact False.elim h
  |brk=>exact False.elim h
  |cont=>exact False.elim h
  |ret u=>
   obtain⟨v,H',os,bare,un,G,r',q⟩:=h;have q':v=.bl true:=q;subst q';obtain rfl:u=Value.bool true:=r';refine⟨rfl,OldK.of_keep λb o e=>?_,os,bare⟩;by_cases g:b=a
   .rw[g]at e ⊢;have z2:=un.lP a B _ T;obtain⟨e2,_⟩:=G a _ z2;rw[ha]at e;cases e;exact e2
   .refine un.keep b o e ?_ (by intro z;exact absurd (show b∈([]:List Addr)from z) (by simp)) (by simp);cases q:kts.lookup b with
    |none=>exact .inl (J b q g)
    |some xs=>exact .inr ⟨xs,U b xs q⟩
section
variable{K K':Vx}
def NB(K:Vx):Bool:=K.all λp=>(Gq p.2).isNone
structure tU(K K':Vx):Prop where
 look:∀b o,K.lookup b=some o->(∀its n,o.data≠.seq its n)->K'.lookup b=some o
def xM:tU K K:=⟨λ_ _ e _=>e⟩
def tU.code(S:tU K K')(h:codeIn K cd q=true):codeIn K' cd q=true:=by
 unfold codeIn at h ⊢;cases cd with
 |ref c=>
  dsimp only at h ⊢;cases e:K.lookup c with
  |none=>rw[e]at h;cases h
  |some o=>
   obtain⟨o1,b,a,d⟩:=o;cases a with
   |fields vs=>rw[S.look c _ e (λ_ _ z=>nomatch z)];rw[e]at h;exact h
   |_=>rw[e]at h;cases h
 |_=>cases h
def tU.keep(S:tU K K')(e:K.lookup f=some ⟨o1,o2,.func fd,o4⟩):keepIn K' (.ref f)=true:=by unfold keepIn;dsimp only;rw[S.look f _ e (λ_ _ z=>nomatch z)]
end
noncomputable def wj:Vz->Bool
 |.type n=>n=="list"
 |_=>false
def NC(K:Vx):Bool:=K.all λp=>!wj p.2.cls
theorem Ad:∀{K:Vx},NC K=true->K.lookup a=some o->o.cls=.type "list"->False
 |[],_,e,_=>by cases e
 |(b,x)::r,h,e,c=>by
  unfold NC at h;rw[List.all_cons,SC]at h;rw[TU]at e;split at e
  .cases e;rw[c]at h;have h1:=h.1;simp[wj]at h1
  .exact Ad (K:=r) h.2 e c
section
variable{l:PySem.W.OpenLaw}{K:Params->Vx}{CX:World->CS}{sp:World->Sp}
def Ae(J:l.most=some n)(t:n<=sizeLine)(y:d.params.defaults=[])(L:c9 k callerA)(M:∀(w:World)(h:Heap),YP w h->(K w.params).In h)
 (D:∀w:World,NC (K w.params)=true/\NB (K w.params)=true)
 (F:∀(w:World)(mg:Str->Option Vz)(r:Addr)(h:Heap),(K w.params).In h->h.Ns mainGlobals mg->mg d.name=some (.ref r)->
   ∃fd:FuncData,(∀(s:Vw)(u:Vz),BindsTo s fd ⟨[u],[]⟩ [(x,u)])/\∀base:Heap,(K w.params).In base->base.Ns mainGlobals mg->bF l.prog w (K w.params) mg base (CX w) k r fd [x] (sp w))
 (z:∀(w:World)(H:Hp)(a:Addr)(ns:List Int),ns.length<=n->(∃o,H a=some (.bw o (.lst (ns.map V.int))))->sp w [.ref a] H (λv _=>v=.bl true) λ_ _ _=>False)
 (A:∀(w:World)(H:Hp)(s:Vw)(e:Vz)(B:Vw),CX w [] H s (λ_ _ _=>False) e B->False) :
 PySem.W.WalkO q loose XP YP l.row.toRowW d [] (λf vs=>PySem.call f vs):=by
 refine Att.attach_call J y λw s₀ j mg S r o pm U doc a vs ns G Y X hd N C m i E O=>?_;have I:=M w _ Y;obtain⟨fd,hb,P⟩:=F w mg r _ I G.T.g C;exact xL (kts:=[]) I G.T.g G.T.b G.T.builtins G.T.nolimit O m i (Rx E t) L (λo e c=>Ad (D w).1 e c) (λb xs e=>by cases e)
  (λp Q b xs e=>by have:=Vo.mp (D w).2 p Q;rw[e]at this;cases this) P hb (λH R=>z w H a ns E R) λH e B=>A w H j e B
end
end L2
namespace L2
open PySem PySem.Spec PySem.Calls PyProof.Rows
noncomputable abbrev K0:=Sum Int (List Int)
abbrev NX:=List (List K0×Addr×Vz)
noncomputable def NVs(H:Hp):List K0->List V->Prop
 |[],vs=>vs=[]
 |.inl i::ks,vs=>∃r,vs=.int i::r/\NVs H ks r
 |.inr l::ks,vs=>∃c r,vs=.ref c::r/\H c=some (.tup (l.map V.int))/\NVs H ks r
def KeyN(H:Hp)(k:List K0)(b:Addr):Prop:=∃vs,H b=some (.tup vs)/\NVs H k vs
section
variable{H H':Hp}
theorem NVs.mono(kt:∀b vs,H b=some (.tup vs)->H' b=some (.tup vs)):∀{k:List K0}{vs:List V},NVs H k vs->NVs H' k vs
 |[],_,h=>h
 |.inl i::ks,_,⟨r,e,h⟩=>⟨r,e,NVs.mono kt h⟩
 |.inr l::ks,_,⟨c,r,e,e2,h⟩=>⟨c,r,e,kt _ _ e2,NVs.mono kt h⟩
theorem KeyN.mono(kt:∀b vs,H b=some (.tup vs)->H' b=some (.tup vs))(h:KeyN H k b):KeyN H' k b:=let ⟨vs,e,q⟩:=h;⟨vs,kt _ _ e,q.mono kt⟩
end
end L2
namespace L3
open PySem PySem.Spec PyProof.Rows L2
abbrev DK:=Sum bW (List bW)
inductive D where
 |bz|bl (b:Bool)|int (i:Int)|str (x:Str)|tup (ds:List D)|lst (ds:List D)|qR (ks:List DK) (ds:List D)
mutual
noncomputable def D.flat:D->Bool
 |.lst _=>false
 |.qR _ _=>false
 |.tup ds=>D.lF ds
 |_=>true
noncomputable def D.lF:List D->Bool
 |[]=>true
 |d::ds=>d.flat&&D.lF ds
end
mutual
noncomputable def D.dep:D->Nat
 |.lst ds=>D.fJ ds+1
 |.tup ds=>D.fJ ds+1
 |.qR _ ds=>D.fJ ds+1000
 |_=>0
noncomputable def D.fJ:List D->Nat
 |[]=>0
 |d::ds=>max d.dep (D.fJ ds)
end
mutual
noncomputable def gZ:D->D->Bool
 |.bz,e=>match e with|.bz=>true|_=>false
 |.bl a,e=>match e with|.bl b=>a==b|.int b=>(if a then 1 else 0)==b|_=>false
 |.int a,e=>match e with|.int b=>a==b|.bl b=>a==(if b then 1 else 0)|_=>false
 |.str a,e=>match e with|.str b=>a==b|_=>false
 |.tup c,e=>match e with|.tup bs=>eqDs c bs|_=>false
 |.lst c,e=>match e with|.lst bs=>eqDs c bs|_=>false
 |.qR ks c,e=>match e with|.qR ls bs=>decide (ks=ls)&&eqDs c bs|_=>false
noncomputable def eqDs:List D->List D->Bool
 |[],bs=>match bs with|[]=>true|_=>false
 |a::c,bs=>match bs with|b::r=>gZ a b&&eqDs c r|[]=>false
end
mutual
theorem h7:∀d:D,gZ d d=true
 |.bz=>rfl
 |.bl a=>by simp[gZ]
 |.int a=>by simp[gZ]
 |.str a=>by simp[gZ]
 |.tup b=>by simp only[gZ];exact eqDs_refl b
 |.lst b=>by simp only[gZ];exact eqDs_refl b
 |.qR ks b=>by simp only[gZ,decide_true,Bool.true_and];exact eqDs_refl b
theorem eqDs_refl:∀ds:List D,eqDs ds ds=true
 |[]=>rfl
 |d::ds=>by simp only[eqDs,h7 d,eqDs_refl ds,Vk]
end
def DAt(H:Hp)(a:Addr)(ks:List DK)(vs:List V):Prop:=(∃kvs:List (bW×V),Rd H a (.dK kvs)/\ks=kvs.map (λp=>.inl p.1)/\vs=kvs.map Prod.snd)\/∃kvs:List (List bW×V),Rd H a (.dT kvs)/\ks=kvs.map (λp=>.inr p.1)/\vs=kvs.map Prod.snd
noncomputable def ND:HO->Prop
 |.lst _=>True
 |.dK _=>True
 |.dT _=>True
 |.ext _=>True
 |_=>False
def Mu(H:Hp)(a:Addr):Prop:=∃o,H a=some o/\ND o
theorem Mu.lst(h:H a=some (.lst vs)):Mu H a:=⟨_,h,True.intro⟩
def Mu.same(h:Mu H a)(s:∀o,H a=some o->H' a=some o):Mu H' a:=let ⟨o,e,m⟩:=h;⟨o,s o e,m⟩
def Mu.some(h:Mu H a):H a≠none:=by obtain⟨o,e,_⟩:=h;rw[e];simp
def FM(h:Rd H a u):∃o,H a=some o:=h.elim (λe=>⟨_,e⟩) λ⟨_,e⟩=>⟨_,e⟩
def Af(h:Rd H a u)(s:∀o,H a=some o->H' a=some o):Rd H' a u:=h.imp (s _) λ⟨o,e⟩=>⟨o,s _ e⟩
def DAt.obj(h:DAt H a ks vs):∃o,H a=some o:=h.elim (λ⟨_,e,_⟩=>FM e) λ⟨_,e,_⟩=>FM e
def DAt.keep(h:DAt H a ks vs)(s:∀o,H a=some o->H' a=some o):DAt H' a ks vs:=h.imp (λ⟨kvs,e,r⟩=>⟨kvs,Af e s,r⟩) λ⟨kvs,e,r⟩=>⟨kvs,Af e s,r⟩
def DAt.inj(h:DAt H a ks vs)(g:DAt H a ls ws):ks=ls/\vs=ws:=by rcases h with⟨k1,e1|⟨o1,e1⟩,b,c⟩|⟨k1,e1|⟨o1,e1⟩,b,c⟩<;>rcases g with⟨k2,e2|⟨d,e2⟩,q1,q2⟩|⟨k2,e2|⟨d,e2⟩,q1,q2⟩<;>(rw[e1]at e2;cases e2;try exact⟨b.trans q1.symm,c.trans q2.symm⟩)
noncomputable def NE:HO->Prop
 |.dK _=>False
 |.dT _=>False
 |.bw _ (.dK _)=>False
 |.bw _ (.dT _)=>False
 |_=>True
def DAt.no(h:DAt H a ks vs)(e:H a=some o)(n:NE o):False:=by rcases h with⟨k,z|⟨b,z⟩,_⟩|⟨k,z|⟨b,z⟩,_⟩<;>(rw[e]at z;cases z;exact n)
mutual
noncomputable def Is(H:Hp)(m:Addr->Prop):D->V->Prop
 |.bz,v=>v=.bz
 |.bl b,v=>v=.bl b
 |.int i,v=>v=.int i
 |.str x,v=>v=.str x
 |.tup ds,v=>∃a vs,v=.ref a/\H a=some (.tup vs)/\IsAll H m ds vs
 |.lst ds,v=>∃a vs,v=.ref a/\((H a=some (.lst vs)/\m a)\/∃o,H a=some (.bw o (.lst vs))/\m a)/\IsAll H m ds vs
 |.qR ks ds,v=>∃a vs,v=.ref a/\(DAt H a ks vs/\m a)/\IsAll H m ds vs
noncomputable def IsAll(H:Hp)(m:Addr->Prop):List D->List V->Prop
 |[],vs=>vs=[]
 |d::ds,vs=>∃v r,vs=v::r/\Is H m d v/\IsAll H m ds r
end
noncomputable def xN:HO->Prop
 |.tup _=>True
 |.bw _ _=>True
 |_=>False
section
mutual
theorem Is.mono(kp:∀a o,H a=some o->(m a\/xN o)->H' a=some o)(b:∀a o,H a=some o->m a->m' a):∀{d:D}{v:V},Is H m d v->Is H' m' d v
 |.bz,_,h=>h
 |.bl _,_,h=>h
 |.int _,_,h=>h
 |.str _,_,h=>h
 |.tup ds,_,h=>by obtain⟨a,vs,e,h1,h2⟩:=h;exact⟨a,vs,e,kp a _ h1 (.inr True.intro),IsAll.mono kp b h2⟩
 |.lst ds,_,h=>by
  obtain⟨a,vs,e,h1,h2⟩:=h;refine⟨a,vs,e,?_,IsAll.mono kp b h2⟩;rcases h1 with⟨h1,h3⟩|⟨o,h1,h3⟩
  .exact .inl ⟨kp a _ h1 (.inl h3),b a _ h1 h3⟩
  .exact .inr ⟨o,kp a _ h1 (.inr True.intro),b a _ h1 h3⟩
 |.qR ks ds,_,h=>by obtain⟨a,vs,e,h1,h2⟩:=h;obtain⟨o,c⟩:=h1.1.obj;exact⟨a,vs,e,⟨h1.1.keep λo e=>kp a o e (.inl h1.2),b a o c h1.2⟩,IsAll.mono kp b h2⟩
theorem IsAll.mono(kp:∀a o,H a=some o->(m a\/xN o)->H' a=some o)(b:∀a o,H a=some o->m a->m' a):∀{ds:List D}{vs:List V},IsAll H m ds vs->IsAll H' m' ds vs
 |[],_,h=>h
 |d::ds,_,h=>by obtain⟨v,r,e,h1,h2⟩:=h;exact⟨v,r,e,Is.mono kp b h1,IsAll.mono kp b h2⟩
end
def Is.weak(b:∀a,m a->m' a)(h:Is H m d v):Is H m' d v:=h.mono (λ_ _ e _=>e) λa _ _=>b a
def IsAll.weak(b:∀a,m a->m' a)(h:IsAll H m ds vs):IsAll H m' ds vs:=h.mono (λ_ _ e _=>e) λa _ _=>b a
def Is.same(s:Same H H')(h:Is H m d v):Is H' m d v:=h.mono (λa o e _=>s a o e) λ_ _ _ z=>z
def IsAll.same(s:Same H H')(h:IsAll H m ds vs):IsAll H' m ds vs:=h.mono (λa o e _=>s a o e) λ_ _ _ z=>z
mutual
theorem Is.flat:∀{d:D}{v:V},d.flat=true->Is H m d v->Is H m' d v
 |.bz,_,_,h=>h
 |.bl _,_,_,h=>h
 |.int _,_,_,h=>h
 |.str _,_,_,h=>h
 |.tup ds,_,f,h=>by obtain⟨a,vs,e,h1,h2⟩:=h;exact⟨a,vs,e,h1,IsAll.flat (by simpa only[D.flat]using f) h2⟩
 |.lst ds,_,f,_=>by simp[D.flat]at f
 |.qR ks ds,_,f,_=>by simp[D.flat]at f
theorem IsAll.flat:∀{ds:List D}{vs:List V},D.lF ds=true->IsAll H m ds vs->IsAll H m' ds vs
 |[],_,_,h=>h
 |d::ds,_,f,h=>by obtain⟨v,r,e,h1,h2⟩:=h;simp only[D.lF,SC]at f;exact⟨v,r,e,Is.flat f.1 h1,IsAll.flat f.2 h2⟩
end
mutual
theorem Is.inj:∀{d e:D}{v:V},Is H m d v->Is H m' e v->d=e
 |.bz,e,_,h,g=>by cases e<;>first|rfl|(cases h;first|(obtain⟨_,_,z,_⟩:=g;cases z;done)|cases g)
 |.bl _,e,_,h,g=>by cases e<;>(cases h;first|(obtain⟨_,_,z,_⟩:=g;cases z;done)|(cases g;rfl)|cases g)
 |.int _,e,_,h,g=>by cases e<;>(cases h;first|(obtain⟨_,_,z,_⟩:=g;cases z;done)|(cases g;rfl)|cases g)
 |.str _,e,_,h,g=>by cases e<;>(cases h;first|(obtain⟨_,_,z,_⟩:=g;cases z;done)|(cases g;rfl)|cases g)
 |.tup ds,e,_,h,g=>by
  obtain⟨a,vs,rfl,h1,h2⟩:=h;cases e with
  |tup es=>obtain⟨b,ws,z,g1,g2⟩:=g;cases z;rw[h1]at g1;cases g1;rw[IsAll.inj h2 g2]
  |lst es=>obtain⟨b,ws,z,g1,g2⟩:=g;cases z;rcases g1 with⟨g1,_⟩|⟨o,g1,_⟩<;>(rw[h1]at g1;cases g1)
  |qR ls es=>obtain⟨b,ws,z,g1,g2⟩:=g;cases z;exact(g1.1.no h1 True.intro).elim
  |_=>cases g
 |.lst ds,e,_,h,g=>by
  obtain⟨a,vs,rfl,h1,h2⟩:=h;cases e with
  |tup es=>obtain⟨b,ws,z,g1,g2⟩:=g;cases z;rcases h1 with⟨h1,_⟩|⟨o,h1,_⟩<;>(rw[h1]at g1;cases g1)
  |lst es=>
   obtain⟨b,ws,z,g1,g2⟩:=g;cases z;have e:vs=ws:=by rcases h1 with⟨h1,_⟩|⟨o,h1,_⟩<;>rcases g1 with⟨g1,_⟩|⟨c,g1,_⟩<;>(rw[h1]at g1;cases g1;try rfl)
   subst e;rw[IsAll.inj h2 g2]
  |qR ls es=>obtain⟨b,ws,z,g1,g2⟩:=g;cases z;rcases h1 with⟨h1,_⟩|⟨o,h1,_⟩<;>exact(g1.1.no h1 True.intro).elim
  |_=>cases g
 |.qR ks ds,e,_,h,g=>by
  obtain⟨a,vs,rfl,h1,h2⟩:=h;cases e with
  |tup es=>obtain⟨b,ws,z,g1,g2⟩:=g;cases z;exact(h1.1.no g1 True.intro).elim
  |lst es=>obtain⟨b,ws,z,g1,g2⟩:=g;cases z;rcases g1 with⟨g1,_⟩|⟨o,g1,_⟩<;>exact(h1.1.no g1 True.intro).elim
  |qR ls es=>obtain⟨b,ws,z,g1,g2⟩:=g;cases z;obtain⟨e1,e2⟩:=h1.1.inj g1.1;subst e1 e2;rw[IsAll.inj h2 g2]
  |_=>cases g
theorem IsAll.inj:∀{ds es:List D}{vs:List V},IsAll H m ds vs->IsAll H m' es vs->ds=es
 |[],es,_,h,g=>by
  cases h;cases es with
  |nil=>rfl
  |cons e es=>obtain⟨_,_,z,_⟩:=g;cases z
 |d::ds,es,_,h,g=>by
  obtain⟨v,r,rfl,h1,h2⟩:=h;cases es with
  |nil=>cases g
  |cons e es=>obtain⟨w,q,z,g1,g2⟩:=g;cases z;rw[Is.inj h1 g1,IsAll.inj h2 g2]
end
theorem IsAll.length:∀{ds:List D}{vs:List V},IsAll H m ds vs->vs.length=ds.length
 |[],_,h=>by cases h;rfl
 |d::ds,_,h=>by obtain⟨v,r,rfl,_,h2⟩:=h;simp[IsAll.length h2]
theorem IsAll.append:∀{ds es:List D}{vs ws:List V},IsAll H m ds vs->IsAll H m es ws->IsAll H m (ds++es) (vs++ws)
 |[],_,_,_,h,g=>by cases h;exact g
 |d::ds,_,_,_,h,g=>by obtain⟨v,r,rfl,h1,h2⟩:=h;exact⟨v,r++_,rfl,h1,IsAll.append h2 g⟩
theorem IsAll.get:∀{ds:List D}{vs:List V}{i:Nat}{d:D},IsAll H m ds vs->ds[i]?=some d->∃v,vs[i]?=some v/\Is H m d v
 |[],_,_,_,_,e=>by simp at e
 |d::ds,_,0,_,h,e=>by obtain⟨v,r,rfl,h1,h2⟩:=h;simp at e;subst e;exact⟨v,rfl,h1⟩
 |d::ds,_,i+1,_,h,e=>by obtain⟨v,r,rfl,h1,h2⟩:=h;obtain⟨w,a,b⟩:=IsAll.get (i:=i) h2 (by simpa using e);exact⟨w,by simpa using a,b⟩
theorem IsAll.take:∀{ds:List D}{vs:List V}(n:Nat),IsAll H m ds vs->IsAll H m (ds.take n) (vs.take n)
 |_,_,0,_=>rfl
 |[],_,n+1,h=>by cases h;exact rfl
 |d::ds,_,n+1,h=>by obtain⟨v,r,rfl,h1,h2⟩:=h;exact⟨v,r.take n,rfl,h1,IsAll.take n h2⟩
theorem IsAll.drop:∀{ds:List D}{vs:List V}(n:Nat),IsAll H m ds vs->IsAll H m (ds.drop n) (vs.drop n)
 |_,_,0,h=>h
 |[],_,n+1,h=>by cases h;exact rfl
 |d::ds,_,n+1,h=>by obtain⟨v,r,rfl,h1,h2⟩:=h;exact IsAll.drop n h2
end
section
variable{s:Vw}{m m':Addr->Prop}
def GZ(ok:HOk P w H s.heap)(h:(H a=some (.lst vs)/\m a)\/∃o,H a=some (.bw o (.lst vs))/\m a) :
 ∃its:List Vz,Vals vs its/\s.heap.IsList a its.toArray:=by
 have b:ObjOk P w H s.heap a (.lst vs)->∃its:List Vz,Vals vs its/\s.heap.IsList a its.toArray:=λ⟨_,its,n,r,e⟩=>⟨its,r,⟨_,e,rfl,n,rfl⟩⟩;rcases h with⟨h,_⟩|⟨o,h,_⟩
 .exact b (ok a _ h)
 .exact b (ok a _ h).2
def G4(ok:HOk P w H s.heap)(h:H a=some (.tup vs)):∃its:List Vz,Vals vs its/\s.heap.IsTuple a its.toArray:=by obtain⟨_,its,r,e⟩:=ok a _ h;exact⟨its,r,e⟩
def xO(n:Nat)(e:Nat->Bool):(List.range n).all e=true↔∀j,j<n->e j=true:=by simp[Vo,RG]
theorem mU:∀(ds es:List D),eqDs ds es=true↔ds.length=es.length/\∀(j:Nat)(d e:D),ds[j]?=some d->es[j]?=some e->gZ d e=true
 |[],[]=>by simp[eqDs]
 |[],e::es=>by simp[eqDs]
 |d::ds,[]=>by simp[eqDs]
 |d::ds,e::es=>by
  simp only[eqDs,SC,mU ds es,Rq,Nat.add_right_cancel_iff];constructor
  .rintro⟨h1,h2,h3⟩;refine⟨h2,λj x y ex a=>?_⟩;cases j with
   |zero=>simp at ex a;subst ex;subst a;exact h1
   |succ j=>exact h3 j x y (by simpa using ex) (by simpa using a)
  .rintro⟨h2,h3⟩;exact⟨h3 0 d e rfl rfl,h2,λj x y ex a=>h3 (j+1) x y (by simpa using ex) (by simpa using a)⟩
theorem eR:∀{ds:List D}{j:Nat}{d:D},ds[j]?=some d->d.dep<=D.fJ ds
 |[],_,_,e=>by simp at e
 |d::ds,0,_,e=>by simp at e;subst e;simp only[D.fJ];lia
 |d::ds,j+1,x,e=>by have:=eR (ds:=ds) (j:=j) (d:=x) (by simpa using e);simp only[D.fJ];lia
def pZ(ok:HOk P w H s.heap){A:VA}{ds es:List D}(h1:IsAll H m ds vs)(h2:IsAll H m' es ws)(c:Vals vs its)(f:Vals ws its2)
 (rec:∀d∈ds,∀e∈es,∀(v w:V)(u a:Vz),Is H m d v->Is H m' e w->RelV v u->RelV w a->SeqAt.EqAt A.in1 s u a (gZ d e)) :
 ∀j (g:j<its.toArray.size) (h:j<its2.toArray.size),SeqAt.EqAt A.in1 s its.toArray[j] its2.toArray[j] (match ds[j]?,es[j]? with|some d,some e=>gZ d e|_,_=>true):=by
 intro j g h;have p:=c.length;have q:=f.length;have r:=h1.length;have t:=h2.length;have x:j<its.length:=by simpa using g
 have y:j<its2.length:=by simpa using h
 have k1:j<ds.length:=by lia
 have k2:j<es.length:=by lia
 obtain⟨v,k,z⟩:=h1.get (i:=j) (d:=ds[j]) (by simp[k1]);obtain⟨B,b,l⟩:=h2.get (i:=j) (d:=es[j]) (by simp[k2]);obtain⟨u,C,ru⟩:=c.get k;obtain⟨a,n,o⟩:=f.get b
 grind
theorem uS(c:ds.length=es.length) :
 ((List.range ds.length).all λj=>match ds[j]?,es[j]? with|some d,some e=>gZ d e|_,_=>true)=eqDs ds es:=by
 rw[Uw,xO,mU];constructor
 .intro h;refine⟨c,λj d e b f=>?_⟩;have:=h j (Q2.mp b).1;rw[b,f]at this;exact this
 .rintro⟨_,h⟩ j g;have e1:ds[j]?=some ds[j]:=by simp[g]
  have a:j<es.length:=by lia
  have e2:es[j]?=some es[j]:=by simp[a]
  rw[e1,e2];exact h j _ _ e1 e2
theorem p8(a:ds.length≠es.length):eqDs ds es=false:=by grind [eqDs,mU]
end
section
variable{s:Vw}
abbrev mV(H:Hp)(s:Vw)(m b:Addr->Prop)(A:VA)(n:Nat):Prop:=∀(d e:D)(v w:V)(u a:Vz),d.dep<n->e.dep<1000->Is H m d v->Is H b e w->RelV v u->RelV w a->SeqAt.EqAt A.in1 s u a (gZ d e)
section
def uT(ok:HOk P w H s.heap)(i:(D.lst l1).dep<=n)(k:(D.lst l2).dep<1000)(f:A.units<cLine)(q1:IsAll H m l1 vs1)(q2:IsAll H m' l2 vs2)(g:Vals vs1 its1)(h:Vals vs2 its2)(p1:s.heap.IsList a1 its1.toArray)(p2:s.heap.IsList a2 its2.toArray)
 (rec:mV H s m m' A n):SeqAt.RcAt A s (.ref a1) (.ref a2) (gZ (.lst l1) (.lst l2)):=by
 have e1:its1.toArray.size=l1.length:=by rw[Ra,<- g.length,q1.length]
 have e2:its2.toArray.size=l2.length:=by rw[Ra,<- h.length,q2.length]
 have hd:∀d∈l1,d.dep<n:=λd hd=>by obtain⟨j,b⟩:=Rl.mp hd;have:=eR b;simp only[D.dep]at i;lia
 have l:∀e∈l2,e.dep<1000:=λd hd=>by obtain⟨j,b⟩:=Rl.mp hd;have:=eR b;simp only[D.dep]at k;lia
 by_cases a:l1.length=l2.length
 .have z:=SeqAt.RcAt.lists p1 p2 (by rw[e1,e2,a]) f (pZ ok q1 q2 g h λd hm e c v w u o p q r t=>rec d e v w u o (hd d hm) (l e c) p q r t);rw[e1,uS a]at z;exact z
 .have z:=SeqAt.RcAt.lists_lengths p1 p2 (by rw[e1,e2];simpa using a) f;rw[show gZ (.lst l1) (.lst l2)=eqDs l1 l2 from rfl,p8 a];exact z
def p_(ok:HOk P w H s.heap)(i:(D.lst l1).dep<=n)(k:(D.lst l2).dep<1000)(f:A.units<cLine)(q1:IsAll H m l1 vs1)(q2:IsAll H m' l2 vs2)(g:Vals vs1 its1)(h:Vals vs2 its2)(p1:s.heap.IsList a1 its1.toArray)(p2:s.heap.IsList a2 its2.toArray)
 (rec:mV H s m m' A n):SeqAt.RcNeAt A s (.ref a1) (.ref a2) (!gZ (.lst l1) (.lst l2)):=by
 have e1:its1.toArray.size=l1.length:=by rw[Ra,<- g.length,q1.length]
 have e2:its2.toArray.size=l2.length:=by rw[Ra,<- h.length,q2.length]
 have hd:∀d∈l1,d.dep<n:=λd hd=>by obtain⟨j,b⟩:=Rl.mp hd;have:=eR b;simp only[D.dep]at i;lia
 have l:∀e∈l2,e.dep<1000:=λd hd=>by obtain⟨j,b⟩:=Rl.mp hd;have:=eR b;simp only[D.dep]at k;lia
 by_cases a:l1.length=l2.length
 .have z:=SeqAt.RcNeAt.lists p1 p2 (by rw[e1,e2,a]) f (pZ ok q1 q2 g h λd hm e c v w u o p q r t=>rec d e v w u o (hd d hm) (l e c) p q r t);rw[e1,uS a]at z;exact z
 .have z:=SeqAt.RcNeAt.lists_lengths p1 p2 (by rw[e1,e2];simpa using a) f;rw[show gZ (.lst l1) (.lst l2)=eqDs l1 l2 from rfl,p8 a];exact z
def wn:((List.range (min l1.length l2.length)).all (λj=>match l1[j]?,l2[j]? with|some d,some e=>gZ d e|_,_=>true)&&l1.length==l2.length)=eqDs l1 l2:=by grind [uS,p8]
def xP(ok:HOk P w H s.heap)(g:(D.tup l1).dep<=n)(h:(D.tup l2).dep<1000)(i:A.units<cLine)(q1:IsAll H m l1 vs1)(q2:IsAll H m' l2 vs2)(c:Vals vs1 its1)(f:Vals vs2 its2)(p1:s.heap.IsTuple a1 its1.toArray)(p2:s.heap.IsTuple a2 its2.toArray)
 (rec:mV H s m m' A n):SeqAt.RcAt A s (.ref a1) (.ref a2) (gZ (.tup l1) (.tup l2)):=by
 have e1:its1.toArray.size=l1.length:=by rw[Ra,<- c.length,q1.length]
 have e2:its2.toArray.size=l2.length:=by rw[Ra,<- f.length,q2.length]
 have hd:∀d∈l1,d.dep<n:=λd hd=>by obtain⟨j,a⟩:=Rl.mp hd;have:=eR a;simp only[D.dep]at g;lia
 have k:∀e∈l2,e.dep<1000:=λd hd=>by obtain⟨j,a⟩:=Rl.mp hd;have:=eR a;simp only[D.dep]at h;lia
 have z:=SeqAt.RcAt.tuples p1 p2 i (pZ ok q1 q2 c f λd hm e b v w u l o p q r=>rec d e v w u l (hd d hm) (k e b) o p q r);rw[e1,e2,wn]at z;exact z
def rY(ok:HOk P w H s.heap)(g:(D.tup l1).dep<=n)(h:(D.tup l2).dep<1000)(i:A.units<cLine)(q1:IsAll H m l1 vs1)(q2:IsAll H m' l2 vs2)(c:Vals vs1 its1)(f:Vals vs2 its2)(p1:s.heap.IsTuple a1 its1.toArray)(p2:s.heap.IsTuple a2 its2.toArray)
 (rec:mV H s m m' A n):SeqAt.RcNeAt A s (.ref a1) (.ref a2) (!gZ (.tup l1) (.tup l2)):=by
 have e1:its1.toArray.size=l1.length:=by rw[Ra,<- c.length,q1.length]
 have e2:its2.toArray.size=l2.length:=by rw[Ra,<- f.length,q2.length]
 have hd:∀d∈l1,d.dep<n:=λd hd=>by obtain⟨j,a⟩:=Rl.mp hd;have:=eR a;simp only[D.dep]at g;lia
 have k:∀e∈l2,e.dep<1000:=λd hd=>by obtain⟨j,a⟩:=Rl.mp hd;have:=eR a;simp only[D.dep]at h;lia
 have z:=SeqAt.RcNeAt.tuples p1 p2 i (pZ ok q1 q2 c f λd hm e b v w u l o p q r=>rec d e v w u l (hd d hm) (k e b) o p q r);rw[e1,e2,wn]at z;exact z
def rZ(h:SeqAt.RcAt A s (.ref a1) (.ref a2) k)(a:a1=a2->k=true):SeqAt.EqAt A s (.ref a1) (.ref a2) k:=by
 by_cases e:a1=a2
 .subst e;rw[a rfl];exact SeqAt.EqAt.same _
 .exact SeqAt.EqAt.of_refs e h
end
def Is.shape(ok:HOk P w H s.heap)(c:d.dep<1000)(h:Is H m d v)(r:RelV v u):(d=.bz/\u=.none)\/(∃b,d=.bl b/\u=.bool b)\/(∃i t,d=.int i/\u=.int i t)\/(∃x t,d=.str x/\u=.str x t)\/
 (∃l a vs its,d=.lst l/\v=.ref a/\u=.ref a/\IsAll H m l vs/\Vals vs its/\s.heap.IsList a its.toArray)\/∃l a vs its,d=.tup l/\v=.ref a/\u=.ref a/\IsAll H m l vs/\Vals vs its/\s.heap.IsTuple a its.toArray:=by
 cases d with
 |bz=>cases h;cases r;exact .inl ⟨rfl,rfl⟩
 |bl b=>cases h;cases r;exact .inr (.inl ⟨b,rfl,rfl⟩)
 |int i=>cases h;obtain⟨t,rfl⟩:=r;exact .inr (.inr (.inl ⟨i,t,rfl,rfl⟩))
 |str x=>cases h;obtain⟨t,rfl⟩:=r;exact .inr (.inr (.inr (.inl ⟨x,t,rfl,rfl⟩)))
 |lst l=>obtain⟨a,vs,rfl,g,q⟩:=h;cases r;obtain⟨its,y,p⟩:=GZ ok g;exact .inr (.inr (.inr (.inr (.inl ⟨l,a,vs,its,rfl,rfl,rfl,q,y,p⟩))))
 |tup l=>obtain⟨a,vs,rfl,g,q⟩:=h;cases r;obtain⟨its,y,p⟩:=G4 ok g;exact .inr (.inr (.inr (.inr (.inr ⟨l,a,vs,its,rfl,rfl,rfl,q,y,p⟩))))
 |qR k l=>exact absurd c (by simp only[D.dep];lia)
def D0(ok:HOk P w H s.heap)(a:A.units<cLine)(rec:mV H s m m' A n)(t:d.dep<=n)(E:n<1000)(l:e.dep<1000)(h1:Is H m d v)(h2:Is H m' e w')(x:RelV v u)(y:RelV w' u') :
 SeqAt.RcNeAt A s u u' (!gZ d e):=by
 rcases h1.shape ok (by lia) x with⟨rfl,rfl⟩|⟨c,rfl,rfl⟩|⟨f,b,rfl,rfl⟩|⟨x1,b,rfl,rfl⟩|⟨z,B,o,j,rfl,rfl,rfl,q1,p,p1⟩|⟨z,B,o,j,rfl,rfl,rfl,q1,p,p1⟩<;>rcases h2.shape ok l y with⟨rfl,rfl⟩|⟨g,rfl,rfl⟩|⟨h,t2,rfl,rfl⟩|⟨i,t2,rfl,rfl⟩|⟨C,D,q,k,rfl,rfl,rfl,q2,r,p2⟩|⟨C,D,q,k,rfl,rfl,rfl,q2,r,p2⟩;exact .none_none;exact .none_bool g;exact .none_int h t2;exact .none_str i t2;exact .none_list p2 a;exact .none_tuple p2 a;exact .bool_none c;exact .bool_bool c g;exact .bool_int c h t2;exact .bool_str c i t2;exact .bool_list c p2 a;exact .bool_tuple c p2 a;exact .int_none f b;exact .int_bool f b g;exact .int_int f b h t2;exact .int_str f b i t2;exact .int_list f b p2 a;exact .int_tuple f b p2 a;exact .str_none x1 b;exact .str_bool x1 b g;exact .str_int x1 b h t2;exact .str_str x1 b i t2;exact .str_list x1 b p2 a;exact .str_tuple x1 b p2 a;exact .list_none p1 a;exact .list_bool g p1 a;exact .list_int h t2 p1 a;exact .list_str i t2 p1 a;exact p_ ok t l a q1 q2 p r p1 p2 rec;exact .list_tuple p1 p2 a;exact .tuple_none p1 a;exact .tuple_bool g p1 a;exact .tuple_int h t2 p1 a;exact .tuple_str i t2 p1 a;exact .tuple_list p1 p2 a;exact rY ok t l a q1 q2 p r p1 p2 rec
def wo(ok:HOk P w H s.heap)(a:A.units<cLine)(rec:mV H s m m' A n)(t:d.dep<=n)(F:n<1000)(l:e.dep<1000)(h1:Is H m d v)(h2:Is H m' e w')(x:RelV v u)(y:RelV w' u') :
 SeqAt.EqAt A s u u' (gZ d e):=by
 rcases h1.shape ok (by lia) x with⟨rfl,rfl⟩|⟨c,rfl,rfl⟩|⟨f,b,rfl,rfl⟩|⟨x1,b,rfl,rfl⟩|⟨B,C,o,j,rfl,rfl,rfl,q1,p,p1⟩|⟨B,C,o,j,rfl,rfl,rfl,q1,p,p1⟩<;>rcases h2.shape ok l y with⟨rfl,rfl⟩|⟨g,rfl,rfl⟩|⟨h,t2,rfl,rfl⟩|⟨i,t2,rfl,rfl⟩|⟨D,E,q,k,rfl,rfl,rfl,q2,r,p2⟩|⟨D,E,q,k,rfl,rfl,rfl,q2,r,p2⟩;exact .same _;exact .none_bool g;exact .none_int h t2;exact .none_str i t2;exact .none_list p2 a;exact .none_tuple p2 a;exact .bool_none c;exact .bool_bool c g;exact .bool_int c h t2;exact .bool_str c i t2;exact .bool_list c p2 a;exact .bool_tuple c p2 a;exact .int_none f b;exact .int_bool f b g;exact .int_int f b h t2;exact .int_str f b i t2;exact .int_list f b p2 a;exact .int_tuple f b p2 a;exact .str_none x1 b;exact .str_bool x1 b g;exact .str_int x1 b h t2;exact .str_str x1 b i t2;exact .str_list x1 b p2 a;exact .str_tuple x1 b p2 a;exact .list_none p1 a;exact .list_bool g p1 a;exact .list_int h t2 p1 a;exact .list_str i t2 p1 a;exact rZ (uT ok t l a q1 q2 p r p1 p2 rec) (λz=>by subst z;rw[Is.inj h1 h2];exact h7 _);exact .list_tuple p1 p2 a;exact .tuple_none p1 a;exact .tuple_bool g p1 a;exact .tuple_int h t2 p1 a;exact .tuple_str i t2 p1 a;exact .tuple_list p1 p2 a;exact rZ (xP ok t l a q1 q2 p r p1 p2 rec) (λz=>by subst z;rw[Is.inj h1 h2];exact h7 _)
theorem Ag(ok:HOk P w H s.heap):∀(n:Nat)(A:VA){d e:D}{v f:V}{u a:Vz},A.units+n<cLine->n<1000->d.dep<=n->e.dep<1000->Is H m d v->Is H m' e f->RelV v u->RelV f a->SeqAt.EqAt A s u a (gZ d e)
 |0,A,d,e,v,f,u,a,j,g,h,i,h1,h2,b,c=>wo ok (by lia) (λd e v w u a hd=>absurd hd (by lia)) h g i h1 h2 b c
 |n+1,A,d,e,v,f,u,a,j,g,h,i,h1,h2,b,c=>wo ok (by lia) (λd e v w u a hd k l o b c=>Ag ok n A.in1 (by show A.units+1+n<cLine;lia) (by lia) (by lia) k l o b c) h g i h1 h2 b c
def G5(ok:HOk P w H s.heap)(h:A.units+n<cLine)(i:n<1000):mV H s m m' A n:=λd e v w u j hd a b c f g=>Ag ok (n-1) A.in1 (by show A.units+1+(n-1)<cLine;lia) (by lia) (by lia) a b c f g
end
abbrev St:=L2.St
inductive Res(α:Type) where
 |stuck|ok (a:α)|exc (c:Str)
noncomputable def Res.bind{α b:Type}:Res α->(α->Res b)->Res b
 |.stuck,_=>.stuck
 |.exc c,_=>.exc c
 |.ok a,k=>k a
@[simp] theorem Res.qM {α b:Type}(a:α)(k:α->Res b):(Res.ok a).bind k=k a:=rfl
inductive Kd where
 |no|tr (d:D)|ds (d:D)
inductive Sl where
 |val (d:D) (fr:Bool)|own (ds:List D) (fr:Bool)|ze (d:D)|Jr (d:D)
noncomputable abbrev En:=List (Option Sl)
inductive R where
 |val (d:D) (fr:Bool) (al:List Nat)|new (ds:List D) (fr:Bool)|nX (d:D)
noncomputable def R.d:R->D
 |.val d _ _=>d
 |.new ds _=>.lst ds
 |.nX d=>d
noncomputable def R.fr:R->Bool
 |.val _ f _=>f
 |.new _ f=>f
 |.nX _=>true
noncomputable def R.al:R->List Nat
 |.val _ _ al=>al
 |.new _ _=>[]
 |.nX _=>[]
def og(d:D)(fr:Bool)(al:List Nat):R:=if d.flat then .val d true []else .val d fr al
structure Gd where
 H₀:Hp
 Ma:Addr->Prop
 Z:Addr->Prop
 root:Option V
 O_:Option V
noncomputable abbrev Ka(H:Hp)(Ma:Addr->Prop):Gd:=⟨H,Ma,λ_=>False,none,none⟩
def MuZ(g:Gd)(H:Hp)(a:Addr):Prop:=Mu H a\/(g.Z a/\∃o u,H a=some (.bw o u))
theorem MuZ.same(h:MuZ g H a)(s:∀o,H a=some o->H' a=some o):MuZ g H' a:=h.imp (λz=>z.same s) λ⟨z,o,u,e⟩=>⟨z,o,u,s _ e⟩
def kI(g:Gd)(M:Addr->Prop)(fr:Bool)(a:Addr):Prop:=M a/\(fr=true->g.H₀ a=none)
noncomputable abbrev Pr:=Nat->Addr->Prop
def vmsk(g:Gd)(M:Addr->Prop)(fr:Bool)(b:Pr)(al:List Nat)(a:Addr):Prop:=kI g M fr a\/∃i,i∈al/\b i a
mutual
noncomputable def IsSh(H:Hp)(m:Addr->Prop):D->V->Prop
 |.tup ds,v=>∃a vs,v=.ref a/\H a=some (.tup vs)/\IsShs H m ds vs
 |.lst _,v=>∃a vs,v=.ref a/\H a=some (.lst vs)/\m a
 |_,_=>True
noncomputable def IsShs(H:Hp)(m:Addr->Prop):List D->List V->Prop
 |[],_=>True
 |d::ds,vs=>∃v r,vs=v::r/\IsSh H m d v/\IsShs H m ds r
end
def Dst(H:Hp)(T:Addr->Prop)(v:V):Prop:=∃(a:Addr)(vs:List V),v=.ref a/\T a/\(H a=some (.lst vs)\/(∃kvs,H a=some (.dK kvs)/\vs=kvs.map Prod.snd)\/(H a=some (.dT [])/\vs=[]))/\V.ref a∉vs/\∀(i j:Nat)(b:Addr),vs[i]?=some (V.ref b)->vs[j]?=some (V.ref b)->i=j
def Dst.mono(kp:∀a o,T a->H a=some o->H' a=some o)(b:∀a,T a->T' a)(h:Dst H T v):Dst H' T' v:=by obtain⟨a,vs,e,ta,h1,h2⟩:=h;exact⟨a,vs,e,b a ta,h1.imp (kp a _ ta) (.imp (λ⟨kvs,q,z⟩=>⟨kvs,kp a _ ta q,z⟩) λ⟨q,z⟩=>⟨kp a _ ta q,z⟩),h2⟩
def KdOk(H:Hp)(T:Addr->Prop)(v:V):Kd->Prop
 |.no=>True
 |.tr d=>Is H T d v
 |.ds d=>Is H T d v/\Dst H T v
theorem KdOk.mono(kp:∀a o,H a=some o->(T a\/xN o)->H' a=some o)(h:KdOk H T v k):KdOk H' T v k:=by
 cases k with
 |no=>exact h
 |tr d=>exact Is.mono kp (λ_ _ _ z=>z) h
 |ds d=>exact⟨Is.mono kp (λ_ _ _ z=>z) h.1,h.2.mono (λa o z e=>kp a o e (.inl z)) λ_ z=>z⟩
noncomputable def Gd.rt(g:Gd)(n:Nat):Option V:=if n=0 then g.root else g.O_
def SlOk(g:Gd)(M T:Addr->Prop)(H:Hp)(v:V):Sl->Prop
 |.val d fr=>Is H (kI g M fr) d v
 |.own ds fr=>∃a vs,v=.ref a/\H a=some (.lst vs)/\(∀b,T b↔b=a)/\IsAll H (kI g M fr) ds vs
 |.ze d=>Is H T d v
 |.Jr d=>IsSh H T d v
noncomputable def Sl.Pt:Sl->Bool
 |.val _ _=>false
 |_=>true
def r_(env:En)(j:Nat):Bool:=match env[j]? with
 |some (some sl)=>sl.Pt
 |_=>false
structure Rep(g:Gd) (M:Addr->Prop) (ρ:Pr) (env:En) (σ:St) (H:Hp):Prop where
 same:Same g.H₀ H
 nV:∀a,M a->H a≠none
 zb:∀a,M a->g.H₀ a=none\/g.Ma a
 fl:∀a,M a->g.H₀ a=none->MuZ g H a
 slot:∀(i:Nat)(sl:Sl),env[i]?=some (some sl)->∃v,σ[i]?=some (some v)/\SlOk g M (ρ i) H v sl
 gY:∀(i:Nat)(a:Addr),ρ i a->¬M a/\g.H₀ a=none/\Mu H a
 apart:∀(i j:Nat)(a:Addr),ρ i a->ρ j a->i=j
 ow:∀(i:Nat)(a:Addr),ρ i a->r_ env i=true
 len:env.length=σ.length
 zz:∀a,g.Z a->H a≠none
def ROk(g:Gd)(M:Addr->Prop)(b:Pr)(c H:Hp)(v:V):R->Prop
 |.val d fr al=>Is H (vmsk g M fr b al) d v
 |.new ds fr=>∃a vs,v=.ref a/\H a=some (.lst vs)/\¬M a/\c a=none/\(∀i,¬b i a)/\IsAll H (kI g M fr) ds vs
 |.nX d=>∃T:Addr->Prop,(∀a,T a->¬M a/\c a=none/\Mu H a/\∀i,¬b i a)/\Is H T d v
structure Ext(M:Addr->Prop) (H:Hp) (M':Addr->Prop) (H':Hp):Prop where
 m:∀a,M a->M' a
 h:Same H H'
 n:∀a,M' a->M a\/H a=none
theorem Ext.refl(M:Addr->Prop)(H:Hp):Ext M H M H:=⟨λ_ z=>z,Same.refl H,λ_ z=>.inl z⟩
theorem Ext.trans{M M1 M2:Addr->Prop}(a:Ext M H M1 H1)(b:Ext M1 H1 M2 H2):Ext M H M2 H2:=⟨λx z=>b.m x (a.m x z),a.h.trans b.h,λx z=>(b.n x z).elim (a.n x) λw=>.inr (a.h.free w)⟩
section
mutual
theorem IsSh.mono(kp:∀a o,H a=some o->xN o->H' a=some o)(kl:∀a vs,m a->H a=some (.lst vs)->∃b,H' a=some (.lst b))(c:∀a,m a->m' a):∀{d:D}{v:V},IsSh H m d v->IsSh H' m' d v
 |.bz,_,h=>h
 |.bl _,_,h=>h
 |.int _,_,h=>h
 |.str _,_,h=>h
 |.tup ds,_,h=>by obtain⟨a,vs,e,h1,h2⟩:=h;exact⟨a,vs,e,kp a _ h1 True.intro,IsShs.mono kp kl c h2⟩
 |.lst ds,_,h=>by obtain⟨a,vs,e,h1,h2⟩:=h;obtain⟨b,h3⟩:=kl a vs h2 h1;exact⟨a,b,e,h3,c a h2⟩
 |.qR _ _,_,h=>h
theorem IsShs.mono(kp:∀a o,H a=some o->xN o->H' a=some o)(kl:∀a vs,m a->H a=some (.lst vs)->∃b,H' a=some (.lst b))(c:∀a,m a->m' a):∀{ds:List D}{vs:List V},IsShs H m ds vs->IsShs H' m' ds vs
 |[],_,h=>h
 |d::ds,_,h=>by obtain⟨v,r,e,h1,h2⟩:=h;exact⟨v,r,e,IsSh.mono kp kl c h1,IsShs.mono kp kl c h2⟩
end
def kI.mono(b:∀a,M a->M' a)(h:kI g M fr a):kI g M' fr a:=⟨b a h.1,h.2⟩
theorem vmsk.mono(b:∀a,M a->M' a)(h:vmsk g M fr ρ al a):vmsk g M' fr ρ al a:=h.imp (kI.mono b) id
def Is.ext(e:Ext M H M' H')(h:Is H (vmsk g M fr ρ al) d v):Is H' (vmsk g M' fr ρ al) d v:=h.mono (λa o q _=>e.h a o q) λ_ _ _ z=>z.mono e.m
def IsAll.ext(e:Ext M H M' H')(h:IsAll H (vmsk g M fr ρ al) ds vs):IsAll H' (vmsk g M' fr ρ al) ds vs:=h.mono (λa o q _=>e.h a o q) λ_ _ _ z=>z.mono e.m
theorem SlOk.weak(c:∀a,M a->M' a)(h:SlOk g M T H v sl):SlOk g M' T H v sl:=by
 cases sl with
 |val d fr=>exact Is.weak (λb z=>kI.mono c z) h
 |own ds fr=>obtain⟨b,vs,rfl,h1,h2,e⟩:=h;exact⟨b,vs,rfl,h1,h2,IsAll.weak (λb z=>kI.mono c z) e⟩
 |ze d=>exact h
 |Jr d=>exact h
theorem SlOk.same(s:Same H H')(h:SlOk g M T H v sl):SlOk g M T H' v sl:=by
 cases sl with
 |val d fr=>exact Is.same s h
 |own ds fr=>obtain⟨b,vs,rfl,h1,h2,c⟩:=h;exact⟨b,vs,rfl,s _ _ h1,h2,IsAll.same s c⟩
 |ze d=>exact Is.same s h
 |Jr d=>exact IsSh.mono (λa o e _=>s a o e) (λa vs _ e=>⟨vs,s _ _ e⟩) (λ_ z=>z) h
def Rep.CG{T:Addr->Prop}(r:Rep g M ρ env σ H)(ht:∀a,T a->Mu H a/\g.H₀ a=none/\∀i,¬ρ i a):Rep g (λb=>M b\/T b) ρ env σ H where
 same:=r.same
 nV:=λb hb=>hb.elim (r.nV b) λe=>(ht b e).1.some
 zb:=λb hb=>hb.elim (r.zb b) λe=>.inl (ht b e).2.1
 fl:=λb hb h0=>hb.elim (λz=>r.fl b z h0) λe=>.inl (ht b e).1
 slot:=λi sl e=>by obtain⟨v,ev,s⟩:=r.slot i sl e;exact⟨v,ev,SlOk.weak (λ_=>.inl) s⟩
 gY:=λi a h=>⟨λz=>z.elim (r.gY i a h).1 λz=>(ht a z).2.2 i h,(r.gY i a h).2⟩
 apart:=r.apart
 ow:=r.ow
 len:=r.len
 zz:=r.zz
def Rep.more{a:Addr}(r:Rep g M ρ env σ H)(ha:H a=some (.lst ws))(h0:g.H₀ a=none)(no:∀i,¬ρ i a):Rep g (λb=>M b\/b=a) ρ env σ H:=r.CG λb e=>by subst e;exact⟨Mu.lst ha,h0,no⟩
def Rep.grow(r:Rep g M ρ env σ H)(s:Same H H'):Rep g M ρ env σ H' where
 same:=r.same.trans s
 nV:=λa ha e=>by
  cases q:H a with
  |none=>exact r.nV a ha q
  |some o=>rw[s a o q]at e;cases e
 zb:=r.zb
 fl:=λa ha h0=>(r.fl a ha h0).same λo e=>s a o e
 slot:=λi sl e=>by obtain⟨v,ev,k⟩:=r.slot i sl e;exact⟨v,ev,SlOk.same s k⟩
 gY:=λi a h=>let ⟨a1,a2,a3⟩:=r.gY i a h;⟨a1,a2,a3.same λo e=>s a o e⟩
 apart:=r.apart
 ow:=r.ow
 len:=r.len
 zz:=λa z e=>by
  cases q:H a with
  |none=>exact r.zz a z q
  |some o=>rw[s a o q]at e;cases e
theorem Rep.free(r:Rep g M ρ env σ H)(h:H a=none):g.H₀ a=none/\¬M a/\∀i,¬ρ i a:=by refine⟨r.same.free h,λz=>r.nV a z h,λi o=>?_⟩;exact(r.gY i a o).2.2.some h
def aw(h:H a=none):Same H (upd H a o):=λb u e=>by rw[ai (ax e h)];exact e
theorem ROk.is(c:Rep g M ρ env σ H)(x:Ext M0 H0 M H)(h0:Same g.H₀ H0)(h:ROk g M ρ H0 H v r):∃f,Ext M0 H0 f H/\(∀a,M a->f a)/\Rep g f ρ env σ H/\Is H (vmsk g f r.fr ρ r.al) r.d v:=by
 cases r with
 |val d fr al=>exact⟨M,x,λ_ z=>z,c,h⟩
 |new ds fr=>obtain⟨a,vs,rfl,h1,h2,h3,k,l⟩:=h;have j:g.H₀ a=none:=h0.free h3;exact⟨λb=>M b\/b=a,⟨λb z=>.inl (x.m b z),x.h,λb z=>z.elim (x.n b) λe=>.inr (e▸h3)⟩,λ_=>.inl,c.more h1 j k,a,vs,rfl,.inl ⟨h1,.inl ⟨.inr rfl,λ_=>j⟩⟩,IsAll.weak (λb z=>.inl (kI.mono (λ_=>.inl) z)) l⟩
 |nX d=>obtain⟨T,i,is⟩:=h;exact⟨λb=>M b\/T b,⟨λb z=>.inl (x.m b z),x.h,λb z=>z.elim (x.n b) λe=>.inr (i b e).2.1⟩,λ_=>.inl,c.CG λa z=>let ⟨s,o,p,q⟩:=i a z;⟨p,h0.free o,q⟩,Is.weak (λb z=>.inl ⟨.inr z,λ_=>h0.free (i b z).2.1⟩) is⟩
theorem ROk.og(h:Is H (vmsk g M fr ρ al) d v):ROk g M ρ H0 H v (og d fr al):=by
 unfold L3.og;split
 .exact Is.flat (by assumption) h
 .exact h
def ROk.back(s:Same H1 H0)(h:ROk g M ρ H0 H v r):ROk g M ρ H1 H v r:=by
 cases r with
 |val d fr al=>exact h
 |new ds fr=>obtain⟨a,vs,rfl,h1,h2,h3,b,c⟩:=h;exact⟨a,vs,rfl,h1,h2,s.free h3,b,c⟩
 |nX d=>obtain⟨T,e,is⟩:=h;exact⟨T,λa z=>let ⟨f,i,j⟩:=e a z;⟨f,s.free i,j⟩,is⟩
end
def G6(mg:Str->Option Vz)(E:XK)(g:Gd)(c:Str):Prop:=∀cls dx H',mg c=some cls->Same g.H₀ H'->E cls dx H'
section
variable(mg:Str->Option Vz)(E:XK)(g:Gd)(M:Addr->Prop)(ρ:Pr)(env:En)(σ:St)(H:Hp)
def PostE(Q:VK):Res R->Prop
 |.stuck=>False
 |.exc c=>G6 mg E g c
 |.ok r=>∀v a H',Ext M H a H'->Rep g a ρ env σ H'->ROk g a ρ H H' v r->Q v H'
def gT(rs:List R):Bool:=rs.all R.fr
def gU(rs:List R):List Nat:=rs.flatMap R.al
def PostA(Q:List V->Hp->Prop):Res (List R)->Prop
 |.stuck=>False
 |.exc c=>G6 mg E g c
 |.ok rs=>∀vs a H',Ext M H a H'->Rep g a ρ env σ H'->IsAll H' (vmsk g a (gT rs) ρ (gU rs)) (rs.map R.d) vs->Q vs H'
noncomputable def PostT(Q:Bool->Hp->Prop):Res Bool->Prop
 |.stuck=>False
 |.exc c=>G6 mg E g c
 |.ok b=>∀a H',Ext M H a H'->Rep g a ρ env σ H'->Q b H'
end
def Snd(mg:Str->Option Vz)(E:XK)(t:TE)(f:En->Res R):Prop:=∀g M a env σ H Q,Rep g M a env σ H->PostE mg E g M a env σ H Q (f env)->t σ H Q
def SndA(mg:Str->Option Vz)(E:XK)(t:TA)(f:En->Res (List R)):Prop:=∀g M a env σ H Q,Rep g M a env σ H->PostA mg E g M a env σ H Q (f env)->t σ H Q
def SndT(mg:Str->Option Vz)(E:XK)(t:TT)(f:En->Res Bool):Prop:=∀g M a env σ H Q,Rep g M a env σ H->PostT mg E g M a env σ H Q (f env)->t σ H Q
def PD(X:Cx)(E:XK)(e:Expr)(f:En->Res R):Prop:=∃t,PE X e t/\Snd X.mg E t f
def JE(X:Cx)(E:XK)(es:List Expr)(f:En->Res (List R)):Prop:=∃t,PA X es t/\SndA X.mg E t f
def Pe(X:Cx)(E:XK)(e:Expr)(f:En->Res Bool):Prop:=∃t,PT X e t/\SndT X.mg E t f
section
def PostE.ext(e:Ext M H M' H')(p:PostE mg E g M ρ env σ H Q r):PostE mg E g M' ρ env σ H' Q r:=by
 cases r with
 |stuck=>exact p
 |exc c=>exact p
 |ok r=>exact λv M2 a e2 b ro=>p v M2 a (e.trans e2) b (ro.back e.h)
def PostA.ext(e:Ext M H M' H')(p:PostA mg E g M ρ env σ H Q r):PostA mg E g M' ρ env σ H' Q r:=by
 cases r with
 |stuck=>exact p
 |exc c=>exact p
 |ok r=>exact λv M2 a e2=>p v M2 a (e.trans e2)
def PostT.ext(e:Ext M H M' H')(p:PostT mg E g M ρ env σ H Q r):PostT mg E g M' ρ env σ H' Q r:=by
 cases r with
 |stuck=>exact p
 |exc c=>exact p
 |ok r=>exact λM2 a e2=>p M2 a (e.trans e2)
def PostE.val(p:PostE mg E g M ρ env σ H Q (.ok (og d fr al)))(a:Rep g M ρ env σ H)(h:Is H (vmsk g M fr ρ al) d v):Q v H:=p v M H (Ext.refl M H) a (ROk.og h)
theorem PostE.new(p:PostE mg E g M ρ env σ H Q (.ok (.new ds fr)))(b:Rep g M ρ env σ H)(ha:H a=none)(h:IsAll H (kI g M fr) ds vs):Q (.ref a) (upd H a (.lst vs)):=by have s:Same H (upd H a (.lst vs)):=aw ha;obtain⟨h0,hm,c⟩:=b.free ha;exact p _ M _ ⟨λ_ z=>z,s,λ_ z=>.inl z⟩ (b.grow s) ⟨a,vs,rfl,ag,hm,ha,c,IsAll.same s h⟩
theorem PostE.tup(p:PostE mg E g M ρ env σ H Q (.ok (og (.tup ds) fr al)))(b:Rep g M ρ env σ H)(ha:H a=none)(h:IsAll H (vmsk g M fr ρ al) ds vs):Q (.ref a) (upd H a (.tup vs)):=by have s:Same H (upd H a (.tup vs)):=aw ha;exact p _ M _ ⟨λ_ z=>z,s,λ_ z=>.inl z⟩ (b.grow s) (ROk.og ⟨a,vs,rfl,ag,IsAll.same s h⟩)
def Snd.one{t:TE}{f:En->Res R}(h:Snd mg E t f)(i:Rep g M ρ env σ H){α:Type}{K:R->Res α}{P:(M:Addr->Prop)->(H:Hp)->Res α->Prop}{Q:VK}
 (b:P M H ((f env).bind K)) (l:∀M H,P M H .stuck->False) (m:∀M H c,P M H (.exc c)->G6 mg E g c) (n:∀M H a H' r,Ext M H a H'->P M H r->P a H' r)
 (k:∀r v a H',Ext M H a H'->Rep g a ρ env σ H'->Is H' (vmsk g a r.fr ρ r.al) r.d v->P a H' (K r)->Q v H'):t σ H Q:=by
 refine h g M ρ env σ H Q i ?_;cases e:f env with
 |stuck=>rw[e]at b;exact l _ _ b
 |exc c=>rw[e]at b;exact m _ _ c b
 |ok r=>rw[e]at b;intro v M1 H1 e1 j ro;obtain⟨M2,e2,_,o,is⟩:=ro.is j e1 i.same;exact k r v M2 H1 e2 o is (n _ _ _ _ _ e2 b)
def Snd.tW{f:En->Res R}(h:Snd mg E t f)(b:Rep g M ρ env σ H){K:R->Res R}(c:PostE mg E g M ρ env σ H Q' ((f env).bind K))
 (k:∀r v a H',Ext M H a H'->Rep g a ρ env σ H'->Is H' (vmsk g a r.fr ρ r.al) r.d v->PostE mg E g a ρ env σ H' Q' (K r)->Q v H'):t σ H Q:=
 h.one b (P:=λM H r=>PostE mg E g M ρ env σ H Q' r) c (λ_ _ z=>z) (λ_ _ _ z=>z) (λ_ _ _ _ _ e p=>p.ext e) k
def Snd.Jo{f:En->Res R}(h:Snd mg E t f)(b:Rep g M ρ env σ H){K:R->Res (List R)}{c:List V->Hp->Prop}(i:PostA mg E g M ρ env σ H c ((f env).bind K))
 (k:∀r v a H',Ext M H a H'->Rep g a ρ env σ H'->Is H' (vmsk g a r.fr ρ r.al) r.d v->PostA mg E g a ρ env σ H' c (K r)->Q v H'):t σ H Q:=
 h.one b (P:=λM H r=>PostA mg E g M ρ env σ H c r) i (λ_ _ z=>z) (λ_ _ _ z=>z) (λ_ _ _ _ _ e p=>p.ext e) k
def Snd.O8{f:En->Res R}(h:Snd mg E t f)(b:Rep g M ρ env σ H){K:R->Res Bool}{c:Bool->Hp->Prop}(i:PostT mg E g M ρ env σ H c ((f env).bind K))
 (k:∀r v a H',Ext M H a H'->Rep g a ρ env σ H'->Is H' (vmsk g a r.fr ρ r.al) r.d v->PostT mg E g a ρ env σ H' c (K r)->Q v H'):t σ H Q:=
 h.one b (P:=λM H r=>PostT mg E g M ρ env σ H c r) i (λ_ _ z=>z) (λ_ _ _ z=>z) (λ_ _ _ _ _ e p=>p.ext e) k
def Snd.Jh{i j:En->Res R}(ha:Snd mg E ta i)(hb:Snd mg E tb j)(f:Rep g M ρ env σ H){K:R->R->Res R}{S:V->V->Hp->Prop}
 (l:PostE mg E g M ρ env σ H Q' ((i env).bind λa=>(j env).bind λb=>K a b))
 (k:∀a b x y e H',Rep g e ρ env σ H'->Is H' (vmsk g e a.fr ρ a.al) a.d x->Is H' (vmsk g e b.fr ρ b.al) b.d y->PostE mg E g e ρ env σ H' Q' (K a b)->S x y H') :
 ta σ H λx H1=>tb σ H1 λy h=>S x y h:=
 ha.tW f l λa x M1 H1 e1 c m p1=>hb.tW c p1 λb y M2 h e2 n o p2=>k a b x y M2 h n (m.ext e2) o p2
end
noncomputable def lim:Nat:=1000000
def mW(h:n<=lim):n<=sizeLine:=by rw[RB];unfold lim at h;lia
def Kb(ds:List D)(fr:Bool)(al:List Nat):R:=if D.lF ds then .new ds true else if al.isEmpty then .new ds fr else .val (.lst ds) fr al
section
def vmsk.nil(h:vmsk g M fr ρ [] a):kI g M fr a:=h.elim id λ⟨_,z,_⟩=>absurd z (by simp)
theorem PostE.lst(p:PostE mg E g M ρ env σ H Q (.ok (Kb ds fr al)))(c:Rep g M ρ env σ H)(ha:H a=none)(h:IsAll H (vmsk g M fr ρ al) ds vs):Q (.ref a) (upd H a (.lst vs)):=by
 unfold Kb at p;by_cases d:D.lF ds=true
 .rw[Re d]at p;exact p.new c ha (IsAll.flat d h)
 .rw[Rf d]at p;cases al with
  |nil=>exact PostE.new (p:=p) c ha (IsAll.weak (λ_ z=>z.nil) h)
  |cons i al=>have p:PostE mg E g M ρ env σ H Q (.ok (.val (.lst ds) fr (i::al))):=p;have s:Same H (upd H a (.lst vs)):=aw ha;obtain⟨h0,hm,f⟩:=c.free ha;refine p _ (λb=>M b\/b=a) _ ⟨λ_=>.inl,s,λb z=>z.imp id λ(e:b=a)=>by grind⟩ ((c.grow s).more ag h0 f) ⟨a,vs,rfl,.inl ⟨ag,.inl ⟨.inr rfl,λ_=>h0⟩⟩,?_⟩;exact(IsAll.same s h).weak λb z=>z.mono λ_=>.inl
def Is.rd(h:Is H m (.lst ds) v):∃a vs,v=.ref a/\Rd H a (.lst vs)/\IsAll H m ds vs:=by obtain⟨a,vs,e,h1,h2⟩:=h;exact⟨a,vs,e,h1.imp (·.1) λ⟨o,z,_⟩=>⟨o,z⟩,h2⟩
end
section
def gc(i:Nat):En->Res R:=λenv=>match env[i]? with
 |some (some (.val d fr))=>.ok (og d fr [])
 |some (some (.own ds fr))=>.ok (.val (.lst ds) fr [i])
 |some (some (.ze d))=>.ok (.val d true [i])
 |_=>.stuck
def wq:Snd mg E (au i) (gc i):=by
 intro g M f env σ H Q b p;unfold gc at p;cases e1:env[i]? with
 |none=>rw[e1]at p;exact p.elim
 |some o=>
  cases o with
  |none=>rw[e1]at p;exact p.elim
  |some sl=>
   obtain⟨v,c,k⟩:=b.slot i sl e1;rw[e1]at p;refine⟨v,c,?_⟩;cases sl with
   |val d fr=>exact PostE.val p b (Is.weak (λ_ z=>.inl z) k)
   |own ds fr=>obtain⟨a,vs,rfl,h1,h2,e⟩:=k;exact p _ M H (Ext.refl M H) b ⟨a,vs,rfl,.inl ⟨h1,.inr ⟨i,by simp,(h2 a).mpr rfl⟩⟩,IsAll.weak (λ_ z=>.inl z) e⟩
   |ze d=>exact p _ M H (Ext.refl M H) b (Is.weak (λa z=>.inr ⟨i,by simp,z⟩) k)
   |Jr d=>exact p.elim
def G7(h:PE X e (au i)):PD X E e (gc i):=⟨_,h,wq⟩
def vC(d:D):En->Res R:=λ_=>.ok (.val d true [])
def Kc(h:∀H m,Is H m d v):Snd mg E (tC v) (vC d):=λg M b env σ H Q a p=>p v M H (Ext.refl M H) a (h H _)
def dH{i j pos}:PD X E (.Constant (.int i) j pos) (vC (.int i)):=⟨_,ay,Kc λ_ _=>rfl⟩
def v2(op:R->R->Res R)(a b:En->Res R):En->Res R:=λenv=>(a env).bind λc=>(b env).bind λd=>op c d
def D3(X:Cx)(E:XK)(f:Vz->Vz->Sem Vz)(op:R->R->Res R):Prop:=∃r:R2,OpR X f r/\
 ∀g M a env σ H Q b c x y,Rep g M a env σ H->Is H (vmsk g M b.fr a b.al) b.d x->Is H (vmsk g M c.fr a c.al) c.d y->PostE X.mg E g M a env σ H Q (op b c)->r x y H Q
def h_(e:D3 X E (binaryOp op) k)(ha:PD X E a fa)(hb:PD X E b fb):PD X E (.BinOp a op b pos) (v2 k fa fb):=by obtain⟨r,h1,h2⟩:=e;obtain⟨ta,f,sa⟩:=ha;obtain⟨tb,h,i⟩:=hb;exact⟨_,aQ h1 f h,λg M j env σ H Q d p=>sa.Jh i d p λl m x y n H' c o q s=>h2 g n j env σ H' Q l m x y c o q s⟩
def oI(C:Int->Int->Bool)(k:Int->Int->D)(a b:R):Res R:=match a.d,b.d with
 |.int i,.int j=>if C i j then .ok (.val (k i j) true [])else .stuck
 |_,_=>.stuck
def wt{f:Vz->Vz->Sem Vz}{C:Int->Int->Prop}{kV:Int->Int->V}(c:Int->Int->Bool)(k:Int->Int->D)(l:OpR X f (rI C kV))(n:∀i j,c i j=true->C i j)(o:∀H m i j,Is H m (k i j) (kV i j)):D3 X E f (oI c k):=by
 refine⟨_,l,λg M s env σ H Q q r x y a b e p=>?_⟩;unfold oI at p;cases e1:q.d with
 |int i=>
  rw[e1]at p b;cases e2:r.d with
  |int j=>
   rw[e2]at p e;cases b;cases e;by_cases h:c i j=true
   .simp only[h,TB]at p;exact⟨i,j,rfl,rfl,n i j h,p _ M H (Ext.refl M H) a (o H _ i j)⟩
   .simp only[h]at p;exact p.elim
  |_=>rw[e2]at p;exact p.elim
 |_=>rw[e1]at p;exact p.elim
def G8{f:Vz->Vz->Sem Vz}{kV:Int->Int->V}(k:Int->Int->D)(c:OpR X f (ui kV))(d:∀H m i j,Is H m (k i j) (kV i j)):D3 X E f (oI (λ_ _=>true) k):=by refine wt (C:=λ_ _=>True) (kV:=kV) _ k (λac s σ H x y v u Q I e g h=>?_) (λ_ _ _=>True.intro) d;obtain⟨i,j,a,b,_,q⟩:=h;exact c ac s σ H x y v u Q I e g ⟨i,j,a,b,q⟩
noncomputable def Ah(i j:Int):Bool:=(decide (-(2^64)<i)&&decide (i<2^64)) ||(decide (-(2^64)<j)&&decide (j<2^64))
def G9:R->R->Res R:=oI Ah λi j=>.int (i*j)
def D4:R->R->Res R:=oI (λ_ j=>decide (0<j)&&decide (j<1073741824)) λi j=>.int (i/j)
def uU:R->R->Res R:=oI (λ_ j=>decide (0<j)) λi j=>.int (i%j)
def G_:D3 X E (binaryOp .Mult) G9:=wt _ _ gn (λi j h=>by simp only[Ah,Bool.or_eq_true,SC,S_]at h;exact h) λ_ _ _ _=>rfl
def Ai:D3 X E (binaryOp .FloorDiv) D4:=wt _ _ db (λi j h=>by simp only[SC,S_]at h;exact h) λ_ _ _ _=>rfl
def mX:D3 X E (binaryOp .Mod) uU:=wt _ _ b_ (λi j h=>by simpa using h) λ_ _ _ _=>rfl
def NF:R->R->Res R:=oI (λ_ _=>true) λi j=>.bl (decide (i<j))
def Ke:D3 X E (compareOp .Lt) NF:=G8 _ rq λ_ _ _ _=>rfl
def Inv.PF(I:L2.Inv X ac σ H s)(h:Rd H l (.lst xs)) :
 xs.length<=sizeLine/\∃(its:List Vz)(n:Nat),Vals xs its/\xs.length=its.length/\s.heap.get? l=some { cls:=.type "list",data:=.seq its.toArray n }:=by
 obtain⟨z,its,n,r,e⟩:=(h.ok I.aW:ObjOk X.prog X.w H s.heap l (.lst xs));exact⟨z,its,n,r,r.length,e⟩
def Kf:R2:=λx y H Q=>∃l b xs zs,x=.ref l/\y=.ref b/\Rd H l (.lst xs)/\Rd H b (.lst zs)/\xs.length+zs.length<=sizeLine/\∀p,H p=none->Q (.ref p) (upd H p (.lst (xs++zs)))
def op_catS:OpR X (binaryOp .Add) Kf:=by
 intro ac s σ H x y v u Q I c d h;obtain⟨l,b,xs,zs,rfl,rfl,f,g,hz,q⟩:=h;cases c;cases d;obtain⟨z,its,n,r,m,e⟩:=Inv.PF I f;obtain⟨o,a,n2,i,j,e2⟩:=Inv.PF I g;refine PySem.P.add_list e e2 ?_ (by grind);have k:its.toArray++a.toArray=(its++a).toArray:=by simp
 rw[k];exact⟨.ref _,_,I.MY (t':=s.toks) (r.append i) (by grind),rfl,q _ I.fresh⟩
def xQ(a b:R):Res R:=match a.d,b.d with
 |.int i,.int j=>.ok (.val (.int (i+j)) true [])
 |.lst xs,.lst c=>if xs.length+c.length<=lim then .ok (Kb (xs++c) (a.fr&&b.fr) (a.al++b.al))else .stuck
 |.tup xs,.tup c=>if xs.length+c.length<=lim/\xs≠[]then .ok (og (.tup (xs++c)) (a.fr&&b.fr) (a.al++b.al))else .stuck
 |.str x,.str y=>if x.length+y.length<=lim then .ok (.val (.str (x++y)) true [])else .stuck
 |_,_=>.stuck
section
def vmsk.l(h:vmsk g M f1 ρ l1 a):vmsk g M (f1&&f2) ρ (l1++l2) a:=h.imp (λz=>⟨z.1,λe=>z.2 (by grind)⟩) λ⟨i,b,o⟩=>⟨i,by simp[b],o⟩
def vmsk.r(h:vmsk g M f2 ρ l2 a):vmsk g M (f1&&f2) ρ (l1++l2) a:=h.imp (λz=>⟨z.1,λe=>z.2 (by grind)⟩) λ⟨i,b,o⟩=>⟨i,by simp[b],o⟩
end
def uV:D3 X E (binaryOp .Add) xQ:=by
 refine⟨_,op_add.or (op_catS.or (op_catT.or uk)),λg M t env σ H Q o m x y c e f p=>?_⟩;unfold xQ at p;cases e1:o.d with
 |int i=>
  rw[e1]at p e;cases e2:m.d with
  |int j=>rw[e2]at p f;cases e;cases f;exact .inl ⟨i,j,rfl,rfl,p _ M H (Ext.refl M H) c rfl⟩
  |_=>rw[e2]at p;exact p.elim
 |lst xs=>
  rw[e1]at p e;cases e2:m.d with
  |lst h=>
   rw[e2]at p f;obtain⟨a,vs,rfl,h1,h2⟩:=e.rd;obtain⟨b,ws,rfl,h3,k⟩:=f.rd;by_cases hz:xs.length+h.length<=lim
   .simp only[hz,TB]at p;refine .inr (.inl ⟨a,b,vs,ws,rfl,rfl,h1,h3,by rw[h2.length,k.length];exact mW hz,λq n=>?_⟩);exact p.lst c n ((h2.weak λ_ z=>z.l).append (k.weak λ_ z=>z.r))
   .simp only[hz,Sx]at p;exact p.elim
  |_=>rw[e2]at p;exact p.elim
 |tup xs=>
  rw[e1]at p e;cases e2:m.d with
  |tup h=>
   rw[e2]at p f;obtain⟨a,vs,rfl,h1,h2⟩:=e;obtain⟨b,ws,rfl,h3,k⟩:=f;dsimp only at p;by_cases hz:xs.length+h.length<=lim/\xs≠[]
   .rw[Re hz]at p;have n1:vs≠[]:=λz=>hz.2 (by have:=h2.length;rw[z]at this;exact UY this.symm);refine .inr (.inr (.inl ⟨a,b,vs,ws,rfl,rfl,SqT.of h1,SqT.of h3,n1,by rw[h2.length,k.length];exact mW hz.1,λz=>?_,λ_ q n=>?_⟩))
    .have s:h=[]:=by have:=k.length;rw[z]at this;exact UY this.symm
     rw[s,R_]at p;exact p.val c (Is.weak (d:=.tup xs) (λ_ z=>z.l) ⟨a,vs,rfl,h1,h2⟩)
    .exact p.tup c n ((h2.weak λ_ z=>z.l).append (k.weak λ_ z=>z.r))
   .rw[Rf hz]at p;exact p.elim
  |_=>rw[e2]at p;exact p.elim
 |str xs=>
  rw[e1]at p e;cases e2:m.d with
  |str h=>
   rw[e2]at p f;cases e;cases f;by_cases hz:xs.length+h.length<=lim
   .simp only[hz,TB]at p;exact .inr (.inr (.inr ⟨xs,h,rfl,rfl,mW hz,p _ M H (Ext.refl M H) c rfl⟩))
   .simp only[hz,Sx]at p;exact p.elim
  |_=>rw[e2]at p;exact p.elim
 |_=>rw[e1]at p;exact p.elim
def Hb:R2:=λx y H Q=>∃d e m a,Is H m d x/\Is H a e y/\(d.dep<=50/\e.dep<=50)/\Q (.bl (!gZ d e)) H
def Aj(c:X.A.units+64<cLine):OpR X (compareOp .NotEq) Hb:=by intro ac s σ H x y v u Q I a b h;obtain⟨d,e,m,f,h1,h2,hd,q⟩:=h;exact D0 I.aW (by lia) (G5 I.aW (A:=X.A) (n:=50) (by lia) (by lia)) hd.1 (by lia) (by lia) h1 h2 a b X.prog X.w X.xe _ ⟨.bl _,H,I,rfl,q⟩
end
section
variable{X:Cx}
def Kg(a:En->Res R):En->Res R:=λenv=>(a env).bind λc=>match c.d with
 |.bl b=>.ok (.val (.bl (!b)) true [])
 |_=>.stuck
def Kh(a b:En->Res R):En->Res R:=λenv=>(a env).bind λc=>match c.d with
 |.bl true=>b env
 |.bl false=>.ok (.val (.bl false) true [])
 |_=>.stuck
def Hc(ha:PD X E a fa):PD X E (.UnaryOp .Not a pos) (Kg fa):=by
 obtain⟨ta,j,sa⟩:=ha;refine⟨_,ug j,λg M l env σ H Q h p=>sa.tW h p λr v k H' e c i f=>?_⟩;cases q:r.d with
 |bl b=>rw[q]at i;simp only[q]at f;cases i;exact⟨b,rfl,f _ k H' (Ext.refl _ _) c rfl⟩
 |_=>simp only[q]at f;exact f.elim
def Hd(ha:PD X E a fa):PD X E (.BoolOp op [a] pos) fa:=let ⟨t,b,sa⟩:=ha;⟨t,uf b,sa⟩
def He{rest:List Expr}{k l:En->Res R}{f:Pos}(ha:PD X E a k)(hb:PD X E (.BoolOp .And (b::rest) f) l):PD X E (.BoolOp .And (a::b::rest) f) (Kh k l):=by
 obtain⟨ta,n,sa⟩:=ha;obtain⟨tb,o,s⟩:=hb;refine⟨_,zj n o,λg M t env σ H Q j p=>sa.tW j p λr v m H' e c i h=>?_⟩;cases q:r.d with
 |bl b=>
  rw[q]at i;simp only[q]at h;cases i;refine⟨b,rfl,?_⟩;cases b with
  |true=>exact iT (s g m t env σ H' Q c h)
  |false=>exact di (h _ m H' (Ext.refl _ _) c rfl)
 |_=>simp only[q]at h;exact h.elim
def vB(a:En->Res R):En->Res Bool:=λenv=>(a env).bind λc=>match c.d with
 |.bl b=>.ok b
 |_=>.stuck
def D5(m:D3 X E (compareOp op) k)(ha:PD X E a fa)(hb:PD X E b fb)(hm:behindInMarks op b=false):Pe X E (.Compare a [op] [b] pos) (vB (v2 k fa fb)):=by
 obtain⟨r,h1,h2⟩:=m;obtain⟨ta,n,sa⟩:=ha;obtain⟨tb,o,s⟩:=hb;have S:Snd X.mg E (bj r ta tb) (v2 k fa fb):=λg M l env σ H Q f p=>sa.Jh s f p λt u x y j H' c w z h=>h2 g j l env σ H' Q t u x y c w z h;refine⟨_,aY h1 n o hm,λg M l env σ H Q f p=>S.O8 f p λr v j H' e c i h=>?_⟩;cases q:r.d with
 |bl b=>rw[q]at i;simp only[q]at h;cases i;exact⟨b,rfl,h j H' (Ext.refl _ _) c⟩
 |_=>simp only[q]at h;exact h.elim
def FN(a b:R):Res R:=match a.d,b.d with
 |.lst xs,.int i=>match f_ xs i with
  |some d=>.ok (og d a.fr a.al)
  |none=>.stuck
 |.tup xs,.int i=>match f_ xs i with
  |some d=>.ok (og d a.fr a.al)
  |none=>.stuck
 |.str z,.int i=>if z.length<=lim then(match f_ z.cps.toList i with
  |some c=>.ok (.val (.str ⟨#[c]⟩) true [])
  |none=>.stuck)else .stuck
 |_,_=>.stuck
theorem IsAll.f_(h:IsAll H m ds vs)(e:L2.f_ ds i=some d):∃v,L2.f_ vs i=some v/\Is H m d v:=by
 unfold L2.f_ at e ⊢;rw[h.length];cases q:zy ds.length i with
 |none=>rw[q]at e;cases e
 |some j=>rw[q]at e;exact h.get e
def Ki:∃r:R2,IxR X r/\∀g M k env σ H Q f b x y,Rep g M k env σ H->Is H (vmsk g M f.fr k f.al) f.d x->Is H (vmsk g M b.fr k b.al) b.d y->PostE X.mg E g M k env σ H Q (FN f b)->r x y H Q:=by
 refine⟨_,GG,λg M k env σ H Q f b x y e h j p=>?_⟩;unfold FN at p;cases e1:f.d with
 |lst xs=>
  rw[e1]at p h;cases e2:b.d with
  |int i=>
   rw[e2]at p j;cases j;obtain⟨a,vs,rfl,h1,h2⟩:=h.rd;cases q:f_ xs i with
   |none=>simp only[q]at p;exact p.elim
   |some d=>simp only[q]at p;obtain⟨v,l,m⟩:=h2.f_ q;exact .inl ⟨a,vs,i,v,rfl,rfl,.inl h1,l,p.val e m⟩
  |_=>rw[e2]at p;exact p.elim
 |tup xs=>
  rw[e1]at p h;cases e2:b.d with
  |int i=>
   rw[e2]at p j;cases j;obtain⟨a,vs,rfl,h1,h2⟩:=h;cases q:f_ xs i with
   |none=>simp only[q]at p;exact p.elim
   |some d=>simp only[q]at p;obtain⟨v,l,m⟩:=h2.f_ q;exact .inr (.inl ⟨a,vs,i,v,rfl,rfl,SqT.of h1,l,p.val e m⟩)
  |_=>rw[e2]at p;exact p.elim
 |str z=>
  rw[e1]at p h;cases e2:b.d with
  |int i=>
   rw[e2]at p j;cases h;cases j;by_cases hz:z.length<=lim
   .simp only[hz,TB]at p;cases q:f_ z.cps.toList i with
    |none=>simp only[q]at p;exact p.elim
    |some c=>simp only[q]at p;exact .inr (.inr ⟨z,i,c,rfl,rfl,mW hz,q,p _ M H (Ext.refl _ _) e rfl⟩)
   .simp only[hz,Sx]at p;exact p.elim
  |_=>rw[e2]at p;exact p.elim
 |_=>rw[e1]at p;exact p.elim
def Al(i:Nat)(a:En->Res R):En->Res R:=λenv=>match env[i]? with
 |some (some (.own ds fr))=>(a env).bind λb=>match b.d with
  |.int k=>match f_ ds k with
   |some d=>.ok (og d fr [])
   |none=>.stuck
  |_=>.stuck
 |_=>v2 FN (gc i) a env
def Hf(ha:PE X a (au i))(hb:PD X E b fb)(u:vV b):PD X E (.Subscript a b pos) (Al i fb):=by
 obtain⟨r,h1,h2⟩:=Ki (X:=X) (E:=E);obtain⟨tb,A,t⟩:=hb;refine⟨_,aN (ix_list.or h1) ha A u,λg M l env σ H Q j p=>?_⟩;have gen:PostE X.mg E g M l env σ H Q (v2 FN (gc i) fb env)->bj (λx y H Q=>kE X.K x y H Q\/r x y H Q) (au i) tb σ H Q:=λp=>Snd.Jh wq t j p λB n x y s H' c C m f=>.inr (h2 g s l env σ H' Q B n x y c C m f);unfold Al at p;cases e1:env[i]? with
 |none=>rw[e1]at p;exact gen p
 |some o=>
  cases o with
  |none=>rw[e1]at p;exact gen p
  |some sl=>
   cases sl with
   |val d fr=>rw[e1]at p;exact gen p
   |ze d=>rw[e1]at p;exact gen p
   |Jr d=>rw[e1]at p;exact gen p
   |own ds fr=>
    rw[e1]at p;obtain⟨v,D,a,vs,rfl,k1,k2,F⟩:=j.slot i _ e1;refine⟨_,D,t.tW j p λn y s H' e c m f=>?_⟩;cases q:n.d with
    |int k=>
     rw[q]at m;simp only[q]at f;cases m;cases q2:f_ ds k with
     |none=>simp only[q2]at f;exact f.elim
     |some d=>simp only[q2]at f;have G:IsAll H' (vmsk g s fr l []) ds vs:=(IsAll.weak (λ_ z=>.inl z) F:IsAll H (vmsk g M fr l []) ds vs).ext e;obtain⟨w,I,J⟩:=G.f_ q2;exact .inl ⟨a,vs,k,w,rfl,rfl,.inl (.inl (e.h _ _ k1)),I,f.val c J⟩
    |_=>simp only[q]at f;exact f.elim
end
section
def SndA.one{t:TA}{f:En->Res (List R)}(h:SndA mg E t f)(j:Rep g M ρ env σ H){α:Type}{K:List R->Res α}{P:(M:Addr->Prop)->(H:Hp)->Res α->Prop}{Q:List V->Hp->Prop}
 (b:P M H ((f env).bind K)) (l:∀M H,P M H .stuck->False) (m:∀M H c,P M H (.exc c)->G6 mg E g c) (n:∀M H a H' r,Ext M H a H'->P M H r->P a H' r)
 (k:∀rs vs a H',Ext M H a H'->Rep g a ρ env σ H'->IsAll H' (vmsk g a (gT rs) ρ (gU rs)) (rs.map R.d) vs->P a H' (K rs)->Q vs H'):t σ H Q:=by
 refine h g M ρ env σ H Q j ?_;cases e:f env with
 |stuck=>rw[e]at b;exact l _ _ b
 |exc c=>rw[e]at b;exact m _ _ c b
 |ok r=>rw[e]at b;exact λvs M1 H1 e1 i is=>k r vs M1 H1 e1 i is (n _ _ _ _ _ e1 b)
def SndA.tW{f:En->Res (List R)}(h:SndA mg E t f)(b:Rep g M ρ env σ H){K:List R->Res R}{Q:List V->Hp->Prop}(c:PostE mg E g M ρ env σ H Q' ((f env).bind K))
 (k:∀rs vs a H',Ext M H a H'->Rep g a ρ env σ H'->IsAll H' (vmsk g a (gT rs) ρ (gU rs)) (rs.map R.d) vs->PostE mg E g a ρ env σ H' Q' (K rs)->Q vs H'):t σ H Q:=
 h.one b (P:=λM H r=>PostE mg E g M ρ env σ H Q' r) c (λ_ _ z=>z) (λ_ _ _ z=>z) (λ_ _ _ _ _ e p=>p.ext e) k
def SndA.Jo{f:En->Res (List R)}(h:SndA mg E t f)(b:Rep g M ρ env σ H){K:List R->Res (List R)}{c:List V->Hp->Prop}{Q:List V->Hp->Prop}(i:PostA mg E g M ρ env σ H c ((f env).bind K))
 (k:∀rs vs a H',Ext M H a H'->Rep g a ρ env σ H'->IsAll H' (vmsk g a (gT rs) ρ (gU rs)) (rs.map R.d) vs->PostA mg E g a ρ env σ H' c (K rs)->Q vs H'):t σ H Q:=
 h.one b (P:=λM H r=>PostA mg E g M ρ env σ H c r) i (λ_ _ z=>z) (λ_ _ _ z=>z) (λ_ _ _ _ _ e p=>p.ext e) k
def IsAll.args(h1:Is H (vmsk g M r.fr ρ r.al) r.d v)(h2:IsAll H (vmsk g M (gT rs) ρ (gU rs)) (rs.map R.d) vs) :
 IsAll H (vmsk g M (gT (r::rs)) ρ (gU (r::rs))) ((r::rs).map R.d) (v::vs):=by
 refine⟨v,vs,rfl,h1.weak λa z=>?_,h2.weak λa z=>?_⟩
 .exact(z.l:vmsk g M (r.fr&&gT rs) ρ (r.al++gU rs) a)
 .exact(z.r:vmsk g M (r.fr&&gT rs) ρ (r.al++gU rs) a)
end
section
noncomputable def xR:En->Res (List R):=λ_=>.ok []
def lr(f:En->Res R)(fs:En->Res (List R)):En->Res (List R):=λenv=>(f env).bind λr=>(fs env).bind λrs=>.ok (r::rs)
def qa:JE X E [] xR:=⟨_,ao,λg M b env σ H Q a p=>p [] M H (Ext.refl _ _) a rfl⟩
def jM(c:PD X E e f)(d:JE X E es fs)(h:autoParam (starEach (e::es) X.env=(false,eval e X.env)::starEach es X.env) aM):JE X E (e::es) (lr f fs):=by obtain⟨t,p1,s1⟩:=c;obtain⟨u,p2,s2⟩:=d;refine⟨_,aa p1 p2 h,λg M m env σ H Q b p=>s1.Jo b p λr v M1 H1 e1 a i q1=>s2.Jo a q1 λrs vs M2 j e2 k l q2=>?_⟩;exact q2 (v::vs) M2 j (Ext.refl _ _) k (IsAll.args (i.ext e2) l)
end
def nl(b H':Hp)(a:Addr):Prop:=b a=none/\Mu H' a
def RetOk(g:Gd)(H':Hp)(v:V):R->Prop
 |.val d fr _=>Is H' (λa=>nl g.H₀ H' a\/(fr=false/\g.Ma a)) d v
 |.new ds fr=>∃a vs,v=.ref a/\H' a=some (.lst vs)/\g.H₀ a=none/\IsAll H' (λb=>b≠a/\(nl g.H₀ H' b\/(fr=false/\g.Ma b))) ds vs
 |.nX d=>Is H' (nl g.H₀ H') d v
def Kj(mg:Str->Option Vz)(E:XK)(g:Gd)(Q:VK):Res R->Prop
 |.stuck=>False
 |.exc c=>G6 mg E g c
 |.ok r=>∀v H',Same g.H₀ H'->RetOk g H' v r->Q v H'
def oh(mg:Str->Option Vz)(n:Nat)(F:List D->Res R):Sp:=λvs H Q E=>vs.length=n/\∃ds Ma,IsAll H Ma ds vs/\Kj mg E (Ka H Ma) Q (F ds)
def Nb(d:D)(fr:Bool)(rs:List R):R:=if d.flat then .val d true []else if fr then .nX d else .val d (gT rs) (gU rs)
def lu(rs:List R):R->R
 |.val d fr _=>Nb d fr rs
 |.new ds fr=>if D.lF ds then .new ds true else if fr then .nX (.lst ds)else if(gU rs).isEmpty then .new ds (gT rs)else .val (.lst ds) (gT rs) (gU rs)
 |.nX d=>Nb d true rs
section
def Rep.came(b:Rep g M ρ env σ H)(s:Same H H')(p:Addr->Prop):Rep g (λa=>M a\/(nl H H' a/\p a)) ρ env σ H':=(b.grow s).CG λa z=>⟨z.1.2,b.same.free z.1.1,(b.free z.1.1).2.2⟩
def An(rs:List R)(b:Rep g M ρ env σ H)(s:Same H H')(h:Is H' (λa=>nl H H' a\/(fr=false/\vmsk g M (gT rs) ρ (gU rs) a)) d v) :
 ∃c,Ext M H c H'/\Rep g c ρ env σ H'/\ROk g c ρ H H' v (Nb d fr rs):=by
 unfold Nb;by_cases e:d.flat=true
 .rw[Re e];exact⟨M,⟨λ_ z=>z,s,λ_ z=>.inl z⟩,b.grow s,Is.flat e h⟩
 .rw[Rf e];cases fr with
  |true=>
   refine⟨M,⟨λ_ z=>z,s,λ_ z=>.inl z⟩,b.grow s,nl H H',λa z=>?_,?_⟩
   .exact⟨λw=>b.nV a w z.1,z.1,z.2,(b.free z.1).2.2⟩
   .exact Is.weak (λa z=>z.elim id λw=>by cases w.1) h
  |false=>
   refine⟨_,⟨λ_=>.inl,s,λ_ z=>z.imp id (·.1.1)⟩,b.came s λ_=>True,?_⟩;refine Is.weak (λa z=>?_) h;rcases z with z|⟨_,z⟩
   .exact .inl ⟨.inr ⟨z,True.intro⟩,λ_=>b.same.free z.1⟩
   .exact z.mono λ_=>.inl
def RetOk.caller(rs:List R)(c:Rep g M ρ env σ H)(s:Same H H')(h:RetOk (Ka H (vmsk g M (gT rs) ρ (gU rs))) H' v r) :
 ∃i,Ext M H i H'/\Rep g i ρ env σ H'/\ROk g i ρ H H' v (lu rs r):=by
 cases r with
 |val d fr al=>exact An rs c s h
 |nX d=>exact An rs c s (Is.weak (λa z=>.inl z) h)
 |new ds fr=>
  obtain⟨a,vs,rfl,h1,h2,h3⟩:=h;have h2:H a=none:=h2;obtain⟨p,t,j⟩:=c.free h2;have k:Rep g (λb=>M b\/(nl H H' b/\b≠a)) ρ env σ H':=c.came s λb=>b≠a;have q:¬(M a\/(nl H H' a/\a≠a)):=λz=>z.elim t λz=>z.2 rfl;have l:Ext M H (λb=>M b\/(nl H H' b/\b≠a)) H':=⟨λ_=>.inl,s,λ_ z=>z.imp id (·.1.1)⟩;unfold lu;dsimp only;by_cases f:D.lF ds=true
  .rw[Re f];exact⟨_,l,k,a,vs,rfl,h1,q,h2,j,IsAll.flat f h3⟩
  .rw[Rf f];cases fr with
   |true=>
    refine⟨M,⟨λ_ z=>z,s,λ_ z=>.inl z⟩,c.grow s,nl H H',λa z=>?_,?_⟩
    .exact⟨λw=>c.nV a w z.1,z.1,z.2,(c.free z.1).2.2⟩
    .exact⟨a,vs,rfl,.inl ⟨h1,h2,Mu.lst h1⟩,IsAll.weak (λb z=>z.2.elim id λw=>by cases w.1) h3⟩
   |false=>
    simp only[Ro,Sx];by_cases m:(gU rs).isEmpty=true
    .rw[Re m];refine⟨_,l,k,a,vs,rfl,h1,q,h2,j,?_⟩;refine IsAll.weak (λb z=>?_) h3;rcases z with⟨o,z|⟨u,z⟩⟩
     .exact⟨.inr ⟨z,o⟩,λ_=>c.same.free z.1⟩
     .have x:gU rs=[]:=by simpa using m
      have z:vmsk g M (gT rs) ρ (gU rs) b:=z;rw[x]at z;exact⟨.inl z.nil.1,z.nil.2⟩
    .rw[Rf m];refine⟨λb=>(M b\/(nl H H' b/\b≠a))\/b=a,⟨λ_ z=>.inl (.inl z),s,λb z=>z.elim (l.n b) λe=>.inr (e▸h2)⟩,k.more h1 p j,a,vs,rfl,.inl ⟨h1,.inl ⟨.inr rfl,λ_=>p⟩⟩,?_⟩;refine IsAll.weak (λb z=>?_) h3;rcases z with⟨o,z|⟨u,z⟩⟩
     .exact .inl ⟨.inl (.inr ⟨z,o⟩),λ_=>c.same.free z.1⟩
     .exact vmsk.mono (λ_ w=>.inl (.inl w)) z
end
section
variable{X:Cx}{ps:List Str}
def mY(F:List D->Res R)(fs:En->Res (List R)):En->Res R:=λenv=>(fs env).bind λrs=>(F (rs.map R.d)).bind λr=>.ok (lu rs r)
def Ao(j:∀env rs,fs env=.ok rs->rs.length=ps.length)(s:SndA X.mg E t fs):Snd X.mg E (bO (oh X.mg ps.length F) [] E t) (mY F fs):=by
 intro g M i env σ H Q f p;refine s g M i env σ H _ f ?_;unfold mY at p;cases e:fs env with
 |stuck=>rw[e]at p;exact p
 |exc c=>rw[e]at p;exact p
 |ok rs=>
  rw[e]at p;intro vs M1 H1 e1 a is;have p1:PostE X.mg E g M1 i env σ H1 Q ((F (rs.map R.d)).bind λr=>.ok (lu rs r)):=PostE.ext e1 p;rw[R_];refine⟨by rw[is.length,Q0];exact j env rs e,rs.map R.d,_,is,?_⟩;cases q:F (rs.map R.d)with
  |stuck=>rw[q]at p1;exact p1
  |exc c=>rw[q]at p1;exact λcls dx H' h1 h2=>p1 cls dx H' h1 (a.same.trans h2)
  |ok r=>rw[q]at p1;intro v k s2 ro;obtain⟨l,e3,b,h⟩:=RetOk.caller rs a s2 ro;exact p1 v l k e3 b h
def D7(G:bF X.prog X.w X.K X.mg X.base CX k f fd ps (oh X.mg ps.length F))(c:c9 k X.A)(d:Gl X x)(hm:X.mg x=some (.ref f))(g:keepIn X.K (.ref f)=true)(hb:Binds X.K fd ps [])(h:fh CX X E)
 (ha:JE X E (e::es) fs) (i:∀env rs,fs env=.ok rs->rs.length=ps.length) (a:autoParam (dB x) ab) (j:autoParam (sE X e es) aM) (b:autoParam (bT X pos es) aM) :
 PD X E (.Call (.Name x p) (e::es) [] pos) (mY F fs):=by
 obtain⟨t,p1,s1⟩:=ha;exact⟨_,aS G c d hm g hb .nil h p1 a j b,Ao i s1⟩
def si:∀env rs,xR env=.ok rs->rs.length=0:=λ_ _ e=>by cases e;rfl
def kJ{f:En->Res R}{fs:En->Res (List R)}(h:∀env rs,fs env=.ok rs->rs.length=n):∀env rs,lr f fs env=.ok rs->rs.length=n+1:=λenv rs e=>by
 unfold lr at e;cases q:f env with
 |stuck=>rw[q]at e;cases e
 |exc c=>rw[q]at e;cases e
 |ok r=>
  rw[q]at e;cases q2:fs env with
  |stuck=>simp only[Res.qM,q2]at e;cases e
  |exc c=>simp only[Res.qM,q2]at e;cases e
  |ok a=>simp only[Res.qM,q2]at e;cases e;simp[h env a q2]
def FO(X:Cx)(E:XK)(f:Vz)(k:List R->Res R):Prop:=∃r,CallR X f r/\
 ∀g M a env σ H Q rs vs,Rep g M a env σ H->IsAll H (vmsk g M (gT rs) a (gU rs)) (rs.map R.d) vs->PostE X.mg E g M a env σ H Q (k rs)->r vs H Q
def NG(k:List R->Res R)(fs:En->Res (List R)):En->Res R:=λenv=>(fs env).bind k
def Ap{id:String}{k:List R->Res R}(f:FO X E (.builtin id) k) (h:Gl X x) (hm:X.mg x=none) (i:bootBuiltins x=some (.builtin id)) (ha:JE X E (e::es) fs) (j:autoParam (x≠"__name__") ab) (b:autoParam (dB x) ab)
 (l:autoParam (starEach (e::es) X.env=(false,eval e X.env)::starEach es X.env) aM) (c:autoParam (bT X pos es) aM):PD X E (.Call (.Name x p) (e::es) [] pos) (NG k fs):=by
 obtain⟨r,h1,h2⟩:=f;obtain⟨t,p1,s1⟩:=ha;exact⟨_,aR h1 h hm i p1 j b l c,λg M m env σ H Q d p=>s1.tW d p λrs vs M1 H1 e1 a n q1=>h2 g M1 m env σ H1 Q rs vs a n q1⟩
def Aq:List R->Res R
 |[r]=>match r.d with
  |.lst ds=>.ok (.val (.int ds.length) true [])
  |.tup ds=>.ok (.val (.int ds.length) true [])
  |.str z=>if z.length<=lim then .ok (.val (.int z.length) true [])else .stuck
  |_=>.stuck
 |_=>.stuck
def Hg:FO X E (.builtin "len") Aq:=by
 refine⟨_,call_len_seq.or pN,λg M e env σ H Q rs vs c i p=>?_⟩;rcases rs with _|⟨r,_|_⟩
 .exact p.elim
 rotate_left
 .exact p.elim
 obtain⟨v,w,rfl,b,f⟩:=i;cases f;have b:Is H (vmsk g M (gT [r]) e (gU [r])) r.d v:=b;unfold Aq at p;dsimp only at p;cases q:r.d with
 |lst ds=>rw[q]at p b;obtain⟨a,ws,rfl,h1,h2⟩:=b.rd;exact .inl ⟨a,ws,rfl,.inl (.inl h1),by rw[h2.length];exact p _ M H (Ext.refl _ _) c rfl⟩
 |tup ds=>rw[q]at p b;obtain⟨a,ws,rfl,h1,h2⟩:=b;exact .inl ⟨a,ws,rfl,.inr (SqT.of h1),by rw[h2.length];exact p _ M H (Ext.refl _ _) c rfl⟩
 |str z=>
  rw[q]at p b;cases b;by_cases hz:z.length<=lim
  .simp only[hz,TB]at p;exact .inr ⟨z,rfl,mW hz,p _ M H (Ext.refl _ _) c rfl⟩
  .simp only[hz,Sx]at p;exact p.elim
 |_=>rw[q]at p;exact p.elim
end
inductive Fl where
 |nx (env:En)|rt (r:R)|bk (env:En)|ct (env:En)|rm (r:R) (env:En)
structure qW(M:Addr->Prop) (H:Hp) (M':Addr->Prop) (H':Hp):Prop where
 m:∀a,M a->M' a
 h:∀a o,H a=some o->(M a\/xN o)->H' a=some o
def qW.refl(M:Addr->Prop)(H:Hp):qW M H M H:=⟨λ_ z=>z,λ_ _ e _=>e⟩
def qW.trans{M M1 M2:Addr->Prop}(a:qW M H M1 H1)(b:qW M1 H1 M2 H2):qW M H M2 H2:=⟨λx z=>b.m x (a.m x z),λx o e z=>b.h x o (a.h x o e z) (z.imp (a.m x) id)⟩
def Ext.bw(e:Ext M H M' H'):qW M H M' H':=⟨e.m,λa o q _=>e.h a o q⟩
section
variable(mg:Str->Option Vz)(E:XK)(g:Gd)(M:Addr->Prop)(H:Hp)(D:Ends)
def PostS:Res Fl->Prop
 |.stuck=>False
 |.exc c=>G6 mg E g c
 |.ok (.nx env)=>∀σ b e H',qW M H b H'->Rep g b e env σ H'->D.nx σ H'
 |.ok (.bk env)=>∀σ b e H',qW M H b H'->Rep g b e env σ H'->D.bk σ H'
 |.ok (.ct env)=>∀σ b e H',qW M H b H'->Rep g b e env σ H'->D.ct σ H'
 |.ok (.rt r)=>∀v b H',qW M H b H'->Same g.H₀ H'->((∀a,¬g.Z a)->RetOk g H' v r)->(r.d.flat=true->Is H' (λ_=>False) r.d v)->D.rt v H'
 |.ok (.rm r env)=>∀v σ b e f H',qW M H b H'->Rep g b e env σ H'->Same g.H₀ f->ROk g b e f H' v r->D.rt v H'
end
def Hh(mg:Str->Option Vz)(E:XK)(t:TS)(f:En->Res Fl):Prop:=∀g M a env σ H D,Rep g M a env σ H->PostS mg E g M H D (f env)->t D σ H
def JF(X:Cx)(E:XK)(st:Stmt)(f:En->Res Fl):Prop:=∃t,PS X st t/\Hh X.mg E t f
def sj(X:Cx)(E:XK)(st:List Stmt)(f:En->Res Fl):Prop:=∃t,PSs X st t/\Hh X.mg E t f
section
variable{D:Ends}
def PostS.bw(e:qW M H M' H')(p:PostS mg E g M H D r):PostS mg E g M' H' D r:=by
 cases r with
 |stuck=>exact p
 |exc c=>exact p
 |ok r=>cases r with
  |nx env=>exact λσ M2 a b e2=>p σ M2 a b (e.trans e2)
  |bk env=>exact λσ M2 a b e2=>p σ M2 a b (e.trans e2)
  |ct env=>exact λσ M2 a b e2=>p σ M2 a b (e.trans e2)
  |rt r=>exact λv M2 b e2=>p v M2 b (e.trans e2)
  |rm r env=>exact λv σ M2 a d b e2=>p v σ M2 a d b (e.trans e2)
def Snd.Cu{f:En->Res R}(h:Snd mg E t f)(i:Rep g M ρ env σ H){K:R->Res Fl}(a:PostS mg E g M H D ((f env).bind K))
 (k:∀r v d H',Ext M H d H'->Rep g d ρ env σ H'->ROk g d ρ H H' v r->PostS mg E g d H' D (K r)->Q v H'):t σ H Q:=by
 refine h g M ρ env σ H Q i ?_;cases e:f env with
 |stuck=>rw[e]at a;exact a
 |exc c=>rw[e]at a;exact a
 |ok r=>rw[e]at a;exact λv M1 H1 e1 b ro=>k r v M1 H1 e1 b ro (PostS.bw e1.bw a)
def SndT.Cu{f:En->Res Bool}(h:SndT mg E t f)(i:Rep g M ρ env σ H){K:Bool->Res Fl}{Q:Bool->Hp->Prop}(a:PostS mg E g M H D ((f env).bind K))
 (k:∀b j H',qW M H j H'->Rep g j ρ env σ H'->PostS mg E g j H' D (K b)->Q b H'):t σ H Q:=by
 refine h g M ρ env σ H Q i ?_;cases e:f env with
 |stuck=>rw[e]at a;exact a
 |exc c=>rw[e]at a;exact a
 |ok r=>rw[e]at a;exact λM1 H1 e1 d=>k r M1 H1 e1.bw d (PostS.bw e1.bw a)
noncomputable def Kk(b:Pr)(i:Nat):Pr:=λj a=>if j=i then False else b j a
def uW(h:j≠i):Kk ρ i j=ρ j:=by funext a;unfold Kk;rw[Rf h]
def mZ(h:Kk ρ i j a):j≠i/\ρ j a:=by grind [Kk]
noncomputable def Ar(b:Pr)(i:Nat)(T:Addr->Prop):Pr:=λj a=>if j=i then T a else b j a
def gq(h:j≠i):Ar ρ i T j=ρ j:=by funext a;unfold Ar;rw[Rf h]
def jN:Ar ρ i T i=T:=by funext a;unfold Ar;rw[Re rfl]
def fX(env:En)(i:Nat):En:=match env[i]? with
 |some (some (.own ds fr))=>env.set i (some (.val (.lst ds) fr))
 |some (some (.ze d))=>env.set i (some (.val d true))
 |some (some (.Jr _))=>env.set i none
 |_=>env
def bw(env:En)(al:List Nat):En:=al.foldl fX env
def wu(h:j≠i):(fX env i)[j]?=env[j]?:=by unfold fX;split<;>first|rfl|exact Tg (Si h)
def sk(i:Nat):(fX env i).length=env.length:=by unfold fX;split<;>simp
theorem qb:∀(al:List Nat)(env:En),(bw env al).length=env.length
 |[],_=>rfl
 |i::al,env=>by show(bw (fX env i) al).length=_;rw[qb al,sk]
theorem Rep.fX(rep:Rep g M ρ env σ H)(i:Nat):Rep g (λa=>M a\/ρ i a) (Kk ρ i) (fX env i) σ H where
 same:=rep.same
 nV:=λb hb=>hb.elim (rep.nV b) λz=>(rep.gY i b z).2.2.some
 zb:=λb hb=>hb.elim (rep.zb b) λz=>.inl (rep.gY i b z).2.1
 fl:=λb hb h0=>hb.elim (λz=>rep.fl b z h0) λz=>.inl (rep.gY i b z).2.2
 slot:=λj sl ej=>by
  by_cases hj:j=i
  .subst hj;cases e:env[j]? with
   |none=>
    have:L3.fX env j=env:=by unfold L3.fX;rw[e]
    rw[this,e]at ej;cases ej
   |some o=>
    have hi:j<env.length:=(Q2.mp e).1;cases o with
    |none=>
     have:L3.fX env j=env:=by unfold L3.fX;rw[e]
     rw[this,e]at ej;cases ej
    |some s0=>
     obtain⟨v,ev,k⟩:=rep.slot j s0 e;cases s0 with
     |val d fr=>
      have:L3.fX env j=env:=by unfold L3.fX;rw[e]
      rw[this,e]at ej;cases ej;exact⟨v,ev,Is.weak (λb z=>kI.mono (λ_=>.inl) z) k⟩
     |own ds fr=>
      have:L3.fX env j=env.set j (some (.val (.lst ds) fr)):=by unfold L3.fX;rw[e]
      rw[this,SH hi]at ej;cases ej;obtain⟨a,vs,rfl,h1,h2,h4⟩:=k;have ha:=(h2 a).mpr rfl;exact⟨_,ev,a,vs,rfl,.inl ⟨h1,.inr ha,λ_=>(rep.gY j a ha).2.1⟩,IsAll.weak (λb z=>kI.mono (λ_=>.inl) z) h4⟩
     |ze d=>
      have:L3.fX env j=env.set j (some (.val d true)):=by unfold L3.fX;rw[e]
      rw[this,SH hi]at ej;cases ej;exact⟨v,ev,Is.weak (λb z=>⟨.inr z,λ_=>(rep.gY j b z).2.1⟩) k⟩
     |Jr d=>
      have:L3.fX env j=env.set j none:=by unfold L3.fX;rw[e]
      rw[this,SH hi]at ej;cases ej
  .rw[wu hj]at ej;obtain⟨v,ev,k⟩:=rep.slot j sl ej;exact⟨v,ev,by rw[uW hj];exact SlOk.weak (λ_=>.inl) k⟩
 gY:=λj a h=>by obtain⟨hj,h⟩:=mZ h;exact⟨λz=>z.elim (rep.gY j a h).1 λz=>hj (rep.apart j i a h z),(rep.gY j a h).2⟩
 apart:=λj k a h1 h2=>rep.apart j k a (mZ h1).2 (mZ h2).2
 ow:=λj a h=>by obtain⟨hj,h⟩:=mZ h;have:=rep.ow j a h;unfold r_ at this ⊢;rw[wu hj];exact this
 len:=by rw[sk];exact rep.len
 zz:=rep.zz
theorem Rep.bw:∀(al:List Nat){env:En}{M:Addr->Prop}{b:Pr},Rep g M b env σ H->∃(h:Addr->Prop)(c:Pr),(∀a,M a->h a)/\Rep g h c (L3.bw env al) σ H/\(∀i,i∈al->∀a,b i a->h a)/\(∀j a,c j a->b j a)/\(∀j,¬j∈al->c j=b j)
 |[],env,M,b,d=>⟨M,b,λ_ z=>z,d,λ_ z=>absurd z (by simp),λ_ _ o=>o,λ_ _=>rfl⟩
 |i::al,env,M,b,d=>by
  obtain⟨M2,k,e2,l,m,k2,n⟩:=Rep.bw al (d.fX i);refine⟨M2,k,λa z=>e2 a (.inl z),l,λj f a o=>?_,λj a o=>(mZ (k2 j a o)).2,λj f=>?_⟩
  .by_cases e:j=i
   .exact e2 a (.inr (e▸o))
   .exact m j ((Q_.mp f).resolve_left e) a (by rw[uW e];exact o)
  .rw[n j λz=>f (by simp[z]),uW λz=>f (by simp[z])]
def Is.frozen(b:Rep g M ρ env σ H)(e:∀a,M a->M' a)(hm:∀i,i∈al->∀a,ρ i a->M' a)(h:Is H (vmsk g M fr ρ al) d v):Is H (kI g M' fr) d v:=h.weak λa z=>z.elim (kI.mono e) λ⟨i,c,o⟩=>⟨hm i c a o,λ_=>(b.gY i a o).2.1⟩
def Rep.put(b:Rep g M ρ env σ H)(l:i<env.length)(ok:SlOk g M T H v sl)(e:∀a,T a->¬M a/\g.H₀ a=none/\Mu H a/\∀j,j≠i->¬ρ j a)(n:autoParam (∀a,T a->sl.Pt=true) VF._auto_1) :
 Rep g M (Ar ρ i T) (env.set i (some sl)) (σ.set i (some v)) H:=by
 have m:i<σ.length:=by rw[<- b.len];exact l
 refine⟨b.same,b.nV,b.zb,b.fl,λj s f=>?_,λj a h=>?_,λj k a h1 h2=>?_,λj a h=>?_,by rw[List.length_set,List.length_set];exact b.len,b.zz⟩
 .by_cases c:j=i
  .subst c;rw[SH l]at f;cases f;exact⟨v,SH m,by rw[jN];exact ok⟩
  .rw[Tg (Si c)]at f;obtain⟨w,o,k⟩:=b.slot j s f;exact⟨w,by rw[Tg (Si c)];exact o,by rw[gq c];exact k⟩
 .by_cases c:j=i
  .subst c;rw[jN]at h;exact⟨(e a h).1,(e a h).2.1,(e a h).2.2.1⟩
  .rw[gq c]at h;exact b.gY j a h
 .by_cases c:j=i
  .by_cases d:k=i
   .rw[c,d]
   .subst c;rw[jN]at h1;rw[gq d]at h2;exact absurd h2 ((e a h1).2.2.2 k d)
  .by_cases d:k=i
   .subst d;rw[jN]at h2;rw[gq c]at h1;exact absurd h1 ((e a h2).2.2.2 j c)
   .rw[gq c]at h1;rw[gq d]at h2;exact b.apart j k a h1 h2
 .unfold r_;by_cases c:j=i
  .subst c;rw[jN]at h;rw[SH l];exact n a h
  .rw[gq c]at h;rw[Tg (Si c)];exact b.ow j a h
def put(env:En)(i:Nat):R->En
 |.new ds fr=>env.set i (some (.own ds fr))
 |.val d fr al=>(bw env al).set i (some (.val d fr))
 |.nX d=>env.set i (some (.ze d))
def Rep.store(c:Rep g M ρ env σ H)(h0:Same g.H₀ H0)(k:i<env.length)(h:ROk g M ρ H0 H v r):∃m l,qW M H m H/\Rep g m l (L3.put env i r) (σ.set i (some v)) H:=by
 cases r with
 |new ds fr=>obtain⟨a,vs,rfl,h1,h2,h3,n,o⟩:=h;exact⟨M,_,qW.refl _ _,c.put (sl:=.own ds fr) (T:=λb=>b=a) k ⟨a,vs,rfl,h1,λ_=>Iff.rfl,o⟩ λb e=>by subst e;exact⟨h2,h0.free h3,Mu.lst h1,λj _=>n j⟩⟩
 |val d fr al=>obtain⟨M1,p,e1,f,o1,k1,_⟩:=Rep.bw al c;exact⟨M1,_,⟨e1,λ_ _ e _=>e⟩,f.put (sl:=.val d fr) (T:=λ_=>False) (by rw[qb];exact k) (Is.frozen c e1 o1 h) (λ_ z=>z.elim) λ_ z=>z.elim⟩
 |nX d=>obtain⟨T,q,is⟩:=h;exact⟨M,_,qW.refl _ _,c.put (sl:=.ze d) (T:=T) k is λb z=>let ⟨s,t,u,w⟩:=q b z;⟨s,h0.free t,u,λj _=>w j⟩⟩
end
section
noncomputable def Hi:En->Res Fl:=λenv=>.ok (.nx env)
def sn(f k:En->Res Fl):En->Res Fl:=λenv=>(f env).bind λr=>match r with
 |.nx a=>k a
 |r=>.ok r
def Au:sj X E [] Hi:=⟨_,bC,λg M b env σ H D a p=>p σ M b H (qW.refl _ _) a⟩
def jO{st:Stmt}{f:En->Res Fl}(h:JF X E st f):sj X E [st] f:=let ⟨t,a,b⟩:=h;⟨t,aB a,b⟩
def gd{st:Stmt}{rest:List Stmt}{f k:En->Res Fl}(h1:JF X E st f)(h2:sj X E rest k):sj X E (st::rest) (sn f k):=by
 obtain⟨t,a,b⟩:=h1;obtain⟨u,c,d⟩:=h2;refine⟨_,av a c,λg M n env σ H D j p=>b g M n env σ H _ j ?_⟩;unfold sn at p;cases q:f env with
 |stuck=>rw[q]at p;exact p
 |exc c=>rw[q]at p;exact p
 |ok r=>
  rw[q]at p;cases r with
  |nx i=>exact λl o m H' e h=>d g o m i l H' D h (PostS.bw e p)
  |bk i=>exact p
  |ct i=>exact p
  |rt r=>exact p
  |rm r i=>exact p
def NH(c:En->Res Bool)(a b:En->Res Fl):En->Res Fl:=λenv=>(c env).bind λk=>if k then a env else b env
def Hj(k:Pe X E c fc)(ha:sj X E a fa)(hb:sj X E b fb):JF X E (.If c a b pos) (NH fc fa fb):=by
 obtain⟨m,p1,s1⟩:=k;obtain⟨ta,p2,s2⟩:=ha;obtain⟨tb,p3,l⟩:=hb;refine⟨_,cr p1 p2 p3,λg M h env σ H D f p=>s1.Cu f p λb i H' e d j=>?_⟩;cases b with
 |true=>exact iT (s2 g i h env σ H' D d j)
 |false=>exact di (l g i h env σ H' D d j)
def xS(f:En->Res R):En->Res Fl:=λenv=>(f env).bind λr=>.ok (.rt r)
def ROk.ret(c:Rep g M ρ env σ H)(h0:Same g.H₀ H0)(h:ROk g M ρ H0 H v r)(hz:∀a,¬g.Z a):RetOk g H v r:=by
 have j:∀a,M a->g.H₀ a=none->Mu H a:=λa h1 h2=>(c.fl a h1 h2).elim id λz=>(hz a z.1).elim;have f:∀{fr:Bool}{a:Addr},kI g M fr a->nl g.H₀ H a\/(fr=false/\g.Ma a):=λ{fr a} z=>by
  cases fr with
  |true=>exact .inl ⟨z.2 rfl,j a z.1 (z.2 rfl)⟩
  |false=>exact(c.zb a z.1).imp (λw=>⟨w,j a z.1 w⟩) λw=>⟨rfl,w⟩
 cases r with
 |val d fr al=>exact Is.weak (λa z=>z.elim f λ⟨i,_,o⟩=>.inl (c.gY i a o).2) h
 |new ds fr=>obtain⟨a,vs,rfl,h1,h2,h3,p,k⟩:=h;exact⟨a,vs,rfl,h1,h0.free h3,IsAll.weak (λb z=>⟨λe=>h2 (e▸z.1),f z⟩) k⟩
 |nX d=>obtain⟨T,l,is⟩:=h;exact Is.weak (λa z=>let ⟨_,m,n,_⟩:=l a z;⟨h0.free m,n⟩) is
def ROk.flatIs(h:ROk g M ρ H0 H v r)(a:r.d.flat=true):Is H (λ_=>False) r.d v:=by
 cases r with
 |val d fr al=>exact Is.flat a h
 |new ds fr=>simp[D.flat,R.d]at a
 |nX d=>obtain⟨T,_,is⟩:=h;exact Is.flat a is
def lX(h:PD X E e f):JF X E (.Return (some e) pos) (xS f):=by obtain⟨t,p1,s1⟩:=h;exact⟨_,ba p1,λg M j env σ H D b p=>s1.Cu b p λr v c H' e a ro d=>d v c H' (qW.refl _ _) a.same (λhz=>ro.ret a b.same hz) λi=>ro.flatIs i⟩
def xT(i:Nat)(f:En->Res R):En->Res Fl:=λenv=>(f env).bind λr=>if i<env.length then .ok (.nx (put env i r))else .stuck
def D8(s:Snd mg E t f):Hh mg E (bb t (aA i)) (xT i f):=by
 intro g M k env σ H D a p;refine s.Cu a p λr v l H' e b ro c=>?_;by_cases d:i<env.length
 .rw[Re d]at c;obtain⟨M2,h,e2,j⟩:=b.store a.same d ro;exact c _ M2 h H' e2 j
 .rw[Rf d]at c;exact c.elim
def qc(a:X.N.Nodup)(b:X.N[i]?=some x)(c:JD X.env.scope x)(h:PD X E e f)(d:autoParam (swapsWith e (some (.Name x pos')) pos.line X.env=pure false) aM)
 (g:autoParam (X.fn x=true\/X.env.scope.names.lookup x=some .local) ae):JF X E (.Assign [.Name x pos'] e pos) (xT i f):=by
 obtain⟨t,p1,s1⟩:=h;exact⟨_,aH a b c p1 d g,D8 s1⟩
end
structure Src where
 xs:List D
 fr:Bool
 al:List Nat
theorem gr:∀(names:List (Str×NameKind))(b:List (Str×Addr)),(∀x∈names,x.2=.free->∃c,env.cells.lookup x.1=some c)->(∀y c,b.lookup y=some c->env.cells.lookup y=some c)->
 ∃cl,(forIn names b λ(x:Str×NameKind)(r:List (Str×Addr))=>(do
  if(x.2==.free)=true then
   let c <- cellOf env x.1
   pure (ForInStep.yield ((x.1,c)::r))
  else pure (ForInStep.yield r):Sem (ForInStep (List (Str×Addr)))))=pure cl/\(∀y c,cl.lookup y=some c->env.cells.lookup y=some c)/\(∀x∈names,x.2=.free->∃c,cl.lookup x.1=some c)/\(∀y c,b.lookup y=some c->∃a,cl.lookup y=some a)
 |[],b,_,h=>⟨b,by simp,h,λ_ z=>absurd z (by simp),λy c e=>⟨c,e⟩⟩
 |(n,k)::r,b,g,h=>by
  by_cases i:k=.free
  .subst i;obtain⟨c,m⟩:=g (n,.free) (by simp) rfl;have j:cellOf env n=pure c:=by simp[cellOf,m]
   have h':∀y a,((n,c)::b).lookup y=some a->env.cells.lookup y=some a:=λy a e=>by
    rw[TU]at e;cases f:y==n with
    |true=>rw[f]at e;cases e;rw[eq_of_beq f];exact m
    |false=>rw[f]at e;exact h y a e
   obtain⟨cl,e1,e2,e3,e4⟩:=gr r ((n,c)::b) (λx hx=>g x (by simp[hx])) h';have self:∃a,cl.lookup n=some a:=e4 n c (by simp[TU]);refine⟨cl,?_,e2,λx hx d=>?_,λy a e=>?_⟩
   .rw[List.forIn_cons];simp only[beq_self_eq_true,TB,j,pure_bind];exact e1
   .rcases Q_.mp hx with rfl|hx
    .exact self
    .exact e3 x hx d
   .by_cases f:y=n
    .rw[f];exact self
    .refine e4 y a ?_;have hb:(y==n)=false:=by simpa using f
     rw[TU,hb];exact e
  .obtain⟨cl,e1,e2,e3,e4⟩:=gr r b (λx hx=>g x (by simp[hx])) h;refine⟨cl,?_,e2,λx hx d=>?_,e4⟩
   .rw[List.forIn_cons];have l:(k==NameKind.free)=false:=by simpa using i
    simp only[l,Ro,Sx,pure_bind];exact e1
   .rcases Q_.mp hx with rfl|hx
    .exact absurd d i
    .exact e3 x hx d
def oj(h:∀x∈scope.names,x.2=.free->∃c,env.cells.lookup x.1=some c) :
 ∃cl,closureFor scope env=pure cl/\(∀y c,cl.lookup y=some c->env.cells.lookup y=some c)/\(∀x∈scope.names,x.2=.free->∃c,cl.lookup x.1=some c):=by
 obtain⟨cl,e1,e2,e3,_⟩:=gr scope.names [] h (λ_ _ e=>by simp at e);refine⟨cl,?_,e2,e3⟩;unfold closureFor;refine Eq.trans ?_ (show((pure cl:Sem (List (Str×Addr))) >>= λa=>pure a)=pure cl by simp);rw[<- e1]
 all_goals first
  |rfl
  |(congr 1;congr 1;funext x r;obtain⟨n,k⟩:=x;first|rfl|(dsimp only;split<;>simp_all))
theorem lA{f:Str->NameKind->NameKind}:∀(names:List (Str×NameKind))(y:Str),(names.map λx=>(x.1,f x.1 x.2)).lookup y=(names.lookup y).map (f y)
 |[],y=>rfl
 |(n,k)::r,y=>by
  rw[Rn,TU,TU];cases h:y==n with
  |true=>rw[eq_of_beq h];rfl
  |false=>exact lA r y
def ib(scope:Scope)(env:Env)(y:Str):(relabel scope env).names.lookup y=(scope.names.lookup y).map λk=>if(k==.free&&env.scope.kind==.function&&env.kindOf y==some .cell)=true then .cell else k:=by
 have e:(relabel scope env).names=scope.names.map λx=>(x.1,(λn k=>if(k==NameKind.free&&env.scope.kind==.function&&env.kindOf n==some .cell)=true then NameKind.cell else k) x.1 x.2):=by unfold relabel;refine Sz λx _=>?_;obtain⟨n,k⟩:=x;dsimp only;split<;>rfl
 rw[e];exact lA (f:=λn k=>if(k==NameKind.free&&env.scope.kind==.function&&env.kindOf n==some .cell)=true then NameKind.cell else k) scope.names y
def qd(h:scope.names.lookup y=some .free):(relabel scope env).names.lookup y=some .cell\/(relabel scope env).names.lookup y=some .free:=by
 rw[ib,h];simp only[Option.map_some];split
 .exact .inl rfl
 .exact .inr rfl
noncomputable def aV(X:Cx)(scope:Scope)(N:List Str)(cl:List (Str×Addr))(C:Addr)(s:Vw)(H:Hp)(ex:List Addr):Cx:={X with N:=N,s₀:=s,H₀:=H,env:=compEnvC scope cl C X.env,outer:=X.stack,ex:=ex,fn:=λ_=>false,pn:=[],xe:=λ_ _=>False}
section
def D9(I:L2.Inv X ac σ H s)(hkind:scope.kind=.function)(hcell:∀y∈scope.names,y.2≠.cell)(hcl:∀y c,cl.lookup y=some c->X.env.cells.lookup y=some c)(hhas:∀x∈scope.names,x.2=.free->∃c,cl.lookup x.1=some c)
 (hC:s.heap.objs.size<=C) (hex:∀b∈ex,iS X ac H b/\b<s.heap.objs.size):(aV X scope N cl C s H ex).Ok where
 mod:=I.ok.mod
 kind:=hkind
 glob:=I.ok.glob
 blt:=I.ok.blt
 above:=hC
 inj:=λx y c h1 h2=>I.ok.inj x y c (hcl x c h1) (hcl y c h2)
 has:=λy hy=>by
  have key:∀k,(relabel scope X.env).names.lookup y=some k->(k=.cell\/k=.free)->∃c,cl.lookup y=some c:=λk e hk=>by
   rw[ib]at e;cases q:scope.names.lookup y with
   |none=>rw[q]at e;cases e
   |some k0=>
    have hm:=S5 q;have h0:=hcell _ hm;have hf:k0=.free:=by
     rw[q]at e;simp only[Option.map_some,Option.some.injEq]at e;split at e
     .rename_i z;simp only[SC,U5]at z;exact z.1.1
     .rcases hk with hk|hk
      .exact absurd (e.trans hk) h0
      .exact e.trans hk
    exact hhas _ hm hf
  rcases hy with hy|hy
  .exact key _ hy (.inl rfl)
  .exact key _ hy (.inr rfl)
 JR:=λ_ _ h=>by cases h
 hd:=I.ok.hd
 frames:=I.ok.frames
 bq:=.inl rfl
 O9:=λb hb=>⟨Rt (RU (hex b hb).2 hC),λx c e=>(hex b hb).1.2.2.2.2.1 x c (hcl x c e)⟩
 bs:=λb o e=>I.bs b o e
 CZ:=Rx I.ok.CZ I.sz
 yX:=λb o e hb=>by
  rcases(hex b hb).1.2.2.2.1 with z|z
  .exact I.ok.yX b o e z
  .exact absurd (RU (Rc e) (Rx I.ok.CZ z)) (T8 _)
 Cw:=λb hb hfs=>by
  rcases Q_.mp (I.qV b hfs)with z|z
  .exact(hex b hb).1.2.1 z
  .exact(hex b hb).1.2.2.1 z
 k_:=I.stack
 Gj:=I.xh
 kt:=I.kt
structure MZ(X:Cx) (scope:Scope) (capN:List Str) (caps:List Nat):Prop where
 at':∀(k:Nat)(y:Str),capN[k]?=some y->∃j:Nat,caps[k]?=some j/\X.N[j]?=some y
 out:∀y∈capN,X.env.kindOf y=some .cell\/X.env.kindOf y=some .free
 zb:∀y∈capN,scope.names.lookup y=some .free
 len:caps.length=capN.length
noncomputable def jP(σ:St)(caps:List Nat):St:=caps.map λj=>(σ[j]?).join
def Av(I:L2.Inv X ac σ H s)(hkind:scope.kind=.function)(hcell:∀y∈scope.names,y.2≠.cell)(hcl:∀y c,cl.lookup y=some c->X.env.cells.lookup y=some c)(hhas:∀x∈scope.names,x.2=.free->∃c,cl.lookup x.1=some c)
 (hC:s.heap.objs.size<=C) (hex:∀b∈ex,iS X ac H b/\b<s.heap.objs.size) (hc:MZ X scope capN caps) (kp:∀b o,s.heap.get? b=some o->h4.get? b=some o) (ns:h4.Ns C m4) :
 L2.Inv (aV X scope (tN++capN) cl C s H ex) [] (List.replicate tN.length none++jP σ caps) H {s with heap:=h4,toks:=tk} where
 ok:=D9 I hkind hcell hcl hhas hC hex
 os:=rfl
 bare:=I.bare
 base:=Un.kept kp
 loc:=by
  refine⟨m4,ns,λi y v e1 e2 e3=>?_⟩;by_cases hlt:i<tN.length
  .rw[RT (by simpa using hlt),List.getElem?_replicate]at e2;rw[Re hlt]at e2;cases e2
  .obtain⟨k,rfl⟩ : ∃k,i=tN.length+k:=⟨i-tN.length,by lia⟩;have e1:capN[k]?=some y:=by
    have e1:(tN++capN)[tN.length+k]?=some y:=e1
    rwa [R9 (by lia),UE]at e1
   have e2:(jP σ caps)[k]?=some (some v):=by
    rwa [R9 (by simp),List.length_replicate,UE]at e2
   obtain⟨j,ej,eN⟩:=hc.at' k y e1;have e4:σ[j]?=some (some v):=by
    unfold jP at e2;rw[Rg,ej]at e2;have e2:(σ[j]?).join=some v:=by simpa using e2
    cases q:σ[j]? with
    |none=>rw[q]at e2;cases e2
    |some o=>rw[q]at e2;cases o with
     |none=>cases e2
     |some w=>cases e2;rfl
   have hm:=RE e1;obtain⟨m,hn,hl⟩:=I.loc;have hout:=hc.out y hm;obtain⟨u,r,l⟩:=hl j y v eN e4 (.inr hout);refine⟨u,r,.inr ⟨qd (hc.zb y hm),?_⟩⟩;obtain⟨c,hcl2⟩:=hhas (y,.free) (S5 (hc.zb y hm)) rfl;refine⟨c,hcl2,?_⟩;rcases l with⟨l,_⟩|⟨_,c',e5,z⟩
   .rcases hout with h|h<;>(rw[h]at l;cases l)
   .have:=hcl y c hcl2;rw[e5]at this;cases this;obtain⟨o,ho,hd⟩:=z;exact⟨o,kp _ o ho,hd⟩
 cell:=λy c e=>by obtain⟨v,o,ho,hd⟩:=I.cell y c (hcl y c e);exact⟨v,o,kp _ o ho,hd⟩
 free:=I.aW.fresh hC
 gk:=λy c e=>I.gk y c (hcl y c e)
 pin:=λp hp=>absurd (show p∈([]:List (Addr×Obj))from hp) (by simp)
 aW:=I.aW.kept kp
 len:=by simp[aV,jP,hc.len]
def xU(I:L2.Inv X ac σ H s)(c:X'=aV X scope N cl C s H ex)(d:s.heap.objs.size<=C)(hex:∀b∈ex,iS X ac H b/\b<s.heap.objs.size)
 (a:L2.Inv X' pl σ' H' s'):L2.Inv X ac σ H' s'/\iS X ac H' C:=by
 subst c;refine⟨I.M4 (ch:=ex) a.os a.base a.aW a.bare λb hb=>?_,I.tO d a.free⟩;obtain⟨_,h2,h3,e,f,g⟩:=(hex b hb).1;exact⟨e,h2,f,g⟩
def wv(I:L2.Inv X ac σ H s)(a:iS X ac H C)(c:Heap.SameBut C s.heap h'):L2.Inv X ac σ H {s with heap:=h'}:=I.turned (t':=s.toks) (it:=C) (λb o hb e=>(c.2 b hb).trans e) a.1 a.2.1 a.2.2.2.1 a.2.2.2.2.1 a.2.2.2.2.2
end
section
def za(X:Cx)(a:List Expr)(b:TT):Prop:=∀(ac:List (Addr×Obj))(s:Vw)(σ:St)(H:Hp)(Q:Bool->Hp->Prop),L2.Inv X ac σ H s->b σ H Q->
 wpAny (model X.prog X.w) X.A (forIn a true λc r=>if r=true then do let ok <- isTrue c X.env (eval c X.env);pure (ForInStep.yield ok)else pure (ForInStep.yield r)) (TP X ac σ Q) X.xe s
def gs:za X [] (λ_ H Q=>Q true H):=λ_ _ σ H Q I q=>wpAny_tests_nil ⟨H,I,q⟩
def lY(h:PT X c tt):za X [c] tt:=λac s σ H Q I q=>wpAny_tests_one (h ac s σ H Q I q)
def xV(p:X'=aV X scope (tN++capN) cl C s3 H3 fp)(T:Turn X.prog X.w X.K tg J fp it tn)(q:X.calm=true)
 (I4:L2.Inv X' [] (List.replicate tN.length none++c) H3 s4) (bE:X'.N.length=tN.length+c.length) (st4:tn 0 s4.heap) (hf:∀b∈fp,iS X' [] H3 b)
 (hg:PG X' tg gt) (ht:za X' ifs tt) (he:PE X' elt te)
   (W:Nat->Nat->List V->Hp->Prop) (Fin:List V->Hp->Prop) (w0:∃m,W 0 m [] H3)
   (turn:∀i m a H,W i m a H->H Dl=some (.lst a)/\((J.stop i H/\Fin a H)\/(J.go i H/\∀I H' o,J.Cv i H I H'->o.length=tN.length->gt I (o++c) H' λt H1=>(∀j:Nat,tN.length<=j->t[j]?=(o++c)[j]?)/\tt t H1 λb H2=>if b=true then
     te t H2 λy h=>h Dl=some (.lst a)/\a.length<sizeLine/\∃f,f<m/\W (i+1) f (a++[y]) (upd h Dl (.lst (a++[y])))else ∃f,f<m/\W (i+1) f a H2)))
   (R:Result->Vw->Prop) (hR:∀σ' H' a B,L2.Inv X' [] σ' H' B->H' Dl=some (.lst a)->Fin a H'->R (.ok .next) B) :
   codeAny (model X.prog X.w) X.A (.compLoop (.ListComp elt [⟨tg,iter,ifs,0⟩] scope pos) 0 (.ref it) (.ref Dl) (compEnvC scope cl C X.env)) R s4:=by
  obtain⟨m0,w0⟩:=w0;have E:X'.A=X.A:=by rw[p];rfl
  have F:X'.prog=X.prog:=by rw[p];rfl
  have G:X'.w=X.w:=by rw[p];rfl
  have eK:X'.K=X.K:=by rw[p];rfl
  have eE:X'.env=compEnvC scope cl C X.env:=by rw[p];rfl
  have Z:X'.xe=λ_ _=>False:=by rw[p];rfl
  have eC:X'.calm=true:=by rw[p];exact q
  have g:∀{H':Hp},(∀b∈fp,H' b=none)->∀b∈fp,iS X' [] H' b:=λhn b hb=>⟨hn b hb,(hf b hb).2⟩;refine codeAny_loop rfl (λn s=>∃i o a H,L2.Inv X' [] (o++c) H s/\o.length=tN.length/\tn i s.heap/\(∀b∈fp,H b=none)/\W i n a H) ?_ m0 ⟨0,List.replicate tN.length none,[],H3,I4,by simp,st4,λb hb=>(hf b hb).1,w0⟩;rintro n s5 ⟨i,o,a,h,I5,lo,L,M,w5⟩;show wpAny _ X.A ((compTurn (.ListComp elt [⟨tg,iter,ifs,0⟩] scope pos) 0 (.ref it) (.ref Dl) (compEnvC scope cl C X.env)).onRaise (λx=>do noteFrame x (compEnvC scope cl C X.env);theTreesLotGoes x)) _ _ s5;refine wpAny_noted ?_;rw[compTurn_list];obtain⟨hD,alt⟩:=turn i n a h w5;rcases alt with⟨stop,fin⟩|⟨go,step⟩
  .refine KE (wpAny_standAt (KE (S3 (E▸T.done X' F G eK eC i [] s5 _ h _ I5 (g M) L stop) (λr s6 ⟨hr,I6⟩=>?_) λ_ _ z=>z)));subst hr;exact QX (hR _ h a s6 I6 hD fin)
  .refine KE (wpAny_standAt (KE (S3 (E▸T.item X' F G eK eC i [] s5 _ h _ I5 (g M) L go) (λr s6 ⟨u,hr,h6⟩=>?_) λ_ _ z=>z)));subst hr;refine KE (S3 h6 (λ_ s7 ⟨I,H7,I7,r7,y7,D,fr7⟩=>?_) λ_ _ z=>z);have I7':=I7.pinned (g fr7) (T.obj _ _ D);have O:=hg _ s7 _ H7 I u _ I7' r7 (step I H7 o y7 lo);rw[F,G,E,eE,Z]at O;refine KE (S3 O (λ_ s8 ⟨k,H8,I8,shp,q8⟩=>?_) λ_ _ z=>z.elim);obtain⟨l,P,eσ⟩ : ∃l:St,l.length=tN.length/\k=l++c:=by
    have l8:k.length=tN.length+c.length:=I8.len.trans bE;refine⟨k.take tN.length,by rw[Sa];lia,?_⟩;have ed:k.drop tN.length=c:=by
     apply Ub
     intro j;rw[List.getElem?_drop,shp (tN.length+j) (by lia),R9 (by lia),lo,UE]
    rw[<- ed,SU]
   subst eσ;have Q:=ht _ s8 _ H8 _ I8 q8;rw[F,G,E,eE,Z]at Q;refine KE (S3 Q (λok s9 ⟨H9,I9,q9⟩=>?_) λ_ _ z=>z.elim);have again:∀{B:Vw}{H':Hp},L2.Inv X' ([]++mo fp s7.heap) (l++c) H' B->L2.Inv X' [] (l++c) H' B/\tn (i+1) B.heap/\∀b∈fp,H' b=none:=λ{B H'} J'=>by refine⟨J'.kq,T.keep _ _ _ D λb hb ob e=>(J'.pin (b,ob) (RM _ (RM _ (gm hb e)))).1,λb hb=>?_⟩;obtain⟨ob,e,d⟩:=T.obj _ _ D b hb;exact(J'.pin (b,ob) (RM _ (RM _ (gm hb e)))).2.1
   cases ok with
   |false=>obtain⟨f,hm,w9⟩:=(show ∃f,f<n/\W (i+1) f a H9 from by simpa using q9);obtain⟨a1,a2,a3⟩:=again I9;exact QX ⟨rfl,f,hm,i+1,l,a,H9,a1,P,a2,a3,w9⟩
   |true=>
    have q9:te (l++c) H9 λy h=>h Dl=some (.lst a)/\a.length<sizeLine/\∃f,f<n/\W (i+1) f (a++[y]) (upd h Dl (.lst (a++[y]))):=by simpa using q9
    have S:=he _ s9 _ H9 _ I9 q9;rw[F,G,E,eE,Z]at S;refine KE (KE (S3 S (λv s10 ⟨y,U,I10,ry,eD,hl,f,hm,w10⟩=>?_) λ_ _ z=>z.elim));have Y:=bP (X:=X') _ s10 _ U (.ref Dl) [y] (.ref Dl) [v] (λw H'=>w=.bz/\H'=upd U Dl (.lst (a++[y]))) I10 rfl (.cons ry .nil) ⟨Dl,a,y,rfl,rfl,eD,hl,rfl,rfl⟩;rw[F,G,E,Z]at Y;refine KE (S3 Y (λ_ s11 ⟨w,H11,I11,_,_,eH⟩=>?_) λ_ _ z=>z.elim);subst eH;obtain⟨a1,a2,a3⟩:=again I11;exact QX (QX ⟨rfl,f,hm,i+1,l,a++[y],_,a1,P,a2,a3,w10⟩)
end
structure cj(X:Cx) (scope:Scope) (tN:List Str) (capN:List Str) (caps:List Nat):Prop where
 kind:scope.kind=.function
 Ge:∀y∈scope.names,y.2≠.cell
 names:∀y∈scope.names,y.2=.local->scope.names.lookup y.1=some .local
 own:∀x∈tN,scope.names.lookup x=some .local
 free:∀y∈scope.names,y.2=.free->X.env.kindOf y.1=some .cell\/X.env.kindOf y.1=some .free
 cap:MZ X scope capN caps
 nd:(tN++capN).Nodup
section
def ck(X:Cx)(scope:Scope)(tg:Expr)(tN:List Str)(capN:List Str)(caps:List Nat)(g:Expr)(h:List Expr)(σ:St)(Fin:Addr->List V->Hp->Prop)(J:It)(d:Hp):Prop:=
 ∀(c:Addr),d c=none->∀(cl:List (Str×Addr))(C:Addr)(k:Vw)(fp:List Addr),∃(gt:TG)(l:TT)(te:TE)(W:Nat->Nat->List V->Hp->Prop),
  PG (aV X scope (tN++capN) cl C k (upd d c (.lst [])) fp) tg gt/\za (aV X scope (tN++capN) cl C k (upd d c (.lst [])) fp) h l/\PE (aV X scope (tN++capN) cl C k (upd d c (.lst [])) fp) g te/\(∃m,W 0 m [] (upd d c (.lst [])))/\
  ∀i m a H,W i m a H->H c=some (.lst a)/\((J.stop i H/\Fin c a H)\/(J.go i H/\∀n H' (o:St),J.Cv i H n H'->o.length=tN.length->gt n (o++jP σ caps) H' λe H1=>(∀j:Nat,tN.length<=j->e[j]?=(o++jP σ caps)[j]?)/\l e H1 λb d=>if b=true then
   te e d λy p=>p c=some (.lst a)/\a.length<sizeLine/\∃f,f<m/\W (i+1) f (a++[y]) (upd p c (.lst (a++[y])))else ∃f,f<m/\W (i+1) f a d))
def o_{use:Option (Vz->Sem Unit)}{Qv:Vz->Vw->Prop}{Fin:Addr->List V->Hp->Prop}(hc:X.calm=true)(S:cj X scope tN capN caps)(I:L2.Inv X ac σ H s)(hi:PI X tg iter wi)
 (h:wi σ H (ck X scope tg tN capN caps elt ifs σ Fin))
 (hu:∀(K C:Addr)(j:List V)(H':Hp)(n:Vw),L2.Inv X ac σ H' n->iS X ac H' C->H' K=some (.lst j)->Fin K j H'->(∃m,n.heap.Ns C m)->compPost (model X.prog X.w) X.A X.xe use Qv (.ref K) C (.ok .next) n)
 (hs:autoParam (∀x,foldedSetIterable iter X.env x=pure x) az) :
 wX X (comprehension (.ListComp elt [⟨tg,iter,ifs,0⟩] scope pos) scope X.env (firstIterPos [⟨tg,iter,ifs,0⟩] pos) (newList []) false (eval iter X.env) use) Qv X.xe s:=by
 obtain⟨cl,L,q,r⟩:=oj (scope:=scope) (env:=X.env) λy M hf=>I.ok.has y.1 (S.free y M hf);refine wpAny_comprehension_free rfl hs L S.kind S.names (cc (hi ac s σ H _ I h) λv s1 h1=>cc h1 λitv s2 h2=>?_);obtain⟨it,fp,tn,J,k,rfl,R,T,t,U,B⟩:=h2;refine R3 (wpAny_newFunctionEnv S.Ge (by intro y M;simp at M) (λa d g=>?_) S.kind);dsimp only at d g ⊢;have hD:k s2.heap.objs.size=none:=R.aW.fresh (QY _);have G:L2.Inv X ac σ (upd k s2.heap.objs.size (.lst [])) { s2 with heap:=s2.heap.push { cls:=.type "list",dict:=none,data:=.seq ([]:List Vz).toArray } }:=R.laid (t':=s2.toks) (λb u e=>QZ _ e) (QY _) ⟨Rh _,[],0,.nil,Rb _ rfl⟩;generalize D:({ s2 with heap:=s2.heap.push { cls:=.type "list",dict:=none,data:=.seq ([]:List Vz).toArray } }:Vw)=i at G;have e3:s2.heap.push { cls:=.type "list",dict:=none,data:=.seq ([]:List Vz).toArray }=i.heap:=by rw[<- D]
 rw[e3]at d g ⊢;have kp:∀b o,i.heap.get? b=some o->a.get? b=some o:=λb o e=>g.extBut b o (Rt (Rc e)) (QZ _ e);have E:∀b o,s2.heap.get? b=some o->i.heap.get? b=some o:=λb o e=>by rw[<- e3];exact QZ _ e
 have hex:∀b∈fp,iS X ac (upd k s2.heap.objs.size (.lst [])) b/\b<i.heap.objs.size:=λb hb=>by obtain⟨o,Y,_⟩:=T.obj 0 _ t b hb;have l:b<s2.heap.objs.size:=Rc Y;refine⟨⟨?_,(U b hb).2⟩,Rc (E b o Y)⟩;rw[ai (Rt l)];exact(U b hb).1
 have es:({s2 with heap:=a,toks:=s2.toks+([]:List (Str×Vz)).length}:Vw)={i with heap:=a,toks:=s2.toks+([]:List (Str×Vz)).length}:=by rw[<- D]
 have I4:L2.Inv (aV X scope (tN++capN) cl i.heap.objs.size i (upd k s2.heap.objs.size (.lst [])) fp) [] (List.replicate tN.length none++jP σ caps) (upd k s2.heap.objs.size (.lst [])) {i with heap:=a,toks:=s2.toks+([]:List (Str×Vz)).length}:=Av G S.kind S.Ge q r (QY _) hex S.cap kp d;obtain⟨gt,tt,te,W,hg,ht,he,w0,turn⟩:=B s2.heap.objs.size hD cl i.heap.objs.size i fp;have F:tn 0 a:=T.keep 0 _ _ t λb hb o e=>kp b o (E b o e);have f4:∀b∈fp,iS (aV X scope (tN++capN) cl i.heap.objs.size i (upd k s2.heap.objs.size (.lst [])) fp) [] (upd k s2.heap.objs.size (.lst [])) b:=λb hb=>by
  obtain⟨f,l⟩:=hex b hb;refine⟨f.1,Rt l,λN=>?_,.inl hb,λy c e=>f.2.2.2.2.1 y c (q y c e),λp hp=>absurd (show p∈([]:List (Addr×Obj))from hp) (by simp)⟩;rcases Q_.mp (G.qV b N)with z|z
  .exact f.2.1 z
  .exact f.2.2.1 z
 have loop:codeAny (model X.prog X.w) X.A (.compLoop (.ListComp elt [⟨tg,iter,ifs,0⟩] scope pos) 0 (.ref it) (.ref s2.heap.objs.size) (compEnvC scope cl i.heap.objs.size X.env)) (compPost (model X.prog X.w) X.A X.xe use Qv (.ref s2.heap.objs.size) i.heap.objs.size)
  {i with heap:=a,toks:=s2.toks+([]:List (Str×Vz)).length}:=by
  refine xV rfl T hc I4 (by show(tN++capN).length=_;simp[jP,S.cap.len]) F f4 hg ht he W (Fin s2.heap.objs.size) w0 turn _ λσ' H' j n Z O P=>?_;obtain⟨Io,fo⟩:=xU G rfl (QY _) hex Z;obtain⟨m',Q,_⟩:=Z.loc;exact hu _ _ j H' n Io fo O P ⟨m',Q⟩
 rw[es];exact codeAny_compStart_list loop (T.self _ 0 _ _ _ F loop)
def Aw(d:X.calm=true)(S:cj X scope tN capN caps)(I:L2.Inv X ac σ H s)(e:PI X tg iter wi)(h:wi σ H (ck X scope tg tN capN caps elt ifs σ λa _ H'=>Q (.ref a) H'))
 (f:autoParam (∀x,foldedSetIterable iter X.env x=pure x) az):wX X (eval (.ListComp elt [⟨tg,iter,ifs,0⟩] scope pos) X.env) (EP X ac σ Q) X.xe s:=by
 rw[eval_ListComp];refine o_ (use:=none) d S I e h (λa C g H' k i fo l b c=>?_) f;obtain⟨m,c⟩:=c;exact⟨m,c,λh' j=>⟨.ref a,H',wv i fo j,rfl,b⟩⟩
def Ax{D:Ends}{i:Nat}(p:X.calm=true)(S:cj X scope tN capN caps)(q:X.N.Nodup)(c:X.N[i]?=some y)(o:X.env.scope.names.lookup y=some .local)
 (d:swapsWith (.ListComp elt [⟨tg,iter,ifs,0⟩] scope pos) (some (.Name y py)) spos.line X.env=pure true) (I:L2.Inv X ac σ H s) (r:PI X tg iter wi)
 (h:wi σ H (ck X scope tg tN capN caps elt ifs σ λb _ H'=>D.nx (σ.set i (some (.ref b))) H')) (t:autoParam (∀x,foldedSetIterable iter X.env x=pure x) az) :
 wX X (exec (.Assign [.Name y py] (.ListComp elt [⟨tg,iter,ifs,0⟩] scope pos) spos) X.env) (SP X ac D) X.xe s:=by
 rw[exec_Assign_Name_used _ _ _ _ d];refine KE (wpAny_standAt (KE ?_));show wpAny _ X.A (do let _ <- comprehension (.ListComp elt [⟨tg,iter,ifs,0⟩] scope pos) scope X.env _ (newList []) false (eval iter X.env) (some (assign (.Name y py) X.env))) _ _ s;refine KE (S3 (o_ (use:=some (assign (.Name y py) X.env)) (Qv:=λ_ f=>SP X ac D .next f) p S I r h (λb C u H' f w fo G g j=>?_) t) (λ_ f B=>QX (QX B)) λ_ _ e=>e);obtain⟨m,j⟩:=j;show wpAny _ X.A (assign (.Name y py) X.env (.ref b)) _ _ _;refine wpAny_assign_Name (oJ (v:=.ref b) w q c (.inl o) rfl (λE k ⟨a,F,ha⟩=>?_) (.inr o));have l:C≠a:=by
  rcases ha with z|z
  .rw[z];exact fo.2.1
  .exact Si (fo.2.2.2.2.1 y a z)
 refine⟨m,j.sameBut F l,λh' n=>?_⟩;exact⟨_,H',wv k fo n,g⟩
end
noncomputable def Res.Py{α:Type}:Res α->Res α
 |.exc _=>.stuck
 |r=>r
def NI(env:En)(j:Nat):Option Sl:=match env[j]? with
 |some (some (.val d fr))=>some (.val d fr)
 |some (some (.own ds fr))=>some (.val (.lst ds) fr)
 |some (some (.ze d))=>some (.val d true)
 |_=>none
def Kl(env:En)(n:Nat)(caps:List Nat):En:=List.replicate n none++caps.map (NI env)
def ww(mk:D->Option En)(a:En->Res Bool)(c:En->Res R):List D->Res (List R)
 |[]=>.ok []
 |x::xs=>match mk x with
  |none=>.stuck
  |some e=>(a e).bind λb=>if b then(c e).bind λr=>(ww mk a c xs).bind λrs=>.ok (r::rs)else ww mk a c xs
def Km(n:Nat)(caps:List Nat)(b:En->Res Src)(c:D->Bool->En->Option En)(a:En->Res Bool)(e:En->Res R):En->Res R:=λenv=>(b env).bind λs=>if s.xs.length<=lim then
 (ww (λd=>c d s.fr (Kl env n caps)) a e s.xs).Py.bind λrs=>.ok (Kb (rs.map R.d) (gT rs) (s.al++caps.filter (r_ env)))else .stuck
noncomputable def ja(X:Cx)(scope:Scope)(tg:Expr)(tN:List Str)(capN:List Str)(caps:List Nat)(a:Expr)(b:List Expr)(c:TI):TE:=λσ H Q=>c σ H (ck X scope tg tN capN caps a b σ λd _ H'=>Q (.ref d) H')
def jj(N:List Str)(ds:List D):En:=ds.map (λd=>some (.val d false))++List.replicate (N.length-ds.length) none
def FP:Res Fl->Res R
 |.ok (.nx _)=>.ok (.val .bz true [])
 |.ok (.rt r)=>.ok r
 |.ok _=>.stuck
 |.exc c=>.exc c
 |.stuck=>.stuck
def uX(N:List Str)(a:En->Res Fl)(ds:List D):Res R:=FP (a (jj N ds))
def Ay:fh fW X E:=λ_ _ _ _ _ _ _ h=>h.elim
def xW(is:IsAll H Ma ds vs):Rep (Ka H Ma) (λa=>Ma a/\H a≠none) (λ_ _=>False) (jj N ds) (L2.bp N vs) H where
 same:=Same.refl H
 nV:=λa z=>z.2
 zb:=λa z=>.inr z.1
 fl:=λa z h=>absurd h z.2
 slot:=λi sl e=>by
  have hl:=is.length;unfold jj at e;by_cases hi:i<ds.length
  .rw[RT (by simpa using hi),Rg]at e;obtain⟨v,ev,iv⟩:=is.get (i:=i) (d:=ds[i]) (by simp[hi]);have e1:ds[i]?=some ds[i]:=by simp[hi]
   rw[e1]at e;cases e;refine⟨v,?_,Is.mono (λ_ _ q _=>q) (λa o q z=>⟨⟨z,by rw[q];simp⟩,λz=>by cases z⟩) iv⟩;unfold L2.bp;rw[RT (by simp;lia),Rg,ev];rfl
  .rw[R9 (by simpa using hi),List.getElem?_replicate]at e;split at e<;>cases e
 gY:=λ_ _ z=>z.elim
 apart:=λ_ _ _ z=>z.elim
 ow:=λ_ _ z=>z.elim
 len:=by have hl:=is.length;unfold jj L2.bp;simp[hl]
 zz:=λ_ z=>z.elim
section
variable{P:Vy}{w:World}{K:Vx}{mg:Str->Option Vz}{base:Heap}
def wx{x qual:Str}{st:Stmt}{f:Addr}{d:En->Res Fl}(F:Dc K x qual st f fd)(S:aP N ps (aD st))
 (b:∀(cdv:Vz)(A:VA)(outer:List Env)(s:Vw)(H:Hp)(E:XK),c9 k (A.deeper (envOfC qual (aD st) s.heap.objs.size f cdv))->sj (uu fW P w K mg base N qual (aD st) f cdv A outer s H E).MU E (cF st) d) :
 bF P w K mg base fW (k+1) f fd ps (oh mg ps.length (uX N d)):=by
 refine F.ok S (λvs H Q E h=>h.1) (λcdv A outer s H vs Q E g h=>?_);obtain⟨l,ds,Ma,is,a⟩:=h;obtain⟨t,p1,s1⟩:=b cdv A outer s H E g;refine⟨t,p1,s1 (Ka H Ma) _ _ (jj N ds) (L2.bp N vs) H _ (xW is) ?_⟩;unfold uX at a;cases q:d (jj N ds)with
 |stuck=>rw[q]at a;exact a
 |exc c=>rw[q]at a;exact a
 |ok r=>
  rw[q]at a;cases r with
  |nx env=>exact λσ i j H' _ e=>a .bz H' e.same rfl
  |rt r=>exact λv i H' _ s ro _=>a v H' s (ro λ_ z=>z)
  |rm r env=>exact a.elim
  |bk env=>exact a.elim
  |ct env=>exact a.elim
end
section
def D_:J0 X (λx lo d H Q=>∃a xs,x=.ref a/\SqT X.K H a xs/\(HT.sIx xs.length 0 lo=0/\HT.sIx xs.length xs.length d=xs.length)/\Q x H):=by
 intro ac s σ H x v u w lo d sl Q I l j pl n h;obtain⟨a,xs,rfl,o,k,q⟩:=h;cases l;obtain⟨its,r,b,hz⟩:=I.tuple o;have p:its.toArray.size=xs.length:=by rw[Ra];exact r.length.symm
 refine⟨"tuple",_,Sv.lookup,b.typeIs,?_⟩;obtain⟨os,e,f,t⟩:=id j;have g:s.TypeIs (.ref sl) "slice":=⟨os,e,f⟩;unfold getItem
 try with_reducible refine Sk ?_
 first|refine KE (QX ?_)|skip
 refine KE (wpAny_sequenceKey b.typeIs (by decide) ?_);refine KE (SK (name:=Str.ofString "__getitem__") b.typeIs Sv
  (R7 Sv b.typeIs entry_tuple_getitem ?_ (args_tuple_getitem _ _)))
 show wpAny _ _ (Builtin.Tuple.tupleItemsOf (.ref a) >>= _) _ _ s;refine KE (tupleItemsOf_ b ?_);refine KE (T5 g ?_);rw[Re (by decide)];refine KE (HT.sliceApplied_gen j pl n ?_);have c:((((HT.sIx its.toArray.size 0 lo:Nat):Int)==0&&(1:Int)==1&&(HT.sIx its.toArray.size its.toArray.size d-HT.sIx its.toArray.size 0 lo)==its.toArray.size)=true):=by rw[p,k.1,k.2];simp
 show wpAny _ _ (if(((HT.sIx its.toArray.size 0 lo:Nat):Int)==0&&(1:Int)==1&&(HT.sIx its.toArray.size its.toArray.size d-HT.sIx its.toArray.size 0 lo)==its.toArray.size)=true then _ else _) _ _ s;rw[Re c];have i:EP X ac σ Q (.ref a) s:=⟨.ref a,H,I,rfl,q⟩;refine KE (m:=Builtin.Tuple.tupleIsExact (.ref a)) ?_;unfold Builtin.Tuple.tupleIsExact;refine KE (T5 b.typeIs ?_);refine QX ?_;rw[Re (by decide)];exact KE (U6 (QX ⟨_,rfl,QX i⟩))
end
section
def qe{α:Type}(xs:List α)(lo a:Option Int):List α:=(xs.drop (HT.sIx xs.length 0 lo)).take (HT.sIx xs.length xs.length a-HT.sIx xs.length 0 lo)
def IsAll.cut(h:IsAll H m ds vs)(lo a:Option Int):IsAll H m (qe ds lo a) (dU vs lo a):=by unfold qe dU;rw[h.length];exact(h.drop _).take _
noncomputable def D.ty:D->String
 |.bz=>"NoneType" |.bl _=>"bool" |.int _=>"int" |.str _=>"str" |.tup _=>"tuple" |.lst _=>"list" |.qR _ _=>"dict"
def Nc(K:Vx)(H:Hp)(x:V)(t:Vz):Prop:=k8 K H x t\/(t=.type "dict"/\∃a,x=.ref a/\J6 H a)
theorem Is.ty{m:Addr->Prop}{v:V}{K:Vx}(h:Is H m d v):Nc K H v (.type d.ty):=by
 cases d with
 |bz=>cases h;exact .inl .bz
 |bl b=>cases h;exact .inl (.bl b)
 |int b=>cases h;exact .inl (.int b)
 |str b=>cases h;exact .inl (.str b)
 |tup ds=>obtain⟨a,vs,rfl,h1,_⟩:=h;exact .inl (.tup h1)
 |lst ds=>
  obtain⟨a,vs,rfl,h1,_⟩:=h;rcases h1 with⟨h1,_⟩|⟨o,h1,_⟩
  .exact .inl (.lst h1)
  .exact .inl (.bw h1)
 |qR ks ds=>obtain⟨a,kvs,rfl,h1,_⟩:=h;exact .inr ⟨rfl,a,rfl,h1.1.imp (λ⟨kvs,e,_⟩=>⟨kvs,e⟩) λ⟨kvs,e,_⟩=>⟨kvs,e⟩⟩
def NJ(T:String)(d:D):Bool:=match d with
 |.bz=>T=="NoneType"
 |.bl _=>T=="bool" || T=="int"
 |.int _=>T=="int"
 |.str _=>T=="str"
 |.tup _=>T=="tuple"
 |.lst _=>T=="list"
 |.qR _ _=>T=="dict"
def xX(T:String):Prop:=∀(K:Vx)(d:D),kitOne K (.type d.ty) (.type T)=some (NJ T d)
def Az:xX "int":=λK d=>by cases d<;>kernel_rfl
def xY:xX "bool":=λK d=>by cases d<;>kernel_rfl
def xZ:xX "list":=λK d=>by cases d<;>kernel_rfl
def uY:xX "tuple":=λK d=>by cases d<;>kernel_rfl
def Hk(T:String)(a:En->Res R):En->Res R:=λenv=>(a env).bind λr=>.ok (.val (.bl (NJ T r.d)) true [])
def sq:CallR X (.builtin "isinstance") (λxs H Q=>∃x T t b,xs=[x,.ty T]/\Nc X.K H x t/\kitOne X.K t (.type T)=some b/\Q (.bl b) H):=by
 intro ac s σ H xs us Q I r h;obtain⟨x,T,t,b,rfl,ty,e,q⟩:=h;obtain⟨u,c,rfl,ru,d⟩:=vS r;obtain rfl:c=Value.type T:=d;rcases ty with ty|⟨rfl,a,rfl,hd⟩
 .exact xu I ru ty e λtk=>⟨.bl b,H,I.tok tk,rfl,q⟩
 .obtain rfl:u=Value.ref a:=ru;obtain⟨f,_⟩:=pQ I hd;exact SI Vg I.lg f e (λz=>nomatch z) λtk=>⟨.bl b,H,I.tok tk,rfl,q⟩
def AB(n:xX T')(o:Gl X "isinstance") (hm:X.mg "isinstance"=none) (b:Gl X T) (c:X.mg T=none) (f:bootBuiltins T=some (.type T')) (ha:PD X E e fa)
 (h:autoParam (T≠"__name__") ab) (i:autoParam (dB T) ab)
 (m:autoParam (starEach [e,.Name T q] X.env=(false,eval e X.env)::starEach [.Name T q] X.env) aM) (j:autoParam (starEach [.Name T q] X.env=(false,eval (.Name T q) X.env)::starEach [] X.env) aM) (k:autoParam ((backTo pos (starEach [.Name T q] X.env)).any (·.1)=false) aM) :
 PD X E (.Call (.Name "isinstance" p) [e,.Name T q] [] pos) (Hk T' fa):=by
 obtain⟨ta,p1,s1⟩:=ha;refine⟨_,aR sq o hm (by decide +kernel) (aa p1 (aa (pG b c f (v:=.ty T') rfl h i) ao j) m) (by decide) (by decide) m k,λg M s env σ H Q l p=>s1.tW l p λr v M1 H1 e1 a is q=>?_⟩;exact⟨v,T',_,_,rfl,is.ty,n X.K r.d,q _ M1 H1 (Ext.refl _ _) a rfl⟩
end
def Nd(K:Vx)(a:Addr):It:=⟨λi H=>∃xs x,SqL K H a xs/\xs[i]?=some x,λi H y H'=>∃p x,H p=none/\y=.ref p/\H'=upd H p (.tup [.int (i:Nat),x])/\∀xs,SqL K H a xs->xs[i]?=some x,λi H=>∃xs,SqL K H a xs/\xs.length<=i⟩
def x_{P:Vy}{w:World}{K:Vx}(a it e:Addr)(hei:e≠it):Turn P w K (.Tuple es k pos) (Nd K a) [e,it] e (λi h=>(∃old,IsEnum h e it i old)/\h.IsListIter it a i) where
 mem:=by simp
 obj:=λi h st b hb=>by
  obtain⟨⟨old,he⟩,o,ho,c,d⟩:=st;rcases Q_.mp hb with rfl|hb
  .exact⟨_,he,λv z=>by cases z⟩
  .have:b=it:=by simpa using hb
   subst this;exact⟨o,ho,λv z=>by rw[d]at z;cases z⟩
 keep:=λi h h' st kk=>by obtain⟨⟨old,he⟩,hl⟩:=st;exact⟨⟨old,kk e (by simp) _ he⟩,hl.at λo q=>kk it (by simp) o q⟩
 item:=by
  intro X hP hw hK hc i ac s σ H E I hf st hg;subst hP hw hK;obtain⟨xs,x,hq,hx⟩:=hg;obtain⟨⟨old,he⟩,hl⟩:=st;obtain⟨its,rv,p,hz⟩:=I.list hq;obtain⟨u,hu,ru⟩:=rv.get hx;have fe:=hf e (by simp);have fi:=hf it (by simp);have hai:a≠it:=by intro z;obtain⟨o1,e1,c1,_⟩:=p.isList;obtain⟨o2,e2,c2,_⟩:=hl;rw[z,e2]at e1;cases e1;rw[c2]at c1;injection c1 with z;exact absurd z (by decide)
  have hae:a≠e:=by intro z;obtain⟨o1,e1,c1,_⟩:=p.isList;rw[z,he]at e1;cases e1;injection c1 with z;exact absurd z (by decide)
  have hh:X.A.in1.handled=none:=I.ok.hd hc;have hil:i<its.length:=(Q2.mp hu).1;refine wpAny_pyNext_enum_itemD (Draws.list hh it a hai its.toArray) he ⟨hl,p.isList⟩ (by simpa using hil) hei (by simp;exact⟨hei,Si hae⟩) λx' h' tk hx' ho hs' hT hsz hk=>?_;have ex:x'=u:=by
   have:its[i]?=some x':=by simpa using hx'
   rw[hu]at this;exact(R0 this).symm
  subst ex;refine⟨_,rfl,wpAny_letOwnedTupleGo_enum ho λh'' he'' hs''=>?_⟩;have keep2:∀b o,b≠e->b≠it->s.heap.get? b=some o->h''.get? b=some o:=λb o n1 n2 q=>(hs''.2 b n1).trans (hk b o n1 n2 q);have hTe:s.heap.objs.size≠e:=Ts (Rc he);have hT'':h''.get? s.heap.objs.size=some { cls:=.type "tuple",data:=.seq #[.int i tk,x'] }:=(hs''.2 _ hTe).trans hT;have I1:L2.Inv X ac σ (upd H s.heap.objs.size (.tup [.int (i:Nat),x])) {s with heap:=h'',toks:=tk+1}:=by
   refine I.step (g':=s.gens) (d':=s.drawn) (ch:=[e,it]) (λb hb=>?_) (λb o _ _ hn q _=>keep2 b o (λz=>hn (by simp[z])) (λz=>hn (by simp[z])) q)
    (λb o _ _ hn q _=>⟨o.slots,keep2 b o (λz=>hn (by simp[z])) (λz=>hn (by simp[z])) q⟩) (λb o _ q hH=>by rw[ai (Rt (Rc q))];exact hH)
    (λb o hn q=>⟨o,keep2 b o (λz=>hn (by simp[z])) (λz=>hn (by simp[z])) q⟩) (λb ys q=>by rw[ai (ax q (I.aW.fresh (QY _)))];exact q)
    (λb o' u' q=>by rw[ai (ax q (I.aW.fresh (QY _)))];exact q) (λb ps q=>⟨#[],by rw[ai (ax q (I.aW.fresh (QY _)))];simp[q]⟩) (λm hm=>?_) (λb u' q=>?_) I.bare
   .rcases Q_.mp hb with rfl|hb
    .exact⟨fe.2.2.2.1,fe.2.1,fe.2.2.2.2.1,fe.2.2.2.2.2⟩
    .have:b=it:=by simpa using hb
     subst this;exact⟨fi.2.2.2.1,fi.2.1,fi.2.2.2.2.1,fi.2.2.2.2.2⟩
   .obtain⟨o,es',ep,ho',r⟩:=hm;exact⟨o,es',ep,keep2 _ o (Si fe.2.1) (Si fi.2.1) ho',r⟩
   .by_cases hb:b=s.heap.objs.size
    .subst hb;rw[ag]at q;cases q;refine⟨by show 2<=sizeLine;decide,[.int i tk,x'],.cons ⟨tk,rfl⟩ (.cons ru .nil),⟨_,hT'',rfl,0,rfl⟩⟩
    .rw[ai hb]at q;refine(I.aW b u' q).stay (λc v hc' q'=>keep2 c v ?_ ?_ q') (λc r=>by rw[ai (ax r (I.aW.fresh (QY _)))];exact r) λc ys r=>by rw[ai (ax r (I.aW.fresh (QY _)))];exact r
     .rcases hc' with z|z
      .rw[z];exact ax q fe.1
      .exact ax z fe.1
     .rcases hc' with z|z
      .rw[z];exact ax q fi.1
      .exact ax z fi.1
  refine⟨.ref s.heap.objs.size,_,I1,rfl,⟨_,x,I.aW.fresh (QY _),rfl,rfl,λys hy=>by rw[I.tY hy hq];exact hx⟩,⟨⟨_,by simpa using he''⟩,?_⟩,λb hb=>?_⟩
  .obtain⟨o,q,r⟩:=hs'.1;exact⟨o,(hs''.2 it (Si hei)).trans q,r⟩
  .rcases Q_.mp hb with rfl|hb
   .rw[ai (Rt (Rc he))];exact fe.1
   .have:b=it:=by simpa using hb
    subst this;obtain⟨o,q,_⟩:=hl;rw[ai (Rt (Rc q))];exact fi.1
 done:=by
  intro X hP hw hK hc i ac s σ H E I hf st hg;subst hP hw hK;obtain⟨xs,hq,hx⟩:=hg;obtain⟨⟨old,he⟩,hl⟩:=st;obtain⟨its,rv,p,hz⟩:=I.list hq;have fi:=hf it (by simp);have hai:a≠it:=by intro z;obtain⟨o1,e1,c1,_⟩:=p.isList;obtain⟨o2,e2,c2,_⟩:=hl;rw[z,e2]at e1;cases e1;rw[c2]at c1;injection c1 with z;exact absurd z (by decide)
  have hh:X.A.in1.handled=none:=I.ok.hd hc;have hln:=rv.length;have Dr:Draws X.prog X.w X.A.in1 it [it,a] 0 (λ_ _=>True) (λ_ h=>h.IsListIter it a i/\h.IsList a its.toArray):=
   { live:=λ_ _ st=>let ⟨o,ho,_⟩:=st.1;⟨o,ho⟩
     frame:=λ_ _ _ st hk=>⟨st.1.at λo e=>hk it (by simp) o e,st.2.at λo e=>hk a (by simp) o e⟩
     item:=λi s Q E hi=>absurd hi (by lia)
     done:=λs Q E st hE=>wpAny_nextOf_list_end hh st.1 st.2 (by simp;lia) hE }
  exact wpAny_pyNext_enum_endD Dr he ⟨hl,p.isList⟩ λh' eb=>⟨rfl,I.turned (t':=s.toks) (λb o hb e=>eb b o hb e) fi.1 fi.2.1 fi.2.2.2.1 fi.2.2.2.2.1 fi.2.2.2.2.2⟩
 self:=λA i s Q E st h=>by obtain⟨⟨old,he⟩,_⟩:=st;exact wpAny_pyIter_enum he h
section
def wy(K:Vx)(ta:TA):TI:=λσ H R=>ta σ H λvs H1=>∃a xs,vs=[.ref a]/\SqL K H1 a xs/\R (Nd K a) H1
def wz{l:Expr}(f:Gl X "enumerate") (hm:X.mg "enumerate"=none) (ha:PA X [l] ta) (g:autoParam (starEach [l] X.env=[(false,eval l X.env)]) aM):PI X (.Tuple es k Jg) (.Call (.Name "enumerate" p) [l] [] pos) (wy X.K ta):=by
 intro ac s σ H R I h;refine Call_ (ml I f hm (by decide +kernel:bootBuiltins "enumerate"=some (.type "enumerate")) (T4 (cc (ha pos ac s σ H _ I h) λus s1 ⟨vs,H1,c,i,q1⟩=>?_) g rfl));obtain⟨a,xs,e,j,q⟩:=q1;subst e;cases i with
 |cons r m=>
  cases m;cases r;obtain⟨its,t,pl,hz⟩:=c.list j;refine call_enumerate_list pl.isList λh' d n hsz kp=>?_;have o:L2.Inv X ac σ H1 {s1 with heap:=h'}:=c.kept (t':=s1.toks) kp;refine wpAny_pyIter_enum d ?_;refine⟨s1.heap.objs.size+1,[s1.heap.objs.size+1,s1.heap.objs.size],_,_,H1,rfl,o,x_ a s1.heap.objs.size (s1.heap.objs.size+1) (Nat.succ_ne_self _),⟨⟨_,by simpa using d⟩,n⟩,λb hb=>?_,q⟩;rcases Q_.mp hb with rfl|hb
  .exact c.tO (Vj _) (c.aW.fresh (Vj _))
  .have e:b=s1.heap.objs.size:=by simpa using hb
   subst e;exact c.tO (QY _) (c.aW.fresh (QY _))
end
noncomputable def Pf(osc:Scope)(N:List Str)(scope:Scope)(tN capN:List Str)(caps:List Nat):Bool:=
 (scope.kind==.function)&&scope.names.all (λy=>y.2 != .cell)&&scope.names.all (λy=>y.2 != .local || scope.names.lookup y.1==some .local)&&tN.all (λx=>scope.names.lookup x==some .local) &&
 scope.names.all (λy=>y.2 != .free ||(osc.names.lookup y.1==some .cell || osc.names.lookup y.1==some .free))&&(capN.zip caps).all (λp=>N[p.2]?==some p.1)&&(caps.length==capN.length) &&
 capN.all (λy=>osc.names.lookup y==some .cell || osc.names.lookup y==some .free)&&capN.all (λy=>scope.names.lookup y==some .free)&&decide (tN++capN).Nodup
def cj.of(h1:X.env.scope=osc)(h2:X.N=N)(h3:Pf osc N scope tN capN caps=true):cj X scope tN capN caps:=by
 unfold Pf at h3;simp only[SC,Vo,Bool.or_eq_true,U5,bne_iff_ne,S_,ne_eq]at h3;obtain⟨⟨⟨⟨⟨⟨⟨⟨⟨d,f⟩,g⟩,h⟩,i⟩,j⟩,l⟩,m⟩,n⟩,b⟩:=h3;subst h1 h2;refine⟨d,f,λy c o=>(g y c).resolve_left λz=>z o,h,λy c p=>(i y c).resolve_left λz=>z p,⟨λk y e=>?_,m,n,l⟩,b⟩;have q:k<capN.length:=(Q2.mp e).1;have a:k<caps.length:=by lia
 refine⟨caps[k],by simp[a],?_⟩;have hm:(y,caps[k])∈capN.zip caps:=by
  have:(capN.zip caps)[k]?=some (y,caps[k]):=by rw[Ui];exact⟨e,by simp[a]⟩
  exact RE this
 exact j _ hm
structure Fn(K:Vx) (mg:Str->Option Vz) (x:Str) (st:Stmt) (ps:List Str) (f:Addr) (fd:FuncData):Prop where
 fu:Dc K x x st f fd
 bi:Binds K fd ps []
 gl:mg x=some (.ref f)
def Nf(F:List D->Res R):Sp:=λvs H Q _=>vs.length=1/\∃ds Ma r,IsAll H Ma ds vs/\F ds=.ok r/\∀v H',Same H H'->RetOk (Ka H Ma) H' v r->Q v H'
theorem m8:∀ns:List Int,IsAll H m (ns.map D.int) (ns.map V.int)
 |[]=>rfl
 |n::r=>⟨.int n,r.map V.int,rfl,rfl,m8 r⟩
def Hl(d:∀ns:List Int,ns.length<=63->∃f al,F [.lst (ns.map .int)]=.ok (.val (.bl true) f al))(H:Hp)(a:Addr)(ns:List Int)(g:ns.length<=63)(c:∃o,H a=some (.bw o (.lst (ns.map V.int)))) :
 Nf F [.ref a] H (λv _=>v=.bl true) λ_ _ _=>False:=by
 obtain⟨f,al,e⟩:=d ns g;obtain⟨o,c⟩:=c;exact⟨rfl,[.lst (ns.map .int)],λb=>b=a,_,⟨_,[],rfl,⟨a,ns.map V.int,rfl,.inr ⟨o,c,rfl⟩,m8 ns⟩,rfl⟩,e,λv H' _ h=>h⟩
section
variable{P:Vy}{w:World}{K:Vx}{mg:Str->Option Vz}{base:Heap}
def bF.top(h:bF P w K mg base CX k f fd ps (oh mg 1 F)):bF P w K mg base CX k f fd ps (Nf F):=h.imp λvs H Q E ⟨a,ds,Ma,r,is,e,q⟩=>⟨a,ds,Ma,is,by rw[e];exact q⟩
end
section
open Classical in
def eB(H:Hp)(m:Addr->Prop)(x:D)(u:Vz):Bool:=decide (∃d v,RelV v u/\Is H m d v/\gZ d x=true)
def kK(r:RelV v u)(h:Is H m d v):eB H m x u=gZ d x:=by
 unfold eB;cases q:gZ d x with
 |true=>exact @Rm _ (Classical.propDecidable _) ⟨d,v,r,h,q⟩
 |false=>refine @RK _ (Classical.propDecidable _) λ⟨d',c,b,h',a⟩=>?_;have e:=L2.RelV.inj r b;subst e;have e:=Is.inj h h';subst e;rw[q]at a;cases a
theorem kM:∀{ds:List D}{vs:List V}{us:List Vz},IsAll H m ds vs->Vals vs us->us.any (eB H m x)=ds.any λd=>gZ d x
 |[],_,_,h,r=>by cases h;cases r;rfl
 |d::ds,_,_,h,r=>by
  obtain⟨v,w,rfl,h1,h2⟩:=h;cases r with
  |cons a b=>rw[Ux,Ux,kK a h1,kM h2 b]
def Ea(neg:Bool)(K:Vx):R2:=λx y H Q=>∃p ds vs d m a,y=.ref p/\(SqL K H p vs\/SqT K H p vs)/\IsAll H m ds vs/\Is H a d x/\(D.fJ ds<=50/\d.dep<=50)/\Q (.bl (if neg then !(ds.any λe=>gZ e d)else ds.any λe=>gZ e d)) H
theorem iH(I:L2.Inv X ac σ H s)(a:A.units+50<cLine)(b:Is H m' d x)(g:d.dep<=50)(c:RelV x v) :
 ∀{ds:List D}{vs:List V}{us:List Vz},IsAll H m ds vs->Vals vs us->D.fJ ds<=50->∀u∈us,SeqAt.EqAt A s u v (eB H m d u)
 |[],_,_,h,r,_=>λu a=>by cases h;cases r;cases a
 |e::ds,_,_,h,r,hd=>λu hm=>by
  obtain⟨y,w,rfl,h1,h2⟩:=h;have i:max e.dep (D.fJ ds)<=50:=hd;cases r with
  |cons f j=>
   rcases Q_.mp hm with rfl|hm
   .rw[kK f h1];exact Ag I.aW 50 A a (by lia) (by lia) (by lia) h1 b f c
   .exact iH I a b g c h2 j (by lia) u hm
def pc(g:X.A.units+64<cLine):OpR X (compareOp .NotIn) (Ea true X.K):=by
 intro ac s σ H x y v u Q I b e h;obtain⟨p,ds,vs,d,m,i,rfl,hq,a,c,hd,q⟩:=h;cases e;rcases hq with hq|hq
 .obtain⟨its,r,pl,hz⟩:=I.list hq;refine SeqAt.notIn_listAt (eB H m d) pl.isList (λw f=>iH I (by grind) c hd.2 b a r hd.1 w (by grind)) ⟨.bl _,H,I,rfl,?_⟩;rw[show its.toArray.any (eB H m d)=its.any (eB H m d) by simp,kM a r];exact q
 .obtain⟨its,r,pl,hz⟩:=I.tuple hq;refine SeqAt.notIn_tupleAt (eB H m d) pl (λw f=>iH I (by grind) c hd.2 b a r hd.1 w (by grind)) ⟨.bl _,H,I,rfl,?_⟩;rw[show its.toArray.any (eB H m d)=its.any (eB H m d) by simp,kM a r];exact q
end
end L3
namespace L3
open PySem PySem.Spec PyProof.Rows L2
section
variable{X:Cx}
noncomputable def AC(neg:Bool):R2:=λx y H Q=>∃a o,y=.ref a/\FH H a x o/\Q (.bl (if neg then !o.isSome else o.isSome)) H
def iI(e:X.A.units+64<cLine):OpR X (compareOp .NotIn) (AC true):=by intro ac s σ H x y v u Q I b c h;obtain⟨a,o,rfl,g,q⟩:=h;cases c;exact zO (by lia) I g b λf d=>⟨.bl _,H,d,rfl,q⟩
end
def getD:List DK->List D->DK->Option D
 |k'::ks,d::ds,k=>if k'=k then some d else getD ks ds k
 |_,_,_=>none
def pj(t:TupsIn H vs its):∀x∈its,H x.2=some (.tup ((iK x.1).map kV)):=by
 unfold TupsIn at t;induction t with
 |nil=>exact λx hx=>nomatch hx
 |cons q _ a=>
  intro x hx;rcases Q_.mp hx with rfl|hx
  .exact q.2
  .exact a x hx
section
open Classical in
end
noncomputable abbrev NK:=Int×Int×Int
noncomputable def dd(l:List Int)(x:Int):List Int:=if x∈l then l else l++[x]
def Kn(xs:List Int):List Int:=xs.foldl dd []
def g1(a:List NK):List Int:=Kn (a.map (·.1))
def g2(a:List NK)(x:Int):List Int:=Kn ((a.filter λt=>decide (t.1=x)).map (·.2.1))
theorem jk:∀(k:List Int),IsAll H m (k.map .int) (k.map .int)
 |[]=>rfl
 |i::k=>⟨.int i,_,rfl,rfl,jk k⟩
open Classical in
section
def AD(i:Nat)(f:En->Res R):En->Res Fl:=λenv=>(f env).bind λr=>if i<env.length then .ok (.nx ((bw env r.al).set i (some (.val r.d r.fr))))else .stuck
def AE(u:X.N.Nodup)(b:X.N[i]?=some x)(w:JD X.env.scope x)(h:PD X E e f)(y:autoParam (swapsWith e (some (.Name x pos')) pos.line X.env=pure false) aM)
 (A:autoParam (X.fn x=true\/X.env.scope.names.lookup x=some .local) ae):JF X E (.Assign [.Name x pos'] e pos) (AD i f):=by
 obtain⟨t,p1,s1⟩:=h;refine⟨_,aH u b w p1 y A,λg M G env σ H D c p=>?_⟩;refine s1.Cu c p λr v I H' e j ro m=>?_;by_cases b:i<env.length
 .rw[Re b]at m;obtain⟨M2,J,n,s,o⟩:=ro.is j e c.same;obtain⟨B,C,x3,k,F,_,_⟩:=Rep.bw r.al s;have l:=k.put (i:=i) (sl:=.val r.d r.fr) (T:=λ_=>False) (by rw[qb];exact b) (Is.frozen s x3 F o) (λ_ z=>z.elim) λ_ z=>z.elim;exact m _ B _ H' ⟨λa z=>x3 a (n a z),λ_ _ q _=>q⟩ l
 .rw[Rf b]at m;exact m.elim
def qv(i:Nat)(a:autoParam (X.N[i]?=some x) aM)(b:autoParam (M9 X.env.scope x) VD._auto_1)(hd:autoParam (dB x) ab)
 (c:autoParam ((x==("__classdict__" : Str))=false) ab):PD X E (.Name x pos) (gc i):=G7 (pv i a b hd c)
end
end L3
namespace L3
open PySem PySem.Spec PyProof.Rows L2
section
variable{X:Cx}
def Ko:V->List V->Hp->VK->Prop:=λx xs H Q=>∃l vs ds d m a y j,x=.ref l/\xs=[y]/\Rd H l (.lst vs)/\IsAll H m ds vs/\Is H a d y/\(D.fJ ds<=50/\d.dep<=50)/\ds.findIdx? (λe=>gZ e d)=some j/\Q (.int ((j:Nat):Int)) H
def Hm(P:X.A.units+64<cLine):FF X "list.index" Ko:=by
 intro ac s σ H x vs v us Q I D E h;obtain⟨l,xs,ds,d,m,R,y,j,rfl,rfl,G,is,ix,hd,J,q⟩:=h;cases D;obtain⟨u,rfl,ru⟩:=E.one;obtain⟨z,its,n,r,e⟩:=(show ObjOk X.prog X.w H s.heap l (.lst xs)from zH I.aW G);have S:=r.length;obtain⟨g,o,p⟩:=Tv.mp J;have K:=is.length;have b:j<its.length:=by lia
 have c:∀(k:Nat)(f:k<its.length)(a:k<ds.length),eB H m d its[k]=gZ ds[k] d:=λk f a=>by
  obtain⟨w,L,M⟩:=is.get (i:=k) (d:=ds[k]) (by simp[a]);obtain⟨N,C,t⟩:=r.get L;have:its[k]=N:=by rw[Q1 f]at C;exact R0 C
  rw[this];exact kK t M
 refine call_meets F.slot_list_index ⟨_,e,rfl⟩ F.entry_list_index (F.args_list_index_2 _ _) (SeqAt.list_indexAt l its.toArray n none #[] u (eB H m d) j (by simpa using b) ?_ ?_ ?_) ⟨e,?_,?_⟩
 .have:sizeLine<2^62:=by decide
  lia
 .simp only[List.getElem_toArray];rw[c j b g];exact o
 .intro k f B;have a:k<its.length:=by simpa using f
  simp only[List.getElem_toArray];rw[c k a (by lia)];have:=p k B;simpa using this
 .exact λw O=>iH I (by show X.A.units+1+50<cLine;lia) ix hd.2 ru is r hd.1 w (by simpa using O)
 .exact⟨.int j,H,I.tok _,⟨_,rfl⟩,q⟩
end
section
def wB(a b:Str):Prop:=0<b.length/\a.length<=100000/\(Txt.split a b).length<=100000/\(Builtin.Str.partsBetween a (Builtin.Str.occurrences a b 0 a.length (a.length+1)) b.length).length<=100000
instance (a b:Str):Decidable (wB a b):=by unfold wB;infer_instance
end
open Classical in
section
def dX{kvs:List (bW×V)}(h:cJ kvs k=none):bY kvs k y=kvs++[(k,y)]:=by unfold bY;rw[hG,h,Rf (by simp)]
end
section
open Classical in
end
noncomputable abbrev IP:=Int×Int
noncomputable def dp(l:List IP)(x:IP):List IP:=if x∈l then l else l++[x]
def h1(a:List NK):List IP:=(a.map λt=>(t.1,t.2.1)).foldl dp []
end L3
namespace L2
open PySem PySem.Spec PySem.Calls PyProof.Rows
section
def ya:CallR X (.builtin "len") (λxs H Q=>∃(d:Addr)(kvs:List (bW×V))(u:HO),xs=[.ref d]/\(u=.dK kvs\/(u=.dT []/\kvs=[]))/\Rd H d u/\kvs.length<=sizeLine/\Q (.int kvs.length) H):=by
 intro ac s σ H xs us Q I r h;obtain⟨d,kvs,u,rfl,f,b,hz,q⟩:=h;obtain⟨w,rfl,g⟩:=dR r;cases g;have e:=b.ok I.aW;have c:(d==sysModules)=false/\∃vs,KV kvs vs/\s.heap.DictOf (aO X.prog X.w) d vs:=by
  rcases f with rfl|⟨rfl,rfl⟩
  .obtain⟨z,hd,vs,a,dd⟩:=e;exact⟨hd,vs,a,dd⟩
  .obtain⟨hd,dd⟩:=pR e;exact⟨hd,[],.nil,dd⟩
 obtain⟨hd,vs,a,dd⟩:=c;refine call_len_dict hd dd (by rw[<- a.length];rw[RB]at hz;lia) ?_;exact⟨.int kvs.length,H,I.tok _,⟨_,by rw[a.length]⟩,q⟩
end
end L2
namespace L3
open PySem PySem.Spec PyProof.Rows L2
def Ho{K KK:Vx}{mg:Str->Option Vz}{x:Str}{st:Stmt}{ps:List Str}{f:Addr}{oc:Vz}{od an:Option Addr}{osl:Array (Option Vz)}{kV doc pm cdv ct:Vz}(U:tU K KK)
 (l:K.lookup f=some ⟨oc,od,.func (fnOf x x (dg st) (cF st) (aD st) .none kV doc pm an cdv ct),osl⟩) (c:codeIn K cdv x=true) (g:mg x=some (.ref f))
 (h:∀(kV doc pm:Vz)(an:Option Addr)(cdv ct:Vz)(us:List Vz),us.length=ps.length->bindArgs (fnOf x x (dg st) (cF st) (aD st) .none kV doc pm an cdv ct) ⟨us,[]⟩=pure (ps.zip us)) :
 Fn KK mg x st ps f (fnOf x x (dg st) (cF st) (aD st) .none kV doc pm an cdv ct):=
 have F:Dc KK x x st f _:=zN (U.look _ _ l (λ_ _ z=>nomatch z)) (U.code c) (U.keep l)
 ⟨F,F.binds h,g⟩
section
def sr{st:Stmt}(G:bF X.prog X.w X.K X.mg X.base CX k f fd ps (oh X.mg ps.length F))(c:c9 k X.A)(d:Gl X x)(h:Fn X.K X.mg x st ps f fd)(g:fh CX X E)
 (ha:JE X E (e::es) fs) (i:∀env rs,fs env=.ok rs->rs.length=ps.length) (a:autoParam (dB x) ab) (j:autoParam (sE X e es) aM) (b:autoParam (bT X pos es) aM) :
 PD X E (.Call (.Name x p) (e::es) [] pos) (mY F fs):=D7 G c d h.gl h.fu.kp h.bi g ha i a j b
end
end L3
namespace Pz
section
variable{κ α:Type}[DecidableEq κ]
noncomputable abbrev MD(κ α:Type):=List (κ×List α)
def MD.get(d:MD κ α)(k:κ):List α:=((d.find? λx=>decide (x.1=k)).map (·.2)).getD []
def MD.has(d:MD κ α)(k:κ):Bool:=d.any λx=>decide (x.1=k)
def MD.app(d:MD κ α)(k:κ)(v:α):MD κ α:=if d.has k then d.map (λx=>if x.1=k then(x.1,x.2++[v])else x)else d++[(k,[v])]
def MD.drop(d:MD κ α)(k:κ):MD κ α:=d.filter λx=>decide (x.1≠k)
def MD.flat(d:MD κ α):List α:=d.flatMap (·.2)
abbrev MD.keys(d:MD κ α):List κ:=d.map (·.1)
structure MD.Ok(d:MD κ α):Prop where
 nk:d.keys.Nodup
 ne:∀x∈d,x.2≠[]
theorem dk(x:κ×List α)(d:MD κ α)(k:κ):MD.get (x::d) k=if x.1=k then x.2 else MD.get d k:=by grind [MD.get]
def has_iff{d:MD κ α}{k:κ}:d.has k=true↔k∈d.keys:=by
 unfold MD.has
 grind
def AF{d:MD κ α}{k:κ}(h:k∉d.keys):d.get k=[]:=by
 induction d with
 |nil=>rfl
 |cons x r a=>grind [dk]
def Eb{d:MD κ α}(nd:d.keys.Nodup){k:κ}{l:List α}(h:(k,l)∈d):d.get k=l:=by
 induction d with
 |nil=>cases h
 |cons x r a=>grind [dk]
def qg{d:MD κ α}{k:κ}{v:α}(h:v∈d.get k):(k,d.get k)∈d:=by
 induction d with
 |nil=>cases h
 |cons x r a=>grind [dk]
def qh{d:MD κ α}{k:κ}{v:α}(h:k∉d.keys):d.map (λx=>if x.1=k then(x.1,x.2++[v])else x)=d:=by induction d<;>grind
def AG(d:MD κ α)(k:κ)(v:α):(d.app k v).keys=if k∈d.keys then d.keys else d.keys++[k]:=by
 unfold MD.app;by_cases h:k∈d.keys
 .rw[Re (has_iff.mpr h),Re h];unfold MD.keys;rw[Sf];exact Sz λx _=>by grind
 .rw[Rf (λq=>h (has_iff.mp q)),Rf h];unfold MD.keys;rw[RX];rfl
def m9{d:MD κ α}(O:d.Ok)(k:κ)(v:α):(d.app k v).Ok:=by
 constructor
 .rw[AG];split
  .exact O.nk
  .rename_i h;exact RC.mpr ⟨O.nk,by simp,λa ha b hb e=>by grind⟩
 .intro x c;unfold MD.app at c;split at c
  .obtain⟨y,f,rfl⟩:=Q3.mp c;split
   .simp
   .exact O.ne y f
  .rcases Rj.mp c with h|h
   .exact O.ne x h
   .rw[Q9]at h;subst h;simp
def lK{d:MD κ α}{k:κ}{l:List α}(h:k∉d.keys):MD.get (d++[(k,l)]) k=l:=by
 grind [MD.get]
def om{d:MD κ α}{k a:κ}{l:List α}(h:k≠a):MD.get (d++[(k,l)]) a=d.get a:=by
 grind [MD.get]
def qj{d:MD κ α}{k:κ}{v:α}(h:k∈d.keys):MD.get (d.map (λx=>if x.1=k then(x.1,x.2++[v])else x)) k=d.get k++[v]:=by
 induction d with
 |nil=>cases h
 |cons x r a=>
  rw[Rn,dk,dk];by_cases e:x.1=k
  .rw[Re e,Re (show x.1=k from e),Re e]
  .rw[Rf e,Rf e,Rf e];rcases Q_.mp h with q|q
   .exact(e q.symm).elim
   .exact a q
def uZ{d:MD κ α}{k a:κ}{v:α}(h:k≠a):MD.get (d.map (λx=>if x.1=k then(x.1,x.2++[v])else x)) a=d.get a:=by
 induction d with
 |nil=>rfl
 |cons x r b=>grind [dk]
theorem qk(d:MD κ α)(k:κ)(v:α)(a:κ):(d.app k v).get a=if k=a then d.get k++[v]else d.get a:=by
 unfold MD.app;by_cases h:k∈d.keys
 .rw[Re (has_iff.mpr h)];by_cases e:k=a
  .subst e;rw[Re rfl,qj h]
  .rw[Rf e,uZ e]
 .rw[Rf (λq=>h (has_iff.mp q))];by_cases e:k=a
  .subst e;rw[Re rfl,lK h,AF h];rfl
  .rw[Rf e,om e]
def fy{d:MD κ α}(nd:d.keys.Nodup)(k:κ)(v:α):(d.app k v).flat.Perm (v::d.flat):=by
 unfold MD.app;by_cases h:k∈d.keys
 .rw[Re (has_iff.mpr h)];induction d with
  |nil=>cases h
  |cons x r b=>
   have a:=Se.mp nd;unfold MD.flat at b ⊢;rw[Rn,SL,SL];by_cases e:x.1=k
   .subst e;rw[Re rfl,qh a.1];show((x.2++[v])++_).Perm _;rw[RO];exact Vp
   .rw[Rf e];rcases Q_.mp h with q|q
    .exact(e q.symm).elim
    .exact((Tl _).append (b a.2 q)).trans Vp
 .rw[Rf (λq=>h (has_iff.mp q))];unfold MD.flat;rw[To];show(_++([v]++[])).Perm _;rw[R_];exact List.perm_append_singleton _ _
def yb(d:MD κ α)(k:κ):(d.drop k).keys=d.keys.filter λx=>decide (x≠k):=by unfold MD.drop MD.keys;rw[List.filter_map];rfl
def wC{d:MD κ α}(O:d.Ok)(k:κ):(d.drop k).Ok:=⟨by rw[yb];exact List.Pairwise.filter _ O.nk,λx a=>O.ne x (Ru.mp a).1⟩
theorem yc{d:MD κ α}{k:κ}(h:k∉d.keys):d.drop k=d:=by induction d<;>grind [MD.drop]
def kN{d:MD κ α}(nd:d.keys.Nodup)(k:κ):d.flat.Perm (d.get k++(d.drop k).flat):=by
 induction d with
 |nil=>exact Tl _
 |cons x r b=>
  have a:=Se.mp nd;rw[dk];by_cases e:x.1=k
  .subst e;rw[Re rfl];have:MD.drop (x::r) x.1=r:=by grind [MD.drop,yc]
   rw[this];exact Tl _
  .rw[Rf e];have:MD.drop (x::r) k=x::MD.drop r k:=by grind [MD.drop]
   rw[this];unfold MD.flat at b ⊢;rw[SL,SL];refine((Tl _).append (b a.2)).trans ?_;rw[<- RO,<- RO];exact List.perm_append_comm.append_right _
def mem_flat{d:MD κ α}{v:α}:v∈d.flat↔∃x∈d,v∈x.2:=SE
def jQ(d:MD κ α){k:κ}{v:α}(h:v∈d.get k):v∈d.flat:=mem_flat.mpr ⟨_,qg h,h⟩
def lZ(d:MD κ α)(k:κ):(d.get k).length<=d.flat.length:=by
 induction d with
 |nil=>exact QY _
 |cons x r a=>grind [dk,MD.flat]
def gu{d:MD κ α}(O:d.Ok):d.length<=d.flat.length:=by
 have:∀d:MD κ α,(∀x∈d,x.2≠[])->d.length<=d.flat.length:=by
  intro d;induction d with
  |nil=>intro _;exact QY _
  |cons x r a=>
   intro h;have h1:=a λy b=>h y (Q7 _ b);have h2:0<x.2.length:=Ur.mpr (h x Q5);unfold MD.flat at h1 ⊢
   grind
 exact this d O.ne
end
end Pz
namespace Pz
noncomputable def lo:List Int->Int
 |[]=>0
 |x::r=>r.foldl (λa b=>if b<a then b else a) x
theorem u4:∀(r:List Int)(x:Int),r.foldl (λa b=>if b<a then b else a) x∈x::r/\∀y∈x::r,r.foldl (λa b=>if b<a then b else a) x<=y
 |[],x=>by grind
 |z::r,x=>by
  obtain⟨h1,h2⟩:=u4 r (if z<x then z else x);rw[Tf];constructor
  .grind
  .intro y c;have h3:=h2 _ Q5
   grind
def AH(h:l≠[]):lo l∈l:=by
 cases l with
 |nil=>exact(h rfl).elim
 |cons x r=>exact(u4 r x).1
def AI(h:y∈l):lo l<=y:=by
 cases l with
 |nil=>cases h
 |cons x r=>exact(u4 r x).2 y h
structure qY(pile:Int->Int->Int):Prop where
 nn:∀{p l:Int},0<=p->0<=l->0<=pile p l
 ch:∀{p l:Int},0<=p->0<=l->∀k:Nat,pile p l<=k↔p/2^k=l/2^k
section
variable(P:qY pile)
include P
theorem qY.zero(a:0<=p)(b:0<=l):pile p l=0↔p=l:=by
 have h1:=P.nn a b;have h2:=P.ch a b 0
 grind
theorem qY.lt(a:0<=l)(f:l<=p)(c:l<=r)(h:pile p l<pile r l):p<r:=by
 have d:0<=p:=Tw a f;have g:0<=r:=Tw a c;obtain⟨k,j⟩:=SX (P.nn d a);have e1:=(P.ch d a k).mp (by lia);have e2:¬r/2^k=l/2^k:=λe=>by have:=(P.ch g a k).mpr e;lia
 have b:(0:Int)<2^k:=Int.pow_pos (by decide);have e3:=Int.ediv_le_ediv b c;refine Int.not_le.mp λi=>?_;have e4:=Int.ediv_le_ediv b i;lia
theorem qY.same(c:0<=l)(hm:l<=m)(g:l<=r)(h:pile m l<pile r l):pile r m=pile r l:=by
 have m0:0<=m:=Tw c hm;have d:0<=r:=Tw c g;have f:∀j:Nat,pile r m<=j↔pile r l<=j:=by
  intro j;rw[P.ch d m0,P.ch d c];by_cases n:pile m l<=j
  .rw[(P.ch m0 c j).mp n]
  .have hd:∀{a b:Int}{i:Nat},a/2^j=b/2^j->a/2^(j+i)=b/2^(j+i):=by intro a b i e;rw[Int.pow_add,<- Int.ediv_ediv_of_nonneg (UU (Int.pow_pos (by decide))),<- Int.ediv_ediv_of_nonneg (UU (Int.pow_pos (by decide))),e]
   obtain⟨k,o⟩:=SX (P.nn m0 c);obtain⟨i,rfl⟩ : ∃i,k=j+i:=⟨k-j,by lia⟩;constructor<;>intro e<;>exfalso
   .have e1:=hd (i:=i) e;rw[(P.ch m0 c (j+i)).mp (by lia)]at e1;have:=(P.ch d c (j+i)).mpr e1;lia
   .have:=(P.ch d c j).mpr e;lia
 obtain⟨a,ha⟩:=SX (P.nn d m0);obtain⟨b,hb⟩:=SX (P.nn d c);have h1:=f a;have h2:=f b;lia
end
section
variable{α:Type}
abbrev Q(α:Type):=MD Int (Int×α)
structure ub(pile:Int->Int->Int) (last:Int) (d:Q α):Prop where
 ok:d.Ok
 l0:0<=last
 at_:∀x∈d,∀y∈x.2,x.1=pile y.1 last/\last<=y.1
def ub.add(h:ub pile last d)(a:α)(b:last<=p):ub pile last (d.app (pile p last) (p,a)):=by
 refine⟨m9 h.ok _ _,h.l0,λx hx y hy=>?_⟩;unfold MD.app at hx;split at hx
 .obtain⟨z,hz,rfl⟩:=Q3.mp hx;by_cases e:z.1=pile p last
  .rw[Re e]at hy ⊢;rcases Rj.mp hy with hy|hy
   .exact h.at_ z hz y hy
   .rw[Q9]at hy;subst hy;exact⟨e,b⟩
  .rw[Rf e]at hy ⊢;exact h.at_ z hz y hy
 .rcases Rj.mp hx with hx|hx
  .exact h.at_ x hx y hy
  .grind
def cK(pile:Int->Int->Int)(last:Int)(d:Q α)(l:List (Int×α)):Q α:=l.foldl (λd x=>d.app (pile x.1 last) x) d
theorem ub.cK:∀{l:List (Int×α)}{d:Q α},ub pile last d->(∀x∈l,last<=x.1)->ub pile last (cK pile last d l)
 |[],d,h,_=>h
 |x::l,d,h,a=>ub.cK (l:=l) (h.add x.2 (a x Q5)) λy b=>a y (Q7 _ b)
theorem ie:∀{l:List (Int×α)}{d:Q α},d.Ok->(cK pile last d l).flat.Perm (l++d.flat)
 |[],d,h=>Tl _
 |x::l,d,h=>(ie (l:=l) (m9 h _ _)).trans (((Tl _).append (fy h.nk _ _)).trans Vp)
def b9(d:Q α):Int:=lo d.keys
def lowP(d:Q α):Int:=lo ((d.get (b9 d)).map (·.1))
def mid(pile:Int->Int->Int)(d:Q α):Q α:=cK pile (lowP d) (d.drop (b9 d)) (d.get (b9 d))
def dm(pile:Int->Int->Int)(d:Q α):List (Int×α):=(mid pile d).get 0
def left(pile:Int->Int->Int)(d:Q α):Q α:=(mid pile d).drop 0
structure Jm(pile:Int->Int->Int) (last:Int) (d:Q α):Prop where
 ge:last<=lowP d
 ok:ub pile (lowP d) (left pile d)
 eq:∀x∈dm pile d,x.1=lowP d
 lt:∀x∈(left pile d).flat,lowP d<x.1
 pm:d.flat.Perm (dm pile d++(left pile d).flat)
 ne:dm pile d≠[]
 k1:b9 d∈d.keys
 k2:d.get (b9 d)≠[]
 k3:0∈(mid pile d).keys
 o1:ub pile (lowP d) (d.drop (b9 d))
def yd(P:qY pile)(h:ub pile last d)(m:d≠[]):Jm pile last d:=by
 have k1:b9 d∈d.keys:=AH (by simpa[MD.keys]using m);obtain⟨x0,f,n⟩:=Q3.mp k1;have s:d.get (b9 d)=x0.2:=Eb h.ok.nk (by grind);have k2:d.get (b9 d)≠[]:=by rw[s];exact h.ok.ne x0 f
 have hm:lowP d∈(d.get (b9 d)).map (·.1):=AH (by simpa using k2);obtain⟨t,o,u⟩:=Q3.mp hm;have cD:∀y∈d.get (b9 d),b9 d=pile y.1 last/\last<=y.1:=λy b=>by rw[s]at b;have:=h.at_ x0 f y b;rw[n]at this;exact this
 have l:last<=lowP d:=by grind
 have l0:0<=lowP d:=Tw h.l0 l;have kP:pile (lowP d) last=b9 d:=by grind
 have g:∀y∈d.get (b9 d),lowP d<=y.1:=λy b=>AI (Q3.mpr ⟨y,b,rfl⟩);have i:∀x∈d.drop (b9 d),∀y∈x.2,x.1=pile y.1 (lowP d)/\lowP d<y.1:=λx a y b=>by
  obtain⟨a,c⟩:=Ru.mp a;have c:x.1≠b9 d:=Rr c;have v:b9 d<=x.1:=AI (Q3.mpr ⟨x,a,rfl⟩);obtain⟨e1,e2⟩:=h.at_ x a y b;have j:pile (lowP d) last<pile y.1 last:=by grind
  exact⟨e1.trans (P.same h.l0 l e2 j).symm,P.lt h.l0 l e2 j⟩
 have o1:ub pile (lowP d) (d.drop (b9 d)):=⟨wC h.ok _,l0,λx a y b=>⟨(i x a y b).1,UU (i x a y b).2⟩⟩;have k:ub pile (lowP d) (mid pile d):=o1.cK g;have p:d.flat.Perm (mid pile d).flat:=(kN h.ok.nk _).trans (ie o1.ok).symm;have q:(mid pile d).flat.Perm (dm pile d++(left pile d).flat):=kN k.ok.nk 0;have eq:∀x∈dm pile d,x.1=lowP d:=λx a=>by have:=k.at_ _ (qg a) x a;exact(P.zero (Tw l0 this.2) l0).mp this.1.symm
 have lt:∀x∈(left pile d).flat,lowP d<x.1:=λx a=>by obtain⟨y,b,a⟩:=mem_flat.mp a;obtain⟨b,c⟩:=Ru.mp b;have c:y.1≠0:=Rr c;obtain⟨e1,e2⟩:=k.at_ y b x a;have:¬x.1=lowP d:=λe=>c (e1.trans ((P.zero (Tw l0 e2) l0).mpr e));lia
 have r:t∈dm pile d:=by
  have h1:t∈d.flat:=jQ d o
  grind
 exact⟨l,⟨wC k.ok _,l0,λx a=>k.at_ x (Ru.mp a).1⟩,eq,lt,p.trans q,(λe=>by grind),k1,k2,Q3.mpr ⟨_,qg r,rfl⟩,o1⟩
end
end Pz
namespace Pz
noncomputable abbrev Arr:=Int×Int×Int
noncomputable abbrev Rule:=Int×Int×Int×List Int
noncomputable abbrev ye:=Int×Option Int×Option Int
abbrev TD:=List (Arr×ye)
noncomputable def bG(t:TD)(a:Arr):Option ye:=(t.find? λx=>decide (x.1=a)).map (·.2)
def tput(t:TD)(a:Arr)(v:ye):TD:=if(bG t a).isSome then t.map (λx=>if x.1=a then(x.1,v)else x)else t++[(a,v)]
structure PS where
 told:TD
 last:Int
 aG:Q Arr
 settled:MD (Int×Int) (Int×Int)
 aJ:MD (Int×Int) (Int×Rule×Int)
abbrev RS:=MD (Int×Int) (Int×Rule)
section
variable(pile:Int->Int->Int)(rs:RS)
def gf(S:PS)(a:Arr)(p:Int):Bool:=match bG S.told a with
 |none=>true
 |some v=>decide (p<v.1)
def ig(S:PS)(a:Arr)(p:Int)(n m:Option Int):PS:={S with told:=tput S.told a (p,n,m),aG:=S.aG.app (pile p S.last) (p,a)}
def bc(S:PS)(a:Arr)(p:Int)(n m:Option Int):PS:=if gf S a p then ig pile S a p n m else S
def nth1(l:List Int):Int:=l[1]?.getD 0
def ql(S:PS)(num:Int)(r:Rule)(mid a:Int):PS:={S with aJ:=S.aJ.app (mid,nth1 r.2.2.2) (num,r,a)}
def first(S:PS)(num:Int)(r:Rule)(mid a:Int):PS:=(S.settled.get (mid,nth1 r.2.2.2)).foldl (λS x=>bc pile S (r.1,r.2.1,x.1) (a+x.2+1) (some num) (some mid)) (ql S num r mid a)
def note(S:PS)(a:Arr)(b:Int):PS:={S with settled:=S.settled.app (a.1,a.2.1) (a.2.2,b)}
def lB(a:Arr)(b:Int)(S:PS)(x:Int×Rule×Int):PS:=bc pile S (x.2.1.1,x.2.1.2.1,a.2.2) (x.2.2+b+1) (some x.1) (some a.1)
def cz(a:Arr)(b:Int)(S:PS)(x:Int×Rule):PS:=if x.2.2.2.2.length=1 then bc pile S (x.2.1,x.2.2.1,a.2.2) (b+1) (some x.1) none else first pile S x.1 x.2 a.2.2 b
def settle(S:PS)(a:Arr)(b:Int):PS:=(rs.get (a.1,a.2.1)).foldl (cz pile a b) ((S.aJ.get (a.1,a.2.1)).foldl (lB pile a b) (note S a b))
def bM(S:PS)(x:Int×Arr):Bool:=match bG S.told x.2 with
 |none=>false
 |some v=>decide (v.1=x.1)
def turn(S:PS)(x:Int×Arr):PS:=if bM S x then settle pile rs S x.2 x.1 else S
def batch(S:PS)(l:List (Int×Arr)):PS:=l.foldl (turn pile rs) S
def take(S:PS):PS:={S with last:=lowP S.aG,aG:=left pile S.aG}
end
noncomputable def L:Nat:=16000000
structure jd(S:PS):Prop where
 t:S.told.length<L
 p:S.aG.length<L
 pf:S.aG.flat.length<L
 s:S.settled.length<L
 sf:S.settled.flat.length<L
 l:S.aJ.length<L
 lf:S.aJ.flat.length<L
inductive Loop(pile:Int->Int->Int) (rs:RS):Nat->PS->PS->Prop where
 |done {S:PS}:S.aG=[]->Loop pile rs 0 S S
 |step {n:Nat} {S T:PS}:S.aG≠[]->ub pile S.last S.aG->(∀x∈dm pile S.aG,bG S.told x.2≠none)->jd S->jd (batch pile rs (take pile S) (dm pile S.aG))->
  Loop pile rs n (batch pile rs (take pile S) (dm pile S.aG)) T->Loop pile rs (n+1) S T
theorem c_(x:Arr×ye)(t:TD)(a:Arr):bG (x::t) a=if x.1=a then some x.2 else bG t a:=by grind [bG]
def tget_none:bG t a=none↔a∉t.map (·.1):=by
 induction t with
 |nil=>simp[bG]
 |cons x r b=>grind [c_]
def m_(h:bG t a=some v):(a,v)∈t:=by
 induction t with
 |nil=>cases h
 |cons x r b=>grind [c_]
def su(nd:(t.map (·.1)).Nodup)(h:(a,v)∈t):bG t a=some v:=by
 induction t with
 |nil=>cases h
 |cons x r b=>grind [c_]
def yf(t:TD)(a:Arr)(v:ye):(tput t a v).map (·.1)=if a∈t.map (·.1)then t.map (·.1)else t.map (·.1)++[a]:=by
 unfold tput;cases h:bG t a with
 |none=>rw[Rf (by simp),Rf (tget_none.mp h),RX];rfl
 |some w=>have:a∈t.map (·.1):=Q3.mpr ⟨_,m_ h,rfl⟩;rw[Re (by simp),Re this,Sf];exact Sz λx _=>by grind
def Ec(h:(t.map (·.1)).Nodup)(a:Arr)(v:ye):((tput t a v).map (·.1)).Nodup:=by
 rw[yf];split
 .exact h
 .rename_i q;exact RC.mpr ⟨h,by simp,λx c b hb e=>by rw[Q9]at hb;subst hb;subst e;exact q c⟩
def sv(t:TD)(a:Arr)(v:ye):t.length<=(tput t a v).length/\(tput t a v).length<=t.length+1:=by
 unfold tput;split
 .rw[Q0];lia
 .rw[Q8];simp
def gg(t:TD)(a:Arr)(v:ye)(b:Arr):bG (tput t a v) b=if a=b then some v else bG t b:=by
 unfold tput;cases h:bG t a with
 |none=>
  rw[Rf (by simp)];have d:=tget_none.mp h;clear h;induction t with
  |nil=>rw[T7,c_]
  |cons x r c=>grind [c_]
 |some w=>
  rw[Re (by simp)];have hm:a∈t.map (·.1):=Q3.mpr ⟨_,m_ h,rfl⟩;clear h;by_cases e:a=b
  .subst e;rw[Re rfl];induction t with
   |nil=>cases hm
   |cons x r c=>grind [c_]
  .rw[Rf e];clear hm;induction t with
   |nil=>rfl
   |cons x r c=>grind [c_]
structure e_(S T:PS):Prop where
 t:S.told.length<=T.told.length
 p:S.aG.length<=T.aG.length
 pf:S.aG.flat.length<=T.aG.flat.length
 s:S.settled.length<=T.settled.length
 sf:S.settled.flat.length<=T.settled.flat.length
 l:S.aJ.length<=T.aJ.length
 lf:S.aJ.flat.length<=T.aJ.flat.length
def e_.refl(S:PS):e_ S S:=by
 grind [PS,e_]
def e_.trans(a:e_ S T)(b:e_ T U):e_ S U:=⟨Rx a.t b.t,Rx a.p b.p,Rx a.pf b.pf,Rx a.s b.s,Rx a.sf b.sf,Rx a.l b.l,Rx a.lf b.lf⟩
def e_.fit(a:e_ S T)(h:jd T):jd S:=⟨Sm a.t h.t,Sm a.p h.p,Sm a.pf h.pf,Sm a.s h.s,Sm a.sf h.sf,Sm a.l h.l,Sm a.lf h.lf⟩
def eS{κ α:Type}[DecidableEq κ](d:MD κ α)(k:κ)(v:α):d.length<=(d.app k v).length/\d.flat.length<=(d.app k v).flat.length:=by
 unfold MD.app;split
 .rw[Q0];refine⟨QY _,?_⟩;unfold MD.flat;rw[List.length_flatMap,List.length_flatMap,Sf];induction d with
  |nil=>exact QY _
  |cons x r a=>
   rename_i h;clear h;rw[Rn,Rn,Vl,Vl];refine Nat.add_le_add ?_ ?_
   .simp only[Function.comp];split<;>simp
   .clear a;induction r with
    |nil=>exact QY _
    |cons y r a=>rw[Rn,Rn,Vl,Vl];exact Nat.add_le_add (by simp only[Function.comp];split<;>simp) a
 .rw[Q8];unfold MD.flat;rw[To,Q8];lia
theorem cf{a:Type}(f:PS->a->PS)(h:∀S x,e_ S (f S x)):∀(l:List a)(S:PS),e_ S (l.foldl f S)
 |[],S=>.refl S
 |x::l,S=>(h S x).trans (cf f h l _)
def b6(S:PS)(a:Arr)(p:Int)(n m:Option Int):e_ S (bc pile S a p n m):=by
 unfold bc;split
 .exact⟨(sv _ _ _).1,(eS _ _ _).1,(eS _ _ _).2,QY _,QY _,QY _,QY _⟩
 .exact .refl S
def u5(S:PS)(num:Int)(r:Rule)(mid a:Int):e_ S (first pile S num r mid a):=e_.trans (T:=ql S num r mid a) ⟨QY _,QY _,QY _,QY _,QY _,(eS _ _ _).1,(eS _ _ _).2⟩ (cf _ (λS x=>b6 S _ _ _ _) _ _)
def jm(a:Arr)(b:Int)(S:PS)(x:Int×Rule):e_ S (cz pile a b S x):=by
 unfold cz;split
 .exact b6 _ _ _ _ _
 .exact u5 _ _ _ _ _
def sw(S:PS)(a:Arr)(b:Int):e_ S (settle pile rs S a b):=(e_.trans (S:=S) (T:=note S a b) ⟨QY _,QY _,QY _,(eS _ _ _).1,(eS _ _ _).2,QY _,QY _⟩ (cf (lB pile a b) (λS x=>b6 S _ _ _ _) _ _)).trans (cf _ (jm a b) _ _)
def yg(S:PS)(x:Int×Arr):e_ S (turn pile rs S x):=by
 unfold turn;split
 .exact sw _ _ _
 .exact .refl S
theorem ii{b:Type}(f:PS->b->PS){a:Arr}(h:∀S x,bG S.told a≠none->bG (f S x).told a≠none):∀(l:List b)(S:PS),bG S.told a≠none->bG (l.foldl f S).told a≠none
 |[],S,k=>k
 |x::l,S,k=>ii f h l _ (h S x k)
def nc(h:bG S.told b≠none):bG (bc pile S a p n m).told b≠none:=by
 unfold bc;split
 .show bG (tput _ _ _) _≠none;rw[gg];split
  .simp
  .exact h
 .exact h
def AJ(h:bG S.told b≠none):bG (cz pile a p S x).told b≠none:=by
 unfold cz;split
 .exact nc h
 .exact ii _ (λS x k=>nc k) _ _ (show bG (ql S _ _ _ _).told b≠none from h)
def Ed(h:bG S.told b≠none):bG (turn pile rs S x).told b≠none:=by
 unfold turn;split
 .exact ii _ (λS x k=>AJ k) _ _ (ii (lB pile _ _) (λS x k=>nc k) _ _ (show bG (note S _ _).told b≠none from h))
 .exact h
end Pz
namespace Pz
def Sd(S:PS)(a:Arr)(q:Int):Prop:=(a.2.2,q)∈S.settled.get (a.1,a.2.1)
def fY(S:PS)(a:Arr)(p:Int):Prop:=∃v,bG S.told a=some v/\v.1<=p
def JustP(sd:Arr->Int->Prop)(c:Int)(put:List Int)(t p:Int)(m:Option Int):Prop:=match put with
 |[]=>m=none/\p=1/\t=c
 |[x]=>m=none/\∃q,sd (c,x,t) q/\p=q+1
 |[x,y]=>∃d q1 q2,m=some d/\sd (c,x,d) q1/\sd (d,y,t) q2/\p=q1+q2+1
 |_=>False
def JustP.mono(h:∀a q,sd a q->sd' a q)(j:JustP sd c put t p m):JustP sd' c put t p m:=by
 match put,j with
 |[],j=>exact j
 |[x],⟨e,q,s,e2⟩=>exact⟨e,q,h _ _ s,e2⟩
 |[x,y],⟨d,q1,q2,e,s1,s2,e2⟩=>exact⟨d,q1,q2,e,h _ _ s1,h _ _ s2,e2⟩
section
variable(RL:List Rule)(M:List Arr)
def Just(sd:Arr->Int->Prop)(a:Arr)(v:ye):Prop:=match v.2.1 with
 |none=>v.2.2=none/\v.1=0/\a∈M
 |some i=>∃(j:Nat)(r:Rule),i=j/\RL[j]?=some r/\a.1=r.1/\a.2.1=r.2.1/\JustP sd r.2.2.1 r.2.2.2 a.2.2 v.1 v.2.2
theorem Just.mono(h:∀a q,sd a q->sd' a q)(j:Just RL M sd a v):Just RL M sd' a v:=by
 obtain⟨p,n,m⟩:=v;cases n with
 |none=>exact j
 |some i=>obtain⟨k,r,e1,e2,e3,e4,j⟩:=j;exact⟨k,r,e1,e2,e3,e4,j.mono h⟩
structure B(pile:Int->Int->Int) (U:List Arr) (S:PS) (rest:List (Int×Arr)):Prop where
 q:ub pile S.last S.aG
 nd:S.aG.flat.Nodup
 nr:rest.Nodup
 tk:(S.told.map (·.1)).Nodup
 tu:∀a v,bG S.told a=some v->a∈U
 ju:∀a v,bG S.told a=some v->Just RL M (Sd S) a v
 ps:∀a v,bG S.told a=some v->0<=v.1
 sd:∀a p,Sd S a p->p<=S.last/\∃v,bG S.told a=some v/\v.1=p
 sp:∀a v,bG S.told a=some v->Sd S a v.1\/(v.1,a)∈S.aG.flat\/(v.1,a)∈rest
 it:∀p a,(p,a)∈S.aG.flat\/(p,a)∈rest->fY S a p
 ns:∀p a,(p,a)∈S.aG.flat\/(p,a)∈rest->¬Sd S a p
 m0:∀a v,bG S.told a=some v->a∈M->v=(0,none,none)
end
def sA(h:¬gf S a p=true):fY S a p:=by
 grind [gf,fY]
def fA(h:gf S a p=true)(e:bG S.told a=some v):p<v.1:=by unfold gf at h;rw[e]at h;exact Rr h
def iJ(a:Arr)(p:Int)(n m:Option Int):fY (bc pile S a p n m) a p:=by
 unfold bc;by_cases h:gf S a p=true
 .rw[Re h];exact⟨(p,n,m),by show bG (tput _ _ _) _=_;rw[gg,Re rfl],Int.le_refl _⟩
 .rw[Rf h];exact sA h
def gv(h:fY S b q):fY (bc pile S a p n m) b q:=by
 unfold bc;by_cases k:gf S a p=true
 .rw[Re k];obtain⟨v,e,c⟩:=h;by_cases e2:a=b
  .subst e2;exact⟨(p,n,m),by show bG (tput _ _ _) _=_;rw[gg,Re rfl],UU (Int.lt_of_lt_of_le (fA k e) c)⟩
  .exact⟨v,by show bG (tput _ _ _) _=_;rw[gg,Rf e2];exact e,c⟩
 .rw[Rf k];exact h
def gw(a:Arr)(p:Int)(n m:Option Int):(bc pile S a p n m).settled=S.settled/\(bc pile S a p n m).aJ=S.aJ/\(bc pile S a p n m).last=S.last:=by unfold bc;split<;>exact⟨rfl,rfl,rfl⟩
def u6(h:S.aG.Ok)(a:Arr)(p:Int)(n m:Option Int)(b:x∈(bc pile S a p n m).aG.flat):x∈S.aG.flat\/x=(p,a):=by
 unfold bc at b;split at b
 .rcases Q_.mp ((fy h.nk _ _).mem_iff.mp b)with e|e
  .exact .inr e
  .exact .inl e
 .exact .inl b
def pq(h:S.aG.Ok)(a:Arr)(p:Int)(n m:Option Int):(bc pile S a p n m).aG.flat.length<=S.aG.flat.length+1:=by
 unfold bc;split
 .exact Vq (fy h.nk _ _).length_eq
 .lia
theorem B.bc(b:B RL M pile U S rest)(i:Just RL M (Sd S) a (p,n,m))(j:a∈U)(f:S.last<=p)(r:(p,a)∉rest)(l:¬Sd S a p)
 (hm:a∈M->fY S a 0\/(p,n,m)=(0,none,none)):B RL M pile U (bc pile S a p n m) rest:=by
 unfold Pz.bc;by_cases k:gf S a p=true
 .rw[Re k];have s:∀c q,Sd (ig pile S a p n m) c q↔Sd S c q:=λc q=>Iff.rfl;have tg:∀c,bG (ig pile S a p n m).told c=if a=c then some (p,n,m)else bG S.told c:=λc=>gg _ _ _ _;have pf:=fy b.q.ok.nk (pile p S.last) (p,a);have o:0<=p:=Tw b.q.l0 f;have fl:∀x,x∈(ig pile S a p n m).aG.flat↔x=(p,a)\/x∈S.aG.flat:=λx=>by show x∈(S.aG.app (pile p S.last) (p,a)).flat↔_;rw[pf.mem_iff,Q_]
  refine⟨b.q.add a f,?_,b.nr,Ec b.tk _ _,λc v e=>?_,λc v e=>?_,λc v e=>?_,λc q h=>?_,λc v e=>?_,λq c h=>?_,λq c h=>?_,λc v e g=>?_⟩
  .refine pf.nodup_iff.mpr (Se.mpr ⟨λh=>?_,b.nd⟩);obtain⟨v,e,d⟩:=b.it p a (.inl h);have:=fA k e;lia
  .rw[tg]at e;by_cases z:a=c
   .rw[<- z];exact j
   .rw[Rf z]at e;exact b.tu c v e
  .rw[tg]at e;by_cases z:a=c
   .rw[Re z]at e;cases e;rw[<- z];exact i
   .rw[Rf z]at e;exact b.ju c v e
  .rw[tg]at e;by_cases z:a=c
   .rw[Re z]at e;cases e;exact o
   .rw[Rf z]at e;exact b.ps c v e
  .obtain⟨h1,v,e,d⟩:=b.sd c q h;refine⟨h1,v,?_,d⟩;rw[tg,Rf (λz=>?_)]
   .exact e
   .subst z;have:=fA k e;lia
  .rw[tg]at e;by_cases z:a=c
   .rw[Re z]at e;cases e;subst z;exact .inr (.inl ((fl _).mpr (.inl rfl)))
   .rw[Rf z]at e;rcases b.sp c v e with h|h|h
    .exact .inl h
    .exact .inr (.inl ((fl _).mpr (.inr h)))
    .exact .inr (.inr h)
  .have:(q,c)=(p,a)\/(q,c)∈S.aG.flat\/(q,c)∈rest:=by
    rcases h with h|h
    .rcases (fl _).mp h with h|h
     .exact .inl h
     .exact .inr (.inl h)
    .exact .inr (.inr h)
   rcases this with h|h
   .cases h;exact⟨(p,n,m),by grind,Int.le_refl _⟩
   .obtain⟨v,e,d⟩:=b.it q c h;by_cases z:a=c
    .subst z;exact⟨(p,n,m),by grind,UU (Int.lt_of_lt_of_le (fA k e) d)⟩
    .exact⟨v,by grind,d⟩
  .rcases h with h|h
   .rcases (fl _).mp h with h|h
    .cases h;exact l
    .exact b.ns q c (.inl h)
   .exact b.ns q c (.inr h)
  .rw[tg]at e;by_cases z:a=c
   .rw[Re z]at e;cases e;subst z;rcases hm g with⟨v,e,d⟩|h
    .have:=fA k e;lia
    .exact h
   .rw[Rf z]at e;exact b.m0 c v e g
 .rw[Rf k];exact b
end Pz
namespace Pz
section
variable(RL:List Rule)(M U:List Arr)(pile:Int->Int->Int)
structure BG(S:PS) (rest:List (Int×Arr)):Prop where
 b:B RL M pile U S rest
 gt:∀x∈S.aG.flat,S.last<x.1
 eq:∀x∈rest,x.1=S.last
 mh:∀a∈M,fY S a 0
structure Ext(S T:PS) (rest:List (Int×Arr)) (k:Nat):Prop where
 bg:BG RL M U pile T rest
 mono:∀a p,fY S a p->fY T a p
 se:T.settled=S.settled
 la:T.last=S.last
 len:T.aG.flat.length<=S.aG.flat.length+k
end
def px(h:T.settled=S.settled):Sd T=Sd S:=by unfold Sd;rw[h]
theorem Ext.trans(x:Ext RL M U pile S T rest k)(y:Ext RL M U pile T V rest l):Ext RL M U pile S V rest (k+l):=⟨y.bg,λa p h=>y.mono a p (x.mono a p h),y.se.trans x.se,y.la.trans x.la,by have:=x.len;have:=y.len;lia⟩
theorem BG.bc(g:BG RL M U pile S rest)(e:Just RL M (Sd S) a (p,n,m))(f:a∈U)(d:S.last<p):Ext RL M U pile S (bc pile S a p n m) rest 1:=by
 obtain⟨e1,e2,e3⟩:=gw (pile:=pile) (S:=S) a p n m;have hb:=g.b.bc e f (UU d) (λh=>by have:=g.eq _ h;dsimp only at this;lia) (λh=>by have:=(g.b.sd _ _ h).1;lia) λh=>.inl (g.mh a h);refine⟨⟨hb,λx c=>?_,λx c=>by rw[e3];exact g.eq x c,λb hb=>gv (g.mh b hb)⟩,λb q h=>gv h,e1,e3,pq g.b.q.ok _ _ _ _⟩;rw[e3];rcases u6 g.b.q.ok _ _ _ _ c with h|rfl
 .exact g.gt x h
 .exact d
theorem jn{c:Type}(a:c->Arr)(fp:c->Int)(fn b:c->Option Int):∀(l:List c){S:PS},BG RL M U pile S rest->
 (∀x∈l,Just RL M (Sd S) (a x) (fp x,fn x,b x)/\a x∈U/\S.last<fp x)->
 Ext RL M U pile S (l.foldl (λS x=>bc pile S (a x) (fp x) (fn x) (b x)) S) rest l.length/\(l.foldl (λS x=>bc pile S (a x) (fp x) (fn x) (b x)) S).aJ=S.aJ/\
 ∀x∈l,fY (l.foldl (λS x=>bc pile S (a x) (fp x) (fn x) (b x)) S) (a x) (fp x)
 |[],S,g,_=>⟨⟨g,λ_ _ h=>h,rfl,rfl,QY _⟩,rfl,λ_ h=>nomatch h⟩
 |x::l,S,g,h=>by
  obtain⟨j,u,lt⟩:=h x Q5;have e:=g.bc j u lt;obtain⟨r,d,f⟩:=jn a fp fn b l (S:=bc pile S (a x) (fp x) (fn x) (b x)) e.bg λy hy=>by rw[px e.se,e.la];exact h y (Q7 _ hy)
  rw[Tf,Rq,Vt];refine⟨e.trans r,d.trans (gw _ _ _ _).2.1,λy hy=>?_⟩;rcases Q_.mp hy with rfl|hy
  .exact r.mono _ _ (iJ _ _ _ _)
  .exact f y hy
structure tZ(RL:List Rule) (M U:List Arr) (rs:RS):Prop where
 dE:∀r∈RL,r.2.2.2.length<=2
 to:∀{n r c x},(n,r)∈rs.get (c,x)->∃(j:Nat)(l:List Int),n=j/\RL[j]?=some r/\r.2.2.1=c/\r.2.2.2=x::l
 of:∀{j:Nat}{r:Rule}{x l},RL[j]?=some r->r.2.2.2=x::l->((j:Int),r)∈rs.get (r.2.2.1,x)
 u1:∀a∈M,a∈U
 u2:∀r∈RL,(r.1,r.2.1,r.2.2.1)∈U
 u3:∀r∈RL,∀s x t,(s,x,t)∈U->(r.1,r.2.1,t)∈U
def CU(RL:List Rule)(S:PS):Prop:=∀(j:Nat)(r:Rule),RL[j]?=some r->match r.2.2.2 with
 |[]=>fY S (r.1,r.2.1,r.2.2.1) 1
 |[x]=>∀t q,Sd S (r.2.2.1,x,t) q->fY S (r.1,r.2.1,t) (q+1)
 |[x,y]=>∀d t q1 q2,Sd S (r.2.2.1,x,d) q1->Sd S (d,y,t) q2->fY S (r.1,r.2.1,t) (q1+q2+1)
 |_=>True
structure Lk(RL:List Rule) (S:PS):Prop where
 ok:S.aJ.Ok
 to:∀{n r q d y},(n,r,q)∈S.aJ.get (d,y)->∃(j:Nat)(x:Int),n=j/\RL[j]?=some r/\r.2.2.2=[x,y]/\Sd S (r.2.2.1,x,d) q
 of:∀{j:Nat}{r:Rule}{x y d q},RL[j]?=some r->r.2.2.2=[x,y]->Sd S (r.2.2.1,x,d) q->((j:Int),r,q)∈S.aJ.get (d,y)
theorem FQ(d:tZ RL M U rs)(f:a∈U)(K:0<=p):∀(l:List (Int×Rule)){S:PS},BG RL M U pile S rest->S.aJ.Ok->S.settled.Ok->S.last=p->Sd S a p->(∀x∈l,x∈rs.get (a.1,a.2.1))->
 Ext RL M U pile S (l.foldl (cz pile a p) S) rest (l.length*S.settled.flat.length)/\(l.foldl (cz pile a p) S).aJ.Ok/\(l.foldl (cz pile a p) S).aJ.flat.length<=S.aJ.flat.length+l.length/\
 (∀k z,z∈(l.foldl (cz pile a p) S).aJ.get k↔z∈S.aJ.get k\/∃x∈l,x.2.2.2.2.length=2/\k=(a.2.2,nth1 x.2.2.2.2)/\z=(x.1,x.2,p))/\
 (∀x∈l,x.2.2.2.2.length=1->fY (l.foldl (cz pile a p) S) (x.2.1,x.2.2.1,a.2.2) (p+1))/\
 ∀x∈l,x.2.2.2.2.length=2->∀t q,Sd S (a.2.2,nth1 x.2.2.2.2,t) q->fY (l.foldl (cz pile a p) S) (x.2.1,x.2.2.1,t) (p+q+1)
 |[],S,g,ok,so,D,ha,_=>⟨⟨g,λ_ _ h=>h,rfl,rfl,UV _ _⟩,ok,by simp,(λk z=>⟨.inl,λh=>h.elim id λ⟨x,h,_⟩=>(Rk h).elim⟩),(λ_ h=>(Rk h).elim),λ_ h=>(Rk h).elim⟩
 |x::l,S,g,ok,so,D,ha,i=>by
  obtain⟨n,r⟩:=x;obtain⟨j,E,rfl,s,F,u⟩:=d.to (i _ Q5);have w:r∈RL:=RE s;have G:=d.dE r w;have n1:1<=S.settled.flat.length:=UH (jQ _ ha);have one:Ext RL M U pile S (cz pile a p S ((j:Int),r)) rest S.settled.flat.length/\(cz pile a p S ((j:Int),r)).aJ.Ok/\(cz pile a p S ((j:Int),r)).aJ.flat.length<=S.aJ.flat.length+1/\
   (∀k z,z∈(cz pile a p S ((j:Int),r)).aJ.get k↔z∈S.aJ.get k\/(r.2.2.2.length=2/\k=(a.2.2,nth1 r.2.2.2)/\z=((j:Int),r,p)))/\
   (r.2.2.2.length=1->fY (cz pile a p S ((j:Int),r)) (r.1,r.2.1,a.2.2) (p+1))/\
   (r.2.2.2.length=2->∀t q,Sd S (a.2.2,nth1 r.2.2.2,t) q->fY (cz pile a p S ((j:Int),r)) (r.1,r.2.1,t) (p+q+1)):=by
   unfold cz;by_cases h1:r.2.2.2.length=1
   .rw[Re (show((j:Int),r).2.2.2.2.length=1 from h1)];have c:r.2.2.2=[a.2.1]:=by
     rw[u]at h1 ⊢;cases E with
     |nil=>rfl
     |cons _ _=>simp at h1
    have e:=g.bc (a:=(r.1,r.2.1,a.2.2)) (p:=p+1) (n:=some (j:Int)) (m:=none) ⟨j,r,rfl,s,rfl,rfl,by rw[c];exact⟨rfl,p,by rw[F];exact ha,rfl⟩⟩ (d.u3 r w _ _ _ f) (by lia);obtain⟨_,e2,_⟩:=gw (pile:=pile) (S:=S) (r.1,r.2.1,a.2.2) (p+1) (some (j:Int)) none;refine⟨⟨e.bg,e.mono,e.se,e.la,Rx e.len (U9 n1 _)⟩,by rw[e2];exact ok,by rw[e2];lia,λk z=>?_,λ_=>iJ _ _ _ _,λh=>by lia⟩;rw[e2];exact⟨.inl,λh=>h.elim id λh=>by lia⟩
   .rw[Rf (show ¬((j:Int),r).2.2.2.2.length=1 from h1)];have h2:r.2.2.2.length=2:=by rw[u]at h1 G ⊢;simp only[Rq]at h1 G ⊢;lia
    obtain⟨y,c⟩ : ∃y,r.2.2.2=[a.2.1,y]:=by
     rw[u]at h2 ⊢
     match E,h2 with
     |[y],_=>exact⟨y,rfl⟩
    have L:nth1 r.2.2.2=y:=by rw[c];rfl
    have g1:BG RL M U pile (ql S (j:Int) r a.2.2 p) rest:=⟨⟨g.b.q,g.b.nd,g.b.nr,g.b.tk,g.b.tu,g.b.ju,g.b.ps,g.b.sd,g.b.sp,g.b.it,g.b.ns,g.b.m0⟩,g.gt,g.eq,g.mh⟩;obtain⟨e,e2,e3⟩:=jn (λx:Int×Int=>(r.1,r.2.1,x.1)) (λx=>p+x.2+1) (λ_=>some (j:Int)) (λ_=>some a.2.2) (S.settled.get (a.2.2,nth1 r.2.2.2)) g1 λx hx=>by
     have H:Sd S (a.2.2,y,x.1) x.2:=by rw[L]at hx;exact hx
     obtain⟨_,v,I,Y⟩:=g.b.sd _ _ H;have:=g.b.ps _ _ I;refine⟨⟨j,r,rfl,s,rfl,rfl,?_⟩,d.u3 r w _ _ _ (g.b.tu _ _ I),by show S.last<_;lia⟩;rw[c];exact⟨a.2.2,p,x.2,rfl,by rw[F];exact ha,H,rfl⟩
    have N:∀k z,z∈(first pile S (j:Int) r a.2.2 p).aJ.get k↔z∈S.aJ.get k\/(r.2.2.2.length=2/\k=(a.2.2,nth1 r.2.2.2)/\z=((j:Int),r,p)):=λk z=>by
     show z∈(List.foldl _ _ _:PS).aJ.get k↔_;rw[e2];show z∈(S.aJ.app _ _).get k↔_;rw[qk];by_cases A:(a.2.2,nth1 r.2.2.2)=k
     .subst A;rw[Re rfl,Rj,Q9];exact⟨λh=>h.elim .inl λh=>.inr ⟨h2,rfl,h⟩,λh=>h.elim .inl λh=>.inr h.2.2⟩
     .rw[Rf A];exact⟨.inl,λh=>h.elim id λh=>(A h.2.1.symm).elim⟩
    have lk:(first pile S (j:Int) r a.2.2 p).aJ=S.aJ.app (a.2.2,nth1 r.2.2.2) ((j:Int),r,p):=e2;refine⟨⟨e.bg,λb q h=>e.mono b q h,e.se,e.la,Rx e.len (U9 (lZ _ _) _)⟩,by rw[lk];exact m9 ok _ _,by rw[lk,(fy ok.nk _ _).length_eq];exact QY _,N,λh=>by lia,λ_ t q h=>e3 (t,q) h⟩
  obtain⟨e,B,O,C,P,Q⟩:=one;obtain⟨o,R,Z,T,V,W⟩:=FQ d f K l e.bg B (by rw[e.se];exact so) (by rw[e.la];exact D) (by rw[px e.se];exact ha) λy X=>i y (Q7 _ X);rw[Tf,Rq];rw[e.se]at o;refine⟨by rw[Nat.add_mul,Nat.one_mul,Vt];exact e.trans o,R,by lia,λk z=>?_,λx hx h=>?_,λx hx h t q J=>?_⟩
  .rw[T,C];constructor
   .rintro ((h|h)|⟨x,hx,h⟩)
    .exact .inl h
    .exact .inr ⟨_,Q5,h⟩
    .exact .inr ⟨x,Q7 _ hx,h⟩
   .rintro (h|⟨x,hx,h⟩)
    .exact .inl (.inl h)
    .rcases Q_.mp hx with rfl|hx
     .exact .inl (.inr h)
     .exact .inr ⟨x,hx,h⟩
  .rcases Q_.mp hx with rfl|hx
   .exact o.mono _ _ (P h)
   .exact V x hx h
  .rcases Q_.mp hx with rfl|hx
   .exact o.mono _ _ (Q h t q J)
   .exact W x hx h t q (by rw[px e.se];exact J)
end Pz
namespace Pz
section
variable(RL:List Rule)(M U:List Arr)(pile:Int->Int->Int)(C:Nat)
structure PB(S:PS) (k:Nat):Prop where
 so:S.settled.Ok
 G:∃G:List Arr,G.Nodup/\G.length=S.settled.flat.length/\∀a∈G,∃q,Sd S a q
 ln:S.aJ.flat.length<=RL.length*S.settled.flat.length
 pn:S.aG.flat.length+k<=C+RL.length*(S.settled.flat.length*S.settled.flat.length)
structure I(S:PS) (rest:List (Int×Arr)):Prop where
 bg:BG RL M U pile S rest
 C4:CU RL S
 lk:Lk RL S
 cnt:PB RL C S rest.length
end
def sd_note:Sd (note S a p) c q↔Sd S c q\/(a=c/\p=q):=by
 grind [Sd,note,qk]
theorem I.settle(N:tZ RL M U rs)(D:∀k,(rs.get k).length<=RL.length)(i:I RL M U pile C S ((p,a)::rest))(V:bG S.told a=some v)(O:v.1=p) :
 I RL M U pile C (settle pile rs S a p) rest/\(settle pile rs S a p).settled.flat.length=S.settled.flat.length+1:=by
 have b:=i.bg.b;have pl:p=S.last:=i.bg.eq _ Q5;have p0:0<=p:=by rw[pl];exact b.q.l0
 have E:a∈U:=b.tu a v V;have nS:∀q,¬Sd S a q:=λq h=>by obtain⟨_,w,e,ew⟩:=b.sd a q h;rw[V]at e;cases e;rw[<- ew,O]at h;exact b.ns p a (.inr Q5) h
 have nr:=Se.mp b.nr;have m:∀c q,Sd S c q->Sd (note S a p) c q:=λc q h=>sd_note.mpr (.inl h);have u:Sd (note S a p) a p:=sd_note.mpr (.inr ⟨rfl,rfl⟩);have g1:BG RL M U pile (note S a p) rest:=by
  refine⟨⟨b.q,b.nd,nr.2,b.tk,b.tu,λc w e=>(b.ju c w e).mono RL M m,b.ps,λc q h=>?_,λc w e=>?_,λq c h=>?_,λq c h k=>?_,b.m0⟩,i.bg.gt,λx A=>i.bg.eq x (Q7 _ A),i.bg.mh⟩
  .rcases sd_note.mp h with h|⟨rfl,rfl⟩
   .exact b.sd c q h
   .exact⟨Int.le_of_eq pl,v,V,O⟩
  .rcases b.sp c w e with h|h|h
   .exact .inl (m _ _ h)
   .exact .inr (.inl h)
   .rcases Q_.mp h with h|h
    .cases h;exact .inl u
    .exact .inr (.inr h)
  .exact b.it q c (h.elim .inl λh=>.inr (Q7 _ h))
  .rcases sd_note.mp k with k|⟨rfl,rfl⟩
   .exact b.ns q c (h.elim .inl λh=>.inr (Q7 _ h)) k
   .rcases h with h|h
    .have:=i.bg.gt _ h;dsimp only at this;lia
    .exact nr.1 h
 have so1:(note S a p).settled.Ok:=m9 i.cnt.so _ _;have n1:(note S a p).settled.flat.length=S.settled.flat.length+1:=(fy i.cnt.so.nk _ _).length_eq;obtain⟨e1,l1,h1⟩:=jn (λx:Int×Rule×Int=>(x.2.1.1,x.2.1.2.1,a.2.2)) (λx=>x.2.2+p+1) (λx=>some x.1) (λ_=>some a.1) (S.aJ.get (a.1,a.2.1)) g1 λx A=>by obtain⟨n,r,q⟩:=x;obtain⟨j,y,rfl,o,B,s⟩:=i.lk.to A;obtain⟨_,w,tw,hw⟩:=b.sd _ _ s;have:=b.ps _ _ tw;refine⟨⟨j,r,rfl,o,rfl,rfl,?_⟩,N.u3 r (RE o) _ _ _ E,by show S.last<q+p+1;lia⟩;show JustP _ r.2.2.1 r.2.2.2 _ _ _;rw[B];exact⟨a.1,q,p,rfl,m _ _ s,u,rfl⟩
 generalize W:(S.aJ.get (a.1,a.2.1)).foldl (λS x=>bc pile S (x.2.1.1,x.2.1.2.1,a.2.2) (x.2.2+p+1) (some x.1) (some a.1)) (note S a p)=F at e1 l1 h1;have s2:F.settled=(note S a p).settled:=e1.se;have H:Sd F=Sd (note S a p):=px s2;have P:F.aJ=S.aJ:=l1;obtain⟨e2,k1,k2,k3,X,Y⟩:=FQ (rs:=rs) N E p0 (rs.get (a.1,a.2.1)) e1.bg (by rw[P];exact i.lk.ok) (by grind) (by rw[e1.la,pl];rfl) (by rw[H];exact u) λx A=>A;have eT:(rs.get (a.1,a.2.1)).foldl (cz pile a p) F=Pz.settle pile rs S a p:=by rw[<- W];rfl
 rw[eT]at e2 k1 k2 k3 X Y;generalize Pz.settle pile rs S a p=T at e2 k1 k2 k3 X Y;have Q:T.settled=(note S a p).settled:=e2.se.trans s2;have g:∀c q,Sd T c q↔Sd S c q\/(a=c/\p=q):=λc q=>by rw[px Q];exact sd_note
 have hm:∀{j:Nat}{r:Rule}{x d l},RL[j]?=some r->r.2.2.2=x::l->a=(r.2.2.1,x,d)->((j:Int),r)∈rs.get (a.1,a.2.1):=λo O h=>by rw[h];exact N.of o O
 have mono:∀c q,fY S c q->fY T c q:=λc q h=>e2.mono _ _ (e1.mono _ _ h);refine⟨⟨e2.bg,?_,⟨k1,?_,?_⟩,⟨by grind,?_,?_,?_⟩⟩,by grind⟩
 .intro j r o;have hc:=i.C4 j r o;cases f:r.2.2.2 with
  |nil=>rw[f]at hc;exact mono _ _ hc
  |cons x ys=>
   cases ys with
   |nil=>
    rw[f]at hc;intro t q s;rcases(g _ _).mp s with h|⟨h,rfl⟩
    .exact mono _ _ (hc t q h)
    .obtain rfl:a.2.2=t:=by rw[h]
     exact X ((j:Int),r) (hm o f h) (by rw[f];rfl)
   |cons y zs=>
    cases zs with
    |cons _ _=>trivial
    |nil=>
     rw[f]at hc;intro d t q1 q2 Z J;have ny:nth1 r.2.2.2=y:=by rw[f];rfl
     rcases(g _ _).mp Z with K|⟨K,rfl⟩
     .rcases (g _ _).mp J with R|⟨R,rfl⟩
      .exact mono _ _ (hc d t q1 q2 K R)
      .obtain rfl:a.2.2=t:=by rw[R]
       exact e2.mono _ _ (h1 ((j:Int),r,q1) (by rw[R];exact i.lk.of o f K))
     .obtain rfl:a.2.2=d:=by rw[K]
      refine Y ((j:Int),r) (hm o f K) (by rw[f];rfl) t q2 ?_;rw[ny,H,<- px Q];exact J
 .intro n r q d y h;rcases(k3 _ _).mp h with h|⟨x,A,L,hk,hz⟩
  .rw[P]at h;obtain⟨j,x,e1,e2,e3,e4⟩:=i.lk.to h;exact⟨j,x,e1,e2,e3,(g _ _).mpr (.inl e4)⟩
  .obtain⟨n',r'⟩:=x;obtain⟨rfl,hz⟩:=Prod.mk.inj hz;obtain⟨rfl,s⟩:=Prod.mk.inj hz;obtain⟨j,l,rfl,o,hc,f⟩:=N.to A;obtain⟨rfl,B⟩:=Prod.mk.inj hk;have L:r.2.2.2.length=2:=L;have B:y=nth1 r.2.2.2:=B;rw[f]at L B;refine⟨j,a.2.1,rfl,o,?_,(g _ _).mpr (.inr ⟨by rw[hc],s.symm⟩)⟩;rcases l with _|⟨z,_|_⟩
   .cases L
   .rw[f,B];rfl
   .cases L
 .intro j r x y d q o f s;rw[k3];rcases(g _ _).mp s with h|⟨h,rfl⟩
  .rw[P];exact .inl (i.lk.of o f h)
  .exact .inr ⟨((j:Int),r),hm o f h,by rw[f];rfl,by rw[f,h];rfl,rfl⟩
 .obtain⟨G,g1,g2,g3⟩:=i.cnt.G;refine⟨a::G,Se.mpr ⟨λh=>?_,g1⟩,by grind,λc hc=>?_⟩
  .obtain⟨q,s⟩:=g3 a h;exact nS q s
  .rcases Q_.mp hc with rfl|hc
   .exact⟨p,(g _ _).mpr (.inr ⟨rfl,rfl⟩)⟩
   .obtain⟨q,s⟩:=g3 c hc;exact⟨q,(g _ _).mpr (.inl s)⟩
 .have:=i.cnt.ln;have:=D (a.1,a.2.1);rw[Q,n1,Vm,Nat.mul_one];rw[P]at k2;lia
 .have c1:=i.cnt.pn;have c2:=e1.len;have c3:=e2.len;have c4:=i.cnt.ln;have c5:=lZ S.aJ (a.1,a.2.1);have c6:(rs.get (a.1,a.2.1)).length*F.settled.flat.length<=RL.length*(S.settled.flat.length+1):=by rw[s2,n1];exact Nat.mul_le_mul_right _ (D _)
  rw[Rq]at c1;have c7:(note S a p).aG.flat.length=S.aG.flat.length:=rfl;rw[Q,n1];have c8:RL.length*((S.settled.flat.length+1)*(S.settled.flat.length+1))=RL.length*(S.settled.flat.length*S.settled.flat.length)+RL.length*S.settled.flat.length+RL.length*(S.settled.flat.length+1):=by rw[Nat.add_mul,Nat.one_mul,Vm RL.length,Vm S.settled.flat.length,Nat.mul_one,Vm RL.length (S.settled.flat.length*S.settled.flat.length)]
  rw[c8];lia
def I.skip(i:I RL M U pile C S (x::rest))(h:¬bM S x=true):I RL M U pile C S rest:=by
 have b:=i.bg.b;refine⟨⟨⟨b.q,b.nd,(Se.mp b.nr).2,b.tk,b.tu,b.ju,b.ps,b.sd,λc w e=>?_,λq c h=>b.it q c (h.elim .inl λh=>.inr (Q7 _ h)),λq c h=>b.ns q c (h.elim .inl λh=>.inr (Q7 _ h)),b.m0⟩,i.bg.gt,λy a=>i.bg.eq y (Q7 _ a),i.bg.mh⟩,i.C4,i.lk,i.cnt.so,i.cnt.G,i.cnt.ln,by have:=i.cnt.pn;rw[Rq]at this;lia⟩;rcases b.sp c w e with k|k|k
 .exact .inl k
 .exact .inr (.inl k)
 .grind [bM]
theorem I.batch(c:tZ RL M U rs)(b:∀k,(rs.get k).length<=RL.length):∀(l:List (Int×Arr)){S:PS},I RL M U pile C S l->
 I RL M U pile C (batch pile rs S l) []/\S.settled.flat.length<=(batch pile rs S l).settled.flat.length/\((batch pile rs S l).settled.flat.length=S.settled.flat.length->batch pile rs S l=S)
 |[],S,i=>⟨i,QY _,λ_=>rfl⟩
 |x::l,S,i=>by
  show I RL M U pile C (Pz.batch pile rs (turn pile rs S x) l) []/\_<=(Pz.batch pile rs (turn pile rs S x) l).settled.flat.length/\((Pz.batch pile rs (turn pile rs S x) l).settled.flat.length=_->Pz.batch pile rs (turn pile rs S x) l=S);unfold turn;by_cases h:bM S x=true
  .rw[Re h];obtain⟨p,a⟩:=x;unfold bM at h;cases e:bG S.told a with
   |none=>rw[show((p,a):Int×Arr).2=a from rfl,e]at h;cases h
   |some v=>rw[show((p,a):Int×Arr).2=a from rfl,e]at h;obtain⟨j,n⟩:=i.settle c b e (Rr h);obtain⟨d,f,g⟩:=I.batch c b l j;exact⟨d,by grind,λq=>by grind⟩
  .rw[Rf h];exact I.batch c b l (i.skip h)
structure Top(RL:List Rule) (M U:List Arr) (pile:Int->Int->Int) (C:Nat) (S:PS):Prop where
 b:B RL M pile U S []
 mh:∀a∈M,fY S a 0
 C4:CU RL S
 lk:Lk RL S
 cnt:PB RL C S 0
def I.top(i:I RL M U pile C S []):Top RL M U pile C S:=⟨i.bg.b,i.bg.mh,i.C4,i.lk,i.cnt⟩
theorem Top.take(P:qY pile)(t:Top RL M U pile C S)(d:S.aG≠[]):I RL M U pile C (take pile S) (dm pile S.aG):=by
 have b:=t.b;have k:=yd P b.q d;have mem:∀x,x∈S.aG.flat↔x∈(left pile S.aG).flat\/x∈dm pile S.aG:=λx=>by rw[k.pm.mem_iff,Rj];exact Or.comm
 obtain⟨n1,n2,_⟩:=RC.mp (k.pm.nodup_iff.mp b.nd);have no:∀{q c},(q,c)∉([]:List (Int×Arr)):=λh=>nomatch h;refine⟨⟨⟨k.ok,n2,n1,b.tk,b.tu,b.ju,b.ps,λa p h=>⟨Tw (b.sd a p h).1 k.ge,(b.sd a p h).2⟩,λa v e=>?_,λp a h=>b.it p a (.inl ((mem _).mpr h)),λp a h=>b.ns p a (.inl ((mem _).mpr h)),b.m0⟩,k.lt,k.eq,t.mh⟩,t.C4,⟨t.lk.ok,t.lk.to,t.lk.of⟩,t.cnt.so,t.cnt.G,t.cnt.ln,?_⟩
 .rcases b.sp a v e with h|h|h
  .exact .inl h
  .exact .inr ((mem _).mp h)
  .exact(no h).elim
 .have h1:=k.pm.length_eq;rw[Q8]at h1;have h2:=t.cnt.pn;show(left pile S.aG).flat.length+(dm pile S.aG).length<=_;show _<=C+RL.length*(S.settled.flat.length*S.settled.flat.length);lia
theorem bZ{α:Type}[DecidableEq α]:∀(l m:List α),l.Nodup->(∀x∈l,x∈m)->l.length<=m.length
 |[],m,_,_=>Rh _
 |x::l,m,nd,h=>by
  have c:=h x Q5;have a:=Se.mp nd;have:=bZ l (m.erase x) a.2 λy b=>(List.mem_erase_of_ne (λ(e:y=x)=>a.1 (by grind))).mpr (h y (Q7 _ b))
  grind
def Top.dE(t:Top RL M U pile C S):S.settled.flat.length<=U.length/\S.told.length<=U.length:=by
 obtain⟨G,g1,g2,c⟩:=t.cnt.G;constructor
 .rw[<- g2];exact bZ G U g1 λa ha=>by obtain⟨q,d⟩:=c a ha;obtain⟨_,v,e,_⟩:=t.b.sd a q d;exact t.b.tu a v e
 .have:=bZ (S.told.map (·.1)) U t.b.tk λa ha=>by obtain⟨x,f,rfl⟩:=Q3.mp ha;exact t.b.tu x.1 x.2 (su t.b.tk f)
  rwa [Q0]at this
def Top.fit(t:Top RL M U pile C S)(c:C+RL.length*(U.length*U.length)<L)(d:RL.length*U.length<L)(e:U.length<L):jd S:=by obtain⟨a,f⟩:=t.dE;have g:=gu t.b.q.ok;have h:=gu t.cnt.so;have i:=gu t.lk.ok;have j:=t.cnt.pn;have k:RL.length*(S.settled.flat.length*S.settled.flat.length)<=RL.length*(U.length*U.length):=Us _ (Ul a a);have l:=t.cnt.ln;have m:RL.length*S.settled.flat.length<=RL.length*U.length:=Us _ a;constructor<;>lia
def Top.loop(P:qY pile)(s:tZ RL M U rs)(f:∀k,(rs.get k).length<=RL.length)(m:C+RL.length*(U.length*U.length)<L)(o:RL.length*U.length<L)(p:U.length<L) :
 ∀(a b:Nat)(S:PS),Top RL M U pile C S->U.length-S.settled.flat.length<=a->S.aG.flat.length<=b->∃n T,Loop pile rs n S T/\Top RL M U pile C T/\T.aG=[]:=by
 have step:∀S,Top RL M U pile C S->S.aG≠[]->let S2:=batch pile rs (Pz.take pile S) (dm pile S.aG);Top RL M U pile C S2/\(∀n T,Loop pile rs n S2 T->Loop pile rs (n+1) S T)/\
  (S.settled.flat.length<S2.settled.flat.length\/S2.settled.flat.length=S.settled.flat.length/\S2.aG.flat.length<S.aG.flat.length):=by
  intro S t c;obtain⟨i,h1,h2⟩:=I.batch s f _ (t.take P c);have t2:=i.top;refine⟨t2,λn T l=>.step c t.b.q (λx u=>?_) (t.fit m o p) (t2.fit m o p) l,?_⟩
  .obtain⟨v,e,_⟩:=t.b.it x.1 x.2 (.inl ((yd P t.b.q c).pm.mem_iff.mpr (Rj.mpr (.inl u))));rw[e];simp
  have k:=yd P t.b.q c;by_cases e:(batch pile rs (Pz.take pile S) (dm pile S.aG)).settled.flat.length=S.settled.flat.length
  .refine .inr ⟨e,?_⟩;rw[h2 e];show(left pile S.aG).flat.length<_;rw[k.pm.length_eq,Q8];have:=Ur.mpr k.ne;lia
  .have h1:S.settled.flat.length<=(batch pile rs (Pz.take pile S) (dm pile S.aG)).settled.flat.length:=h1;exact .inl (by lia)
 intro a;induction a with
 |zero=>
  intro b;induction b with
  |zero=>intro S t _ hb;have:S.aG=[]:=RJ.mp (by have:=gu t.b.q.ok;lia);exact⟨0,S,.done this,t,this⟩
  |succ b g=>
   intro S t ha hb;by_cases c:S.aG=[]
   .exact⟨0,S,.done c,t,c⟩
   obtain⟨t2,d,hd⟩:=step S t c;have:=t2.dE.1;obtain⟨n,T,l,r⟩:=g _ t2 (by rcases hd with h|h<;>lia) (by rcases hd with h|h<;>lia);exact⟨_,T,d _ _ l,r⟩
 |succ a j=>
  intro b;induction b with
  |zero=>intro S t _ hb;have:S.aG=[]:=RJ.mp (by have:=gu t.b.q.ok;lia);exact⟨0,S,.done this,t,this⟩
  |succ b g=>
   intro S t ha hb;by_cases c:S.aG=[]
   .exact⟨0,S,.done c,t,c⟩
   obtain⟨t2,d,hd⟩:=step S t c;have:=t2.dE.1;rcases hd with h|h
   .obtain⟨n,T,l,r⟩:=j _ _ t2 (by lia) (QY _);exact⟨_,T,d _ _ l,r⟩
   .obtain⟨n,T,l,r⟩:=g _ t2 (by lia) (by lia);exact⟨_,T,d _ _ l,r⟩
end Pz
namespace Pz
noncomputable def en:List Rule->Nat->List (Int×Rule)
 |[],_=>[]
 |r::l,k=>((k:Int),r)::en l (k+1)
theorem en_mem:∀{l:List Rule}{k:Nat}{n:Int}{r:Rule},(n,r)∈en l k↔∃j:Nat,n=((k+j:Nat):Int)/\l[j]?=some r
 |[],k,n,r=>⟨λh=>(Rk h).elim,λ⟨j,_,h⟩=>by simp at h⟩
 |x::l,k,n,r=>by
  unfold en;rw[Q_,en_mem];constructor
  .rintro (h|⟨j,rfl,h⟩)
   .obtain⟨rfl,rfl⟩:=Prod.mk.inj h;exact⟨0,rfl,rfl⟩
   .exact⟨j+1,by lia,by simpa using h⟩
  .rintro⟨j,rfl,h⟩;cases j with
   |zero=>left;simp at h;subst h;rfl
   |succ j=>exact .inr ⟨j,by lia,by simpa using h⟩
theorem nj:∀(l:List Rule)(k:Nat),(en l k).length=l.length:=by intro l;induction l<;>grind [en]
def fP(d:RS)(x:Int×Rule):RS:=if x.2.2.2.2.length>0 then d.app (x.2.2.2.1,x.2.2.2.2[0]?.getD 0) x else d
def bN(RL:List Rule):RS:=(en RL 0).foldl fP []
def yh(d:RS)(x:Int×Rule)(k:Int×Int)(z:Int×Rule):z∈(fP d x).get k↔z∈d.get k\/(z=x/\∃y l,x.2.2.2.2=y::l/\k=(x.2.2.2.1,y)):=by
 unfold fP;cases h:x.2.2.2.2 with
 |nil=>grind
 |cons y l=>
  rw[Re (by simp),qk]
  grind
theorem qo:∀(l:List (Int×Rule))(d:RS)(k:Int×Int)(z:Int×Rule),z∈(l.foldl fP d).get k↔z∈d.get k\/(z∈l/\∃y a,z.2.2.2.2=y::a/\k=(z.2.2.2.1,y))
 |[],d,k,z=>⟨.inl,λq=>q.elim id λq=>(Rk q.1).elim⟩
 |x::l,d,k,z=>by
  rw[Tf,qo l,yh,Q_];constructor
  .rintro ((h|⟨rfl,h⟩)|⟨h1,h2⟩)
   .exact .inl h
   .exact .inr ⟨.inl rfl,h⟩
   .exact .inr ⟨.inr h1,h2⟩
  .rintro (h|⟨rfl|h1,h2⟩)
   .exact .inl (.inl h)
   .exact .inl (.inr ⟨rfl,h2⟩)
   .exact .inr ⟨h1,h2⟩
theorem u7:∀(l:List (Int×Rule))(d:RS),d.Ok->(l.foldl fP d).Ok/\(l.foldl fP d).flat.length<=d.flat.length+l.length
 |[],d,h=>⟨h,QY _⟩
 |x::l,d,h=>by
  rw[Tf,Rq];have:(fP d x).Ok/\(fP d x).flat.length<=d.flat.length+1:=by
   unfold fP;split
   .exact⟨m9 h _ _,Vq (fy h.nk _ _).length_eq⟩
   .exact⟨h,by lia⟩
  obtain⟨a,b⟩:=u7 l _ this.1;exact⟨a,by lia⟩
theorem sC{κ α:Type}:MD.Ok (κ:=κ) (α:=α) []:=⟨RI,λ_ h=>(Rk h).elim⟩
def Hq(RL:List Rule):(bN RL).Ok/\(bN RL).flat.length<=RL.length:=by
 grind [bN,en,MD.flat,u7,sC,nj]
noncomputable def S0:PS:=⟨[],0,[],[],[]⟩
variable(pile:Int->Int->Int)
def gO(S:PS)(a:Arr):PS:=bc pile S a 0 none none
def eJ(S:PS)(x:Int×Rule):PS:=if x.2.2.2.2.length=0 then bc pile S (x.2.1,x.2.2.1,x.2.2.2.1) 1 (some x.1) none else S
def ij(RL:List Rule)(M:List Arr):PS:=(en RL 0).foldl (eJ pile) (M.foldl (gO pile) S0)
variable{pile}
structure zc(RL:List Rule) (M U:List Arr) (pile:Int->Int->Int) (S:PS) (k:Nat):Prop where
 b:B RL M pile U S []
 l0:S.last=0
 s0:S.settled=[]
 k0:S.aJ=[]
 len:S.aG.flat.length<=k
def zc.no(h:zc RL M U pile S k)(a:Arr)(q:Int):¬Sd S a q:=by unfold Sd;rw[h.s0];exact λh=>(Rk h).elim
theorem zc.bc(h:zc RL M U pile S k)(c:Just RL M (Sd S) a (p,n,m))(d:a∈U)(e:0<=p)(hm:a∈M->fY S a 0\/(p,n,m)=(0,none,none)):zc RL M U pile (bc pile S a p n m) (k+1):=by obtain⟨e1,e2,e3⟩:=gw (pile:=pile) (S:=S) a p n m;exact⟨h.b.bc c d (by rw[h.l0];exact e) (λh=>(Rk h).elim) (h.no _ _) hm,by rw[e3];exact h.l0,by rw[e1];exact h.s0,by rw[e2];exact h.k0,Rx (pq h.b.q.ok _ _ _ _) (Nat.add_le_add_right h.len 1)⟩
def NL:zc RL M U pile S0 0:=by have no:∀{α:Type}{x:α},x∉([]:List α):=λh=>(Rk h).elim;exact⟨⟨⟨sC,Int.le_refl _,λ_ h=>(no h).elim⟩,RI,RI,RI,(λ_ _ h=>nomatch h),(λ_ _ h=>nomatch h),(λ_ _ h=>nomatch h),(λ_ _ h=>(no h).elim),(λ_ _ h=>nomatch h),(λ_ _ h=>h.elim (λh=>(no h).elim) λh=>(no h).elim),(λ_ _ h=>h.elim (λh=>(no h).elim) λh=>(no h).elim),(λ_ _ h=>nomatch h)⟩,rfl,rfl,rfl,QY _⟩
theorem Kq:∀(l:List Arr){S:PS}{k:Nat},zc RL M U pile S k->(∀a∈l,a∈M/\a∈U)->zc RL M U pile (l.foldl (gO pile) S) (k+l.length)/\(∀a p,fY S a p->fY (l.foldl (gO pile) S) a p)/\∀a∈l,fY (l.foldl (gO pile) S) a 0
 |[],S,k,h,_=>⟨h,λ_ _ h=>h,λ_ h=>(Rk h).elim⟩
 |a::l,S,k,h,c=>by
  obtain⟨h1,h2⟩:=c a Q5;have e:=h.bc (a:=a) (p:=0) (n:=none) (m:=none) ⟨rfl,rfl,h1⟩ h2 (Int.le_refl _) λ_=>.inr rfl;obtain⟨f,d,g⟩:=Kq l e λb hb=>c b (Q7 _ hb);rw[Tf,Rq,Vt l.length,<- Nat.add_assoc];refine⟨f,λb p h=>d b p (gv h),λb hb=>?_⟩;rcases Q_.mp hb with rfl|hb
  .exact d _ _ (iJ _ _ _ _)
  .exact g b hb
theorem Kr(u2:∀r∈RL,(r.1,r.2.1,r.2.2.1)∈U):∀(l:List (Int×Rule)){S:PS}{k:Nat},zc RL M U pile S k->(∀a∈M,fY S a 0)->(∀x∈l,∃j:Nat,x.1=j/\RL[j]?=some x.2)->
 zc RL M U pile (l.foldl (eJ pile) S) (k+l.length)/\(∀a p,fY S a p->fY (l.foldl (eJ pile) S) a p)/\∀x∈l,x.2.2.2.2=[]->fY (l.foldl (eJ pile) S) (x.2.1,x.2.2.1,x.2.2.2.1) 1
 |[],S,k,h,_,_=>⟨h,λ_ _ h=>h,λ_ h=>(Rk h).elim⟩
 |x::l,S,k,h,hm,c=>by
  obtain⟨j,e1,e2⟩:=c x Q5;have one:zc RL M U pile (eJ pile S x) (k+1)/\(∀a p,fY S a p->fY (eJ pile S x) a p)/\(x.2.2.2.2=[]->fY (eJ pile S x) (x.2.1,x.2.2.1,x.2.2.2.1) 1):=by
   unfold eJ;by_cases h0:x.2.2.2.2.length=0
   .rw[Re h0];have e:=h.bc (a:=(x.2.1,x.2.2.1,x.2.2.2.1)) (p:=1) (n:=some x.1) (m:=none) ⟨j,x.2,e1,e2,rfl,rfl,by rw[RJ.mp h0];exact⟨rfl,rfl,rfl⟩⟩ (u2 _ (RE e2)) (by decide) λh=>.inl (hm _ h);exact⟨e,λb p h=>gv h,λ_=>iJ _ _ _ _⟩
   .rw[Rf h0];exact⟨⟨h.b,h.l0,h.s0,h.k0,Nat.le_succ_of_le h.len⟩,λ_ _ h=>h,λe=>(h0 (by rw[e];rfl)).elim⟩
  obtain⟨o1,d,g⟩:=one;obtain⟨i,f,o⟩:=Kr u2 l o1 (λa ha=>d a 0 (hm a ha)) λb hb=>c b (Q7 _ hb);rw[Tf,Rq,Vt l.length,<- Nat.add_assoc];refine⟨i,λb p h=>f b p (d b p h),λb hb e=>?_⟩;rcases Q_.mp hb with rfl|hb
  .exact f _ _ (g e)
  .exact o b hb e
structure Set(RL:List Rule) (M U:List Arr):Prop where
 dE:∀r∈RL,r.2.2.2.length<=2
 u1:∀a∈M,a∈U
 u2:∀r∈RL,(r.1,r.2.1,r.2.2.1)∈U
 u3:∀r∈RL,∀s x t,(s,x,t)∈U->(r.1,r.2.1,t)∈U
 big:M.length+RL.length+RL.length*(U.length*U.length)<L
 M7:RL.length*U.length<L
 MT:U.length<L
def Set.M5(h:Set RL M U):tZ RL M U (bN RL):=by
 refine⟨h.dE,λ{n r c x} q=>?_,λ{j r x l} e1 e2=>?_,h.u1,h.u2,h.u3⟩
 .rcases (qo _ _ _ _).mp q with q|⟨q,y,l,e,k⟩
  .exact(Rk q).elim
  .obtain⟨j,e1,e2⟩:=en_mem.mp q
   grind
 .exact(qo _ _ _ _).mpr (.inr ⟨en_mem.mpr ⟨j,by grind,e1⟩,x,l,e2,rfl⟩)
def yi(h:Set RL M U):Top RL M U pile (M.length+RL.length) (ij pile RL M):=by
 obtain⟨f,p,e⟩:=Kq (RL:=RL) (M:=M) (U:=U) (pile:=pile) M NL λa ha=>⟨ha,h.u1 a ha⟩;obtain⟨c,g,i⟩:=Kr h.u2 (en RL 0) f e λx k=>by obtain⟨j,e1,e2⟩:=en_mem.mp k;exact⟨j,by grind,e2⟩
 have c:zc RL M U pile (ij pile RL M) _:=c;refine⟨c.b,λa ha=>g a 0 (e a ha),λj r m=>?_,⟨by rw[c.k0];exact sC,λ{n r q d y} h=>by rw[c.k0]at h;exact(Rk h).elim,λ_ _ h=>(c.no _ _ h).elim⟩,⟨by rw[c.s0];exact sC,⟨[],RI,by rw[c.s0];rfl,λ_ h=>(Rk h).elim⟩,by rw[c.k0];exact Rh _,?_⟩⟩
 .cases o:r.2.2.2 with
  |nil=>exact i ((j:Int),r) (en_mem.mpr ⟨j,by grind,m⟩) o
  |cons x l=>
   match l with
   |[]=>exact λt q h=>(c.no _ _ h).elim
   |[y]=>exact λd t q1 q2 h=>(c.no _ _ h).elim
   |_::_::_=>trivial
 .have:=c.len;rw[nj]at this;lia
def At(t:TD)(a:Arr)(q:Int):Prop:=∃w,bG t a=some w/\w.1=q
def NM(t:TD)(a:Arr)(q:Int):Prop:=∃w,bG t a=some w/\w.1<=q
structure Good(RL:List Rule) (M U:List Arr) (t:TD):Prop where
 nd:(t.map (·.1)).Nodup
 u:∀a v,bG t a=some v->a∈U
 ju:∀a v,bG t a=some v->Just RL M (At t) a v
 ps:∀a v,bG t a=some v->0<=v.1
 m0:∀a∈M,bG t a=some (0,none,none)
 C4:∀(j:Nat)(r:Rule),RL[j]?=some r->match r.2.2.2 with
  |[]=>NM t (r.1,r.2.1,r.2.2.1) 1
  |[x]=>∀d q,At t (r.2.2.1,x,d) q->NM t (r.1,r.2.1,d) (q+1)
  |[x,y]=>∀d e q1 q2,At t (r.2.2.1,x,d) q1->At t (d,y,e) q2->NM t (r.1,r.2.1,e) (q1+q2+1)
  |_=>True
def Top.good(h:Top RL M U pile C S)(e:S.aG=[]):Good RL M U S.told:=by
 have f:∀a q,Sd S a q↔At S.told a q:=λa q=>by
  constructor
  .intro k;exact(h.b.sd a q k).2
  .rintro⟨w,k,rfl⟩;rcases h.b.sp a w k with k|k|k
   .exact k
   .rw[e]at k;exact(Rk k).elim
   .exact(Rk k).elim
 refine⟨h.b.tk,h.b.tu,λa v k=>(h.b.ju a v k).mono RL M λa q=>(f a q).mp,h.b.ps,λa ha=>?_,λj r i=>?_⟩
 .obtain⟨v,k,_⟩:=h.mh a ha;rw[k,h.b.m0 a v k ha]
 .have c:=h.C4 j r i;cases g:r.2.2.2 with
  |nil=>rw[g]at c;exact c
  |cons x l=>
   rw[g]at c
   match l with
   |[]=>exact λt q k=>c t q ((f _ _).mpr k)
   |[y]=>exact λd t q1 q2 k1 k2=>c d t q1 q2 ((f _ _).mpr k1) ((f _ _).mpr k2)
   |_::_::_=>trivial
def Set.run(P:qY pile)(h:Set RL M U):jd (ij pile RL M)/\∃n T,Loop pile (bN RL) n (ij pile RL M) T/\Good RL M U T.told:=by have t:=yi (pile:=pile) h;obtain⟨n,T,l,t2,e⟩:=t.loop P h.M5 (λk=>Rx (lZ _ k) (Hq RL).2) h.big h.M7 h.MT _ _ _ (QY _) (QY _);exact⟨t.fit h.big h.M7 h.MT,n,T,l,t2.good e⟩
end Pz
namespace Pz
def Ee(x y k:Nat):(x ||| y)-(x &&& y)<2^k↔x/2^k=y/2^k:=by
 have c:(x ||| y)/2^k=x/2^k ||| y/2^k:=by rw[<- SO,<- SO,<- SO,Nat.shiftRight_or_distrib]
 have d:(x &&& y)/2^k=x/2^k &&& y/2^k:=by rw[<- SO,<- SO,<- SO,Nat.shiftRight_and_distrib]
 have e:(x ||| y)%2^k=x%2^k ||| y%2^k:=Nat.or_mod_two_pow;have f:(x &&& y)%2^k=x%2^k &&& y%2^k:=Nat.and_mod_two_pow;have a:0<2^k:=Nat.two_pow_pos k;have g:=Nat.div_add_mod (x ||| y) (2^k);have i:=Nat.div_add_mod (x &&& y) (2^k);have j:=Vv (x ||| y) a;have l:x/2^k &&& y/2^k<=x/2^k:=Nat.and_le_left;have m:x/2^k &&& y/2^k<=y/2^k:=Nat.and_le_right;have n:x/2^k<=x/2^k ||| y/2^k:=Nat.left_le_or;have o:y/2^k<=x/2^k ||| y/2^k:=Nat.right_le_or;have p:x%2^k &&& y%2^k<=x%2^k:=Nat.and_le_left;have q:x%2^k<=x%2^k ||| y%2^k:=Nat.left_le_or;constructor
 .intro h;refine Nat.le_antisymm ?_ ?_
  all_goals
   refine Nat.not_lt.mp λr=>?_;have b:(x &&& y)/2^k+1<=(x ||| y)/2^k:=by lia
   have hm:=Us (2^k) b;rw[Vm,Nat.mul_one]at hm;lia
 .grind
def Ef(z k:Nat):(if((z:Int)==0)=true then 0 else(z:Int).natAbs.log2+1)<=k↔z<2^k:=by
 rw[Int.natAbs_natCast];by_cases h:z=0
 .subst h;rw[Re (by decide)];exact⟨λ_=>Nat.two_pow_pos k,λ_=>Rh _⟩
 .have:¬((z:Int)==0)=true:=by simpa using h
  rw[Rf this];exact Nat.log2_lt h
end Pz
namespace L4
open PySem PySem.Spec PyProof.Rows L2 L3
section
variable{κ:Type}[DecidableEq κ]
noncomputable abbrev DX(κ:Type):=List (κ×Addr×List V)
noncomputable abbrev DX.kv(xs:DX κ):List (κ×V):=xs.map λx=>(x.1,V.ref x.2.1)
structure DL(mk:List (κ×V)->HO) (H:Hp) (a:Addr) (xs:DX κ):Prop where
 root:H a=some (mk xs.kv)
 qU:∀x∈xs,H x.2.1=some (.lst x.2.2)
 nk:(xs.map (·.1)).Nodup
 na:(xs.map (·.2.1)).Nodup
def cH(a:Addr)(xs:DX κ)(b:Addr):Prop:=b=a\/∃x∈xs,b=x.2.1
noncomputable def fQ(xs:DX κ)(k:κ):Option (Addr×List V):=(xs.find? λx=>decide (x.1=k)).map (·.2)
noncomputable def kO(xs:DX κ)(k:κ)(v:V):DX κ:=xs.map λx=>if x.1=k then(x.1,x.2.1,x.2.2++[v])else x
def jo(xs:DX κ)(k:κ):cJ xs.kv k=(fQ xs k).map λp=>.ref p.1:=by
 induction xs with
 |nil=>rfl
 |cons x r a=>
  unfold fQ at a ⊢;show cJ ((x.1,V.ref x.2.1)::DX.kv r) k=_;rw[Tn];by_cases h:x.1=k
  .rw[fj h,Rm h];rfl
  .rw[fq h,RK h,a]
def yj(xs:DX κ)(k:κ)(v:V):(kO xs k v).kv=xs.kv:=by unfold kO DX.kv;rw[Sf];apply Sz;intro x _;show((if x.1=k then(x.1,x.2.1,x.2.2++[v])else x).1,V.ref (if x.1=k then(x.1,x.2.1,x.2.2++[v])else x).2.1)=_;split<;>rfl
def nu{e:Type}(f:κ×Addr×List V->e)(g:∀a b c d,f (a,b,c)=f (a,b,d))(xs:DX κ)(k:κ)(v:V):(kO xs k v).map f=xs.map f:=by
 unfold kO;rw[Sf];apply Sz;intro x _;show f (if x.1=k then(x.1,x.2.1,x.2.2++[v])else x)=_;split
 .exact g _ _ _ _
 .rfl
def dt{xs:DX κ}(h:fQ xs k=some p):(k,p)∈xs:=by unfold fQ at h;obtain⟨x,c,rfl⟩:=Ss.mp h;have h1:=List.find?_some c;have h2:=List.mem_of_find?_eq_some c;have e:x.1=k:=Rr h1;obtain⟨a,b⟩:=x;dsimp only at e;subst e;exact h2
def yk{xs:DX κ}(h:fQ xs k=none):k∉xs.map (·.1):=λa=>by obtain⟨x,b,rfl⟩:=Q3.mp a;unfold fQ at h;have:=List.find?_eq_none.mp (Option.map_eq_none_iff.mp h) x b;simp at this
variable{mk:List (κ×V)->HO}
def DL.old(f:∀q ws,mk q≠.lst ws)(G:DL mk H a xs)(m:fQ xs k=some p)(hm:H' p.1=some (.lst (p.2++[v])))(kp:∀c u,H c=some u->c≠p.1->H' c=some u):DL mk H' a (kO xs k v):=by
 have g:=dt m;have h:a≠p.1:=λe=>by have:=G.qU _ g;dsimp only at this;rw[<- e,G.root]at this;exact f _ _ (R0 this)
 refine⟨by rw[yj];exact kp _ _ G.root h,λx n=>?_,by rw[nu _ (λ_ _ _ _=>rfl)];exact G.nk,by rw[nu _ (λ_ _ _ _=>rfl)];exact G.na⟩;obtain⟨y,l,rfl⟩:=Q3.mp n;by_cases e:y.1=k
 .rw[Re e];have:y=(k,p):=by
   have h1:(xs.map (·.1)).Nodup:=G.nk;obtain⟨i,d⟩:=Rl.mp l;obtain⟨j,b⟩:=Rl.mp g;have e1:(xs.map (·.1))[i]?=some k:=by rw[Rg,d];exact Sy some e
   have e2:(xs.map (·.1))[j]?=some k:=by rw[Rg,b];rfl
   have:i=j:=(UO (Q2.mp e1).1 h1).mp (e1.trans e2.symm);subst this;rw[d]at b;exact R0 b
  subst this;exact hm
 .rw[Rf e];refine kp _ _ (G.qU y l) λq=>e ?_;obtain⟨i,d⟩:=Rl.mp l;obtain⟨j,b⟩:=Rl.mp g;have e1:(xs.map (·.2.1))[i]?=some p.1:=by rw[Rg,d];exact Sy some q
  have e2:(xs.map (·.2.1))[j]?=some p.1:=by rw[Rg,b];rfl
  have:i=j:=(UO (Q2.mp e1).1 G.na).mp (e1.trans e2.symm);subst this;rw[d]at b;rw[R0 b]
def DL.new(g:∀q ws,mk q≠.lst ws)(G:DL mk H a xs)(i:fQ xs k=none)(j:H l=none)(hm:H' l=some (.lst [v]))(ha:H' a=some (mk (xs.kv++[(k,.ref l)])))(kp:∀c u,H c=some u->c≠a->H' c=some u):DL mk H' a (xs++[(k,l,[v])]):=by
 have nl:∀x∈xs,x.2.1≠l:=λx d e=>by have:=G.qU x d;rw[e,j]at this;cases this
 refine⟨by grind,λx d=>?_,?_,?_⟩
 .rcases Rj.mp d with h|h
  .refine kp _ _ (G.qU x h) λe=>?_;have:=G.qU x h;rw[e,G.root]at this;exact g _ _ (R0 this)
  .rw[Q9]at h;subst h;exact hm
 .rw[RX,RC];exact⟨G.nk,by simp,λb hb c f e=>by rw[Rn,TR,Q9]at f;subst f;subst e;exact yk i hb⟩
 .rw[RX,RC];exact⟨G.na,by simp,λb hb c f e=>by rw[Rn,TR,Q9]at f;subst f;subst e;obtain⟨x,d,q⟩:=Q3.mp hb;exact nl x d q⟩
end
def Reads(t:TE)(σ:L2.St)(H:Hp)(v:V):Prop:=∀Q:VK,Q v H->t σ H Q
def Makes(t:TE)(σ:L2.St)(H:Hp)(ws:List V):Prop:=∀Q:VK,(∀p,H p=none->Q (.ref p) (upd H p (.tup ws)))->t σ H Q
section
variable{K:Vx}
def Reads.va(h:σ[i]?=some (some v)):Reads (au i) σ H v:=λ_ q=>⟨_,h,q⟩
def Reads.k:Reads (tC v) σ H v:=λ_ q=>q
def Reads.op(ha:Reads ta σ H x)(hb:Reads tb σ H y)(h:∀Q:VK,Q z H->r x y H Q):Reads (bj r ta tb) σ H z:=λQ q=>ha _ (hb _ (h Q q))
def Reads.ix(h:Reads ta σ H (.ref b))(a:H b=some (.tup ws))(e:f_ ws n=some v):Reads (bj (kF K) ta (tC (.int n))) σ H v:=h.op .k λ_ q=>⟨b,ws,n,v,rfl,rfl,SqT.of a,e,q⟩
def Reads.fld(h:Reads ta σ H (.ref o))(a:∃dx,H o=some (.ins C dx fs))(cl:qX K C)(n:NoAttr K C f)(b:fs.lookup f=some v):Reads (d_ K ta f) σ H v:=λQ q=>by obtain⟨dx,a⟩:=a;exact h _ ⟨o,C,dx,_,_,rfl,a,cl,n,b,q⟩
def Hr(h:Reads ta σ H (.ref o))(a:∃dx,H o=some (.ins C dx fs))(cl:qX K C)(n:NoAttr K C f)(b:fs.lookup f=some v)(q:Q v H):d_ K ta f σ H Q:=Reads.fld h a cl n b _ q
def ReadsA(t:TA)(σ:L2.St)(H:Hp)(vs:List V):Prop:=∀Q:List V->Hp->Prop,Q vs H->t σ H Q
def ReadsA.ni:ReadsA aE σ H []:=λ_ q=>q
def ReadsA.c(h:Reads ta σ H v)(k:ReadsA tr σ H vs):ReadsA (aj ta tr) σ H (v::vs):=λ_ q=>h _ (k _ q)
def Makes.t(h:ReadsA tr σ H ws)(l:Nat.ble ws.length 9=true):Makes (cI tr) σ H ws:=λ_ q=>h _ ⟨Rx (Tz l) (by decide),q⟩
def oo(h:ReadsA tr σ H ws)(l:Nat.ble ws.length 9=true)(k:∀p,H p=none->Q (.ref p) (upd H p (.tup ws))):cI tr σ H Q:=Makes.t h l _ k
def sD(h:Reads ta σ H (.ref b))(a:∃dx,H b=some (.ins C dx fs))(c:fs.lookup m=none)(ha:ReadsA tr σ H vs)(k:sp (.ref b::(vs++dvs)) H Q E):eG C m sp dvs E ta tr σ H Q:=by obtain⟨dx,a⟩:=a;exact h _ ⟨b,dx,fs,rfl,a,c,ha _ k⟩
def AK{Q:L2.St->Hp->Prop}(a:H b=some (.tup [v,w]))(k:Q ((σ.set i (some v)).set j (some w)) H):dQ K 2 (aX (aA i) (aX (aA j) dP)) (.ref b) σ H Q:=⟨b,_,rfl,SqT.of a,rfl,_,_,rfl,_,_,rfl,rfl,k⟩
def gR{t u:TS}{D:Ends}(h:Reads te σ H (.bl c))(k1:c=true->t D σ H)(k2:¬c=true->u D σ H):d8 (bI te) t u D σ H:=h _ ⟨_,rfl,nZ k1 k2⟩
end
def kR{κ:Type}[DecidableEq κ](xs:DX κ)(k:κ)(l:Addr)(v:V):DX κ:=if(fQ xs k).isSome then kO xs k v else xs++[(k,l,[v])]
def nv(K:Vx)(to tk te:TE):TE:=qZ K "list" cT (qZ K "dict" uO to (aj tk (aj (dS aE) aE))) (aj te aE)
def wD{κ:Type}[DecidableEq κ]{mk:List (κ×V)->HO}(o:∀q ws,mk q≠.lst ws){K:Vx}{te:TE}{σ:L2.St}{H:Hp}{a l:Addr}{xs:DX κ}{k:κ}{ws:List V}{C:Hp->Prop}(G:DL mk H a xs)(i:H l=none)
 (r:∀H',(∀c u,H c=some u->c≠a->H' c=some u)->Makes te σ H' ws) (E:∀x∈xs,x.2.2.length<16000000)
 (B:∀(l p:Addr)(H':Hp),H l=none->H p=none->H' p=some (.tup ws)->DL mk H' a (kR xs k l (.ref p))->(∀c u,H c=some u->¬cH a xs c->H' c=some u)->C H') :
 (∃v,cJ xs.kv k=some v/\J3 K "list" v (upd H l (.lst []))/\aj te aE σ (upd H l (.lst [])) λxs w=>cT v xs w λ_ H'=>C H')\/(cJ xs.kv k=none/\J3 K "list" (.ref l) (upd (upd H l (.lst [])) a (mk (bY xs.kv k (.ref l))))/\aj te aE σ (upd (upd H l (.lst [])) a (mk (bY xs.kv k (.ref l)))) λxs w=>cT (.ref l) xs w λ_ H'=>C H'):=by
 have sz:∀n,n<16000000->n<sizeLine:=λn h=>by rw[RB];lia
 have y:H a≠none:=by rw[G.root];simp
 have f:a≠l:=λe=>y (by rw[e];exact i);have kl:∀c u,H c=some u->upd H l (.lst []) c=some u:=λc u e=>by rw[ai (ax e i)];exact e
 cases d:fQ xs k with
 |some q=>
  left;have D:=G.qU _ (dt d);refine⟨.ref q.1,by rw[jo,d];rfl,.inl ⟨rfl,_,SqL.of (kl _ _ D)⟩,r _ (λc u e _=>kl c u e) _ λp j=>?_⟩;have b:H p=none:=(aw i).free j;have s:q.1≠p:=λe=>by grind
  refine⟨q.1,q.2,.ref p,rfl,rfl,by rw[ai s];exact kl _ _ D,sz _ (E _ (dt d)),?_⟩;have kp:∀c u,H c=some u->c≠q.1->upd (upd (upd H l (.lst [])) p (.tup ws)) q.1 (.lst (q.2++[.ref p])) c=some u:=λc u e g=>by rw[ai g,ai (ax e b)];exact kl c u e
  refine B l p _ i b (by rw[ai (Si s),ag]) ?_ λc u e g=>kp c u e λz=>g (.inr ⟨_,dt d,z⟩);unfold kR;rw[d,Re (by simp)];exact G.old o d ag kp
 |none=>
  right;refine⟨by rw[jo,d];rfl,.inl ⟨rfl,[],SqL.of (by rw[ai (Si f),ag])⟩,r _ (λc u e g=>by rw[ai g];exact kl c u e) _ λp j=>?_⟩;have A:cJ xs.kv k=none:=by rw[jo,d];rfl
  have t:p≠a:=λe=>by rw[e,ag]at j;cases j
  have m:p≠l:=λe=>by rw[e,ai (Si f),ag]at j;cases j
  have b:H p=none:=by rw[ai t,ai m]at j;exact j
  refine⟨l,[],.ref p,rfl,rfl,by rw[ai (Si m),ai (Si f),ag],by decide,?_⟩;refine B l p _ i b (by rw[ai m,ag]) ?_ λc u e g=>?_
  .unfold kR;rw[d,Rf (by simp)];refine G.new o d i ag (by rw[ai f,ai (Si t),ag,dX _ A]) λc u e g=>?_;rw[ai (ax e i),ai (ax e b),ai g];exact kl c u e
  .rw[ai (ax e i),ai (ax e b),ai (λz=>g (.inl z))];exact kl c u e
def qp{K:Vx}{to tk te:TE}{σ:L2.St}{H:Hp}{C:Hp->Prop}(G:DL .dT H a xs)(f:Reads to σ H (.ref a))(g:Reads tk σ H (.ref b))(hb:H b=some (.tup (k.map kV)))
 (h:∀H',(∀c u,H c=some u->c≠a->H' c=some u)->Makes te σ H' ws) (hz:xs.length<16000000) (i:∀x∈xs,x.2.2.length<16000000)
 (j:∀(l p:Addr)(H':Hp),H l=none->H p=none->H' p=some (.tup ws)->DL .dT H' a (kR xs k l (.ref p))->(∀c u,H c=some u->¬cH a xs c->H' c=some u)->C H') :
 nv K to tk te σ H λ_ H'=>C H':=by
 have kl:∀l,H l=none->∀c u,H c=some u->upd H l (.lst []) c=some u:=λl d c u e=>by rw[ai (ax e d)];exact e
 exact f _ ⟨.inr (.inr (.inl ⟨rfl,.inr ⟨_,G.root⟩⟩)),g _ ⟨Rh _,λl d=>⟨a,b,k,.ref l,xs.kv,rfl,rfl,kl l d _ _ hb,.inl (kl l d _ _ G.root),by unfold DX.kv;rw[Q0,RB];lia,wD (mk:=.dT) (λ_ _ z=>HO.noConfusion z) G d h i j⟩⟩⟩
def FR(K:Vx)(to tk te:TE):TE:=qZ K "list" cT (qZ K "dict" FI to (aj tk (aj (dS aE) aE))) (aj te aE)
def Eg{K:Vx}{to tk te:TE}{σ:L2.St}{H:Hp}{C:Hp->Prop}(G:DL .dK H a xs)(d:Reads to σ H (.ref a))(e:Reads tk σ H (.int i))
 (f:∀H',(∀c u,H c=some u->c≠a->H' c=some u)->Makes te σ H' ws) (hz:xs.length<16000000) (g:∀x∈xs,x.2.2.length<16000000)
 (h:∀(l p:Addr)(H':Hp),H l=none->H p=none->H' p=some (.tup ws)->DL .dK H' a (kR xs (.inl i) l (.ref p))->(∀c u,H c=some u->¬cH a xs c->H' c=some u)->C H') :
 FR K to tk te σ H λ_ H'=>C H':=by
 have kl:∀l,H l=none->upd H l (.lst []) a=some (.dK xs.kv):=λl b=>by rw[ai (ax G.root b)];exact G.root
 exact d _ ⟨.inr (.inr (.inl ⟨rfl,.inl ⟨_,G.root⟩⟩)),e _ ⟨Rh _,λl b=>⟨a,.inl i,.ref l,xs.kv,rfl,rfl,.inl (kl l b),by unfold DX.kv;rw[Q0,RB];lia,wD (mk:=.dK) (λ_ _ z=>HO.noConfusion z) G b f g h⟩⟩⟩
section
def FS:V->List V->Hp->VK->Prop:=λx xs H Q=>∃i,x=.int i/\xs=[]/\Q (.int (Builtin.Int.intBits i)) H
def Eh:FF X "int.bit_length" FS:=by intro ac s σ H x xs v us Q I a rs q;obtain⟨i,rfl,rfl,q⟩:=q;obtain⟨t,rfl⟩:=a;cases rs;exact call_int_bit_length ⟨.int _,H,I.tok _,⟨_,rfl⟩,q⟩
end
structure Jj(C:Addr) (H:Hp) (q ap:Addr) (last:Int) (xs:DX bW):Prop where
 ins:∃dx,H q=some (.ins C dx [("last",.int last),("piles",.ref ap)])
 aG:DL .dK H ap xs
 dE:xs.length<16000000
 low:∀x∈xs,x.2.2.length<16000000
structure qN(K:Vx) (C:Addr):Prop where
 cl:qX K C
 nl:NoAttr K C "last"
 np:NoAttr K C "piles"
noncomputable def aC(a last:Int):Int:=Builtin.Int.intBits (Builtin.bitXor a last)
def Ks(K:Vx):TE:=FR K (d_ K (au 0) "piles") (zC K "int" FS (bj (ui λi j=>.int (Builtin.bitXor i j)) (au 1) (d_ K (au 0) "last"))) (cI (aj (au 1) (aj (au 2) aE)))
def Hu{K:Vx}{C q ap b:Addr}{H:Hp}{d:Hp->Prop}(T:qN K C)(G:Jj C H q ap last xs)(h0:σ[0]?=some (some (.ref q)))(h1:σ[1]?=some (some (.int price)))(h2:σ[2]?=some (some (.ref b)))
 (e:∀(l p:Addr)(H':Hp),H l=none->H p=none->H' p=some (.tup [.int price,.ref b])->(∃dx,H' q=some (.ins C dx [("last",.int last),("piles",.ref ap)]))->DL .dK H' ap (kR xs (.inl (aC price last)) l (.ref p))->(∀c u,H c=some u->¬cH ap xs c->H' c=some u)->d H') :
 Ks K σ H λ_ H'=>d H':=by
 obtain⟨dx,a⟩:=G.ins;have f:¬cH ap xs q:=λz=>by
  rcases z with z|⟨x,g,z⟩
  .have:=G.aG.root;rw[<- z,a]at this;cases this
  .have:=G.aG.qU x g;rw[<- z,a]at this;cases this
 refine Eg (ws:=[.int price,.ref b]) (i:=aC price last) G.aG (λQ h=>⟨_,h0,q,C,dx,_,_,rfl,a,T.cl,T.np,rfl,h⟩) (λQ h=>?_) (λH' _ Q h=>⟨_,h1,_,h2,(by show 2<=sizeLine;decide),h⟩) G.dE G.low λl p H' j k hm hd kp=>e l p H' j k hm ⟨dx,kp _ _ a f⟩ hd kp;exact⟨_,h1,_,h0,q,C,dx,_,_,rfl,a,T.cl,T.nl,rfl,_,_,rfl,rfl,rfl,_,rfl,rfl,h⟩
inductive pE(C:Addr):Sp
 |mk {q ap b:Addr} {last price:Int} {xs:DX bW} {H:Hp} {Q:VK} {E:XK} (G:Jj C H q ap last xs) (k:∀(l p:Addr)(H':Hp),H l=none->H p=none->H' p=some (.tup [.int price,.ref b])->(∃dx,H' q=some (.ins C dx [("last",.int last),("piles",.ref ap)]))->DL .dK H' ap (kR xs (.inl (aC price last)) l (.ref p))->(∀c u,H c=some u->¬cH ap xs c->H' c=some u)->Q .bz H'):pE C [.ref q,.int price,.ref b] H Q E
def yl(h:pE C vs H Q E):vs.length=3:=by cases h;rfl
def AL{K:Vx}{C:Addr}{vs:List V}(T:qN K C)(h:pE C vs H Q E)(a:N.length=3):b8 (Ks K) {nx:=λ_ H'=>Q .bz H',rt:=Q} (bp N vs) H:=by obtain⟨G,k⟩:=h;exact Hu T G rfl rfl rfl k
section
variable{κ:Type}[DecidableEq κ]{mk:List (κ×V)->HO}{H H':Hp}{a:Addr}{xs:DX κ}{k:κ}{p:Addr×List V}
noncomputable def jR(xs:DX κ)(k:κ):DX κ:=xs.filter λx=>decide (x.1≠k)
theorem AM(xs:DX κ)(k:κ):(jR xs k).kv=i5 xs.kv k:=by unfold jR i5 DX.kv;rw[List.filter_map];rfl
theorem DL.drop(h:∀q ws,mk q≠.lst ws)(G:DL mk H a xs)(m:fQ xs k=some p)(ha:H' a=some (mk (i5 xs.kv k)))(kp:∀c u,H c=some u->c≠a->H' c=some u) :
 DL mk H' a (jR xs k)/\H' p.1=some (.lst p.2)/\¬cH a (jR xs k) p.1:=by
 have g:=dt m;have b:∀x∈xs,x.2.1≠a:=λx d e=>by have:=G.qU x d;rw[e,G.root]at this;exact h _ _ (R0 this)
 have sub:(jR xs k).Sublist xs:=List.filter_sublist;refine⟨⟨by rw[AM];exact ha,λx d=>?_,(sub.map _).nodup G.nk,(sub.map _).nodup G.na⟩,kp _ _ (G.qU _ g) (b _ g),λz=>?_⟩
 .have f:=(Ru.mp d).1;exact kp _ _ (G.qU x f) (b x f)
 .rcases z with z|⟨x,d,z⟩
  .exact b _ g z
  .obtain⟨h1,h2⟩:=Ru.mp d;have l:x.1≠k:=Rr h2;obtain⟨i,n⟩:=Rl.mp h1;obtain⟨j,o⟩:=Rl.mp g;have e1:(xs.map (·.2.1))[i]?=some p.1:=by grind
   have e2:(xs.map (·.2.1))[j]?=some p.1:=by grind
   have:i=j:=(UO (Q2.mp e1).1 G.na).mp (e1.trans e2.symm);subst this;rw[n]at o;exact l (by grind)
end
end L4
namespace L4
open PySem PySem.Spec PySem.Calls PyProof.Rows L2 L3
section
abbrev sF(v d:Addr):HO:=.ext λh=>PySem.W.KdlKeysView h v d
def FT:V->List V->Hp->VK->Prop:=λx xs H Q=>∃a kvs,x=.ref a/\xs=[]/\H a=some (.dK kvs)/\∀v,H v=none->Q (.ref v) (upd H v (sF v a))
def Ei:FF X "dict.keys" FT:=by intro ac s σ H x xs v us Q I b rs q;obtain⟨a,kvs,rfl,rfl,ha,q⟩:=q;obtain rfl:v=Value.ref a:=b;cases rs;obtain⟨z,hd,vs,c,dd⟩:=vW I.aW ha;refine Ut PySem.F.slot_dict_keys dd.typeIs PySem.F.entry_dict_keys (PySem.F.args_dict_keys_1 _) (PySem.W.kdl_meets_keys (aO X.prog X.w) a hd) ?_;have d:PySem.W.KdlKeysView (s.heap.push { cls:=.type "dict_keys",data:=.fields #[.ref a] }) s.heap.objs.size a:=⟨_,Rb _ rfl,rfl,rfl⟩;exact⟨⟨vs,dd⟩,.ref s.heap.objs.size,_,I.laid (a:=s.heap.objs.size) (o:=sF s.heap.objs.size a) (t':=s.toks) (λ_ _ e=>QZ _ e) (QY _) ⟨d,⟨_,Rb _ rfl⟩,λh1 h2 ⟨o,f,r⟩ k=>⟨o,k _ f,r⟩⟩,rfl,q _ (I.aW.fresh (QY _))⟩
def FU:List V->Hp->VK->Prop:=λxs H Q=>∃(v a:Addr)(kvs:List (bW×V))(ns:List Int),xs=[.ref v]/\H v=some (sF v a)/\H a=some (.dK kvs)/\kvs.map (·.1)=ns.map Sum.inl/\ns≠[]/\Q (.int (pY ns)) H
def ym(G:X.calm=true):CallR X (.builtin "min") FU:=by
 intro ac s σ H xs us Q I r q;obtain⟨v,a,kvs,ns,rfl,l,ha,C,m,q⟩:=q;obtain⟨u,rfl,ru⟩:=dR r;obtain rfl:u=Value.ref v:=ru;obtain⟨z,hd,vs,d,dd⟩:=vW I.aW ha;obtain⟨p,_,_⟩:=(show ObjOk X.prog X.w H s.heap v (sF v a)from I.aW v _ l);obtain⟨ep,D⟩:=dd.dictAt;have J:=d.length;have K:kvs.length=ns.length:=by have:=Sy List.length C;simpa using this
 have f:∀(i:Nat)(k:bW)(x:Vz),vs[i]?=some (k,x)->∃n,ns[i]?=some n/\k=.inl n:=λi k x e=>by
  have E:i<kvs.length:=by rw[J];exact(Q2.mp e).1
  obtain⟨e1,_⟩:=d.at i _ _ (Q1 E) e;have e2:(kvs.map (·.1))[i]?=some k:=by rw[Rg,Q1 E];exact Sy some e1
  rw[C,Rg]at e2;obtain⟨n,h1,h2⟩:=Ss.mp e2;exact⟨n,h1,h2.symm⟩
 generalize c:(ns.map λn=>(n,(0:Tok))).toArray=ps;have hsz:ps.size=ns.length:=by rw[<- c];simp
 have g:∀(i:Nat)(n:Int),ns[i]?=some n->numAt ps i=n:=λi n e=>by unfold numAt;rw[<- c];simp[e]
 have y:ps.toList.map (·.1)=ns:=by rw[<- c];simp[Function.comp_def]
 have F:0<ns.length:=Ur.mpr m;have h:a≠s.heap.objs.size:=by obtain⟨o,_,_,B,_⟩:=dd;exact Rt (Rc B)
 refine call_min_walk (PySem.W.kdl_pyIter_keys (knd:=aO X.prog X.w) (s:=s) p D ?_);refine⟨_,_,_,_,_,_,_,rfl,Walks.dictKeys (knd:=aO X.prog X.w) (A:=X.A.in1) (I.ok.hd G) s.heap.objs.size a h vs ep,⟨⟨_,Rb _ rfl,rfl,rfl⟩,D.at' λo e=>QZ _ e⟩,λb hb=>?_,by lia,CmpOf.ints_lt (numAt ps) (λi v l=>?_),λv h' tk L kp=>?_⟩
 .simp only[Q_,Rk,Ve]at hb;rw[TY];rcases hb with rfl|rfl
  .exact SQ _
  .obtain⟨o,_,_,B,_⟩:=dd;exact T_ (Rc B)
 .obtain⟨k,x,e1,e2⟩:=l;obtain⟨n,e3,rfl⟩:=f i k x e1;obtain⟨j,t,e4,rfl⟩|⟨j,t,e4,_⟩:=bu (show iY (.inl n) v=true from e2)
  .cases e4;exact⟨t,by rw[g i n e3]⟩
  .cases e4
 .obtain⟨k,x,e1,e2⟩:=L;obtain⟨n,e3,rfl⟩:=f _ k x e1;obtain⟨j,t,e4,rfl⟩|⟨j,t,e4,_⟩:=bu (show iY (.inl n) v=true from e2)
  .cases e4;have hb:=mR ps (vs.length-1) (by lia);rw[g _ n e3,y,Su (by lia)]at hb;exact⟨.int n,H,I.kept (t':=tk) λb o e=>kp b o (λhm=>by rw[Q9]at hm;subst hm;exact T8 _ (Rc e)) (QZ _ e),⟨t,rfl⟩,by rw[hb];exact q⟩
  .cases e4
end
end L4
namespace L4
open PySem PySem.Spec PyProof.Rows L2 L3
inductive aL{α β:Type} (R:α->β->Prop):List α->List β->Prop where
 |nil:aL R [] []
 |cons {x y xs ys}:R x y->aL R xs ys->aL R (x::xs) (y::ys)
section
variable{α β:Type}{R R':α->β->Prop}
def aL.len(h:aL R xs ys):xs.length=ys.length:=by
 induction h with
 |nil=>rfl
 |cons _ _ a=>rw[Rq,Rq,a]
def aL.mono(f:∀x y,R x y->R' x y)(h:aL R xs ys):aL R' xs ys:=by
 induction h with
 |nil=>exact .nil
 |cons a _ b=>exact .cons (f _ _ a) b
def aL.snoc(h:aL R xs ys)(r:R x y):aL R (xs++[x]) (ys++[y]):=by
 induction h with
 |nil=>exact .cons r .nil
 |cons a _ b=>exact .cons a b
theorem aL.get(h:aL R xs ys){i:Nat}(e:ys[i]?=some y):∃x,xs[i]?=some x/\R x y:=by
 induction h generalizing i with
 |nil=>simp at e
 |cons a _ b=>
  cases i with
  |zero=>simp at e;subst e;exact⟨_,rfl,a⟩
  |succ i=>simp at e;obtain⟨x,e1,e2⟩:=b e;exact⟨x,by simpa using e1,e2⟩
def aL.Fy{b c:Type}{T:b->c->Prop}(f:α->b)(g:β->c)(k:∀x y,R x y->T (f x) (g y))(h:aL R xs ys):aL T (xs.map f) (ys.map g):=by
 induction h with
 |nil=>exact .nil
 |cons a _ d=>exact .cons (k _ _ a) d
end
def KT(H H':Hp):Prop:=∀a ws,H a=some (.tup ws)->H' a=some (.tup ws)
section
variable{κ κ' α:Type}[DecidableEq κ][DecidableEq κ'](key:κ->κ')(it:Hp->α->V->Prop)
abbrev RepM(H:Hp)(d:Pz.MD κ α)(xs:DX κ'):Prop:=aL (λx y=>y.1=key x.1/\aL (it H) x.2 y.2.2) d xs
variable{key it}
def RepM.keep(hm:∀a v,it H a v->it H' a v)(h:RepM key it H d xs):RepM key it H' d xs:=h.mono λ_ _ ⟨e,a⟩=>⟨e,a.mono hm⟩
def RepM.find(inj:∀a b,key a=key b->a=b)(h:RepM key it H d xs)(k:κ) :
 (fQ xs (key k)=none/\d.has k=false/\d.get k=[])\/∃p,fQ xs (key k)=some p/\d.has k=true/\aL (it H) (d.get k) p.2:=by
 induction h with
 |nil=>exact .inl ⟨rfl,rfl,rfl⟩
 |@cons x y d xs r _ c=>
  unfold fQ at c ⊢;unfold Pz.MD.has at c ⊢;rw[Tn,Pz.dk,Ux];by_cases e:x.1=k
  .right;have:y.1=key k:=by rw[r.1,e]
   rw[Rm this,Rm e,Re e];exact⟨y.2,rfl,rfl,r.2⟩
  .have:¬y.1=key k:=λz=>e (inj _ _ (r.1.symm.trans z));rw[RK this,RK e,Rf e,Bool.false_or];exact c
def RepM.add(inj:∀a b,key a=key b->a=b)(hm:∀a v,it H a v->it H' a v)(h:RepM key it H d xs)(c:it H' v (.ref p)):RepM key it H' (d.app k v) (kR xs (key k) l (.ref p)):=by
 have h':=h.keep hm;unfold Pz.MD.app kR;rcases h.find inj k with⟨e1,e2,_⟩|⟨q,e1,e2,_⟩
 .rw[e1,e2];exact h'.snoc ⟨rfl,.cons c .nil⟩
 .rw[e1,e2];refine h'.Fy _ _ λx y ⟨f,g⟩=>?_;by_cases e:x.1=k
  .have:y.1=key k:=by rw[f,e]
   rw[Re e,Re this];exact⟨f,g.snoc c⟩
  .grind
theorem RepM.drop(inj:∀a b,key a=key b->a=b)(h:RepM key it H d xs)(k:κ):RepM key it H (d.drop k) (jR xs (key k)):=by
 induction h with
 |nil=>exact .nil
 |@cons x y d xs r _ c=>
  unfold Pz.MD.drop jR at c ⊢;by_cases e:x.1=k
  .have:y.1=key k:=by rw[r.1,e]
   rw[List.filter_cons_of_neg (by simpa using e),List.filter_cons_of_neg (by simpa using this)];exact c
  .have:¬y.1=key k:=λz=>e (inj _ _ (r.1.symm.trans z));rw[List.filter_cons_of_pos (by simpa using e),List.filter_cons_of_pos (by simpa using this)];exact .cons r c
theorem RepM.keys(h:RepM key it H d xs):xs.map (·.1)=d.keys.map key:=by
 induction h with
 |nil=>rfl
 |cons r _ a=>grind
def RepM.low(h:RepM key it H d xs)(a:d.flat.length<n):∀x∈xs,x.2.2.length<n:=by
 induction h with
 |nil=>exact λ_ h=>(Rk h).elim
 |@cons x y d xs r _ b=>
  unfold Pz.MD.flat at a b;rw[SL,Q8]at a;intro z hz;rcases Q_.mp hz with rfl|hz
  .have:=r.2.len;lia
  .exact b (by lia) z hz
end
noncomputable def vO:Option Int->V
 |none=>.bz
 |some i=>.int i
noncomputable def nw(a:Pz.Arr):List V:=[.int a.1,.int a.2.1,.int a.2.2]
def IsArr(H:Hp)(a:Pz.Arr)(v:V):Prop:=∃p,v=.ref p/\H p=some (.tup (nw a))
def IsRule(H:Hp)(r:Pz.Rule)(v:V):Prop:=∃p q,v=.ref p/\H p=some (.tup [.int r.1,.int r.2.1,.int r.2.2.1,.ref q])/\H q=some (.tup (r.2.2.2.map .int))
def IsVal(H:Hp)(x:Pz.ye)(v:V):Prop:=∃p,v=.ref p/\H p=some (.tup [.int x.1,vO x.2.1,vO x.2.2])
def IsItem(H:Hp)(x:Int×Pz.Arr)(v:V):Prop:=∃p w,v=.ref p/\H p=some (.tup [.int x.1,w])/\IsArr H x.2 w
def IsSet(H:Hp)(x:Int×Int)(v:V):Prop:=∃p,v=.ref p/\H p=some (.tup [.int x.1,.int x.2])
def IsLack(H:Hp)(x:Int×Pz.Rule×Int)(v:V):Prop:=∃p w,v=.ref p/\H p=some (.tup [.int x.1,w,.int x.2.2])/\IsRule H x.2.1 w
def IsNum(H:Hp)(x:Int×Pz.Rule)(v:V):Prop:=∃p w,v=.ref p/\H p=some (.tup [.int x.1,w])/\IsRule H x.2 w
section
variable(k:KT H H')
include k
theorem IsArr.keep(a:Pz.Arr)(v:V):IsArr H a v->IsArr H' a v:=λ⟨p,e,h⟩=>⟨p,e,k _ _ h⟩
theorem IsRule.keep(a:Pz.Rule)(v:V):IsRule H a v->IsRule H' a v:=λ⟨p,q,e,h,g⟩=>⟨p,q,e,k _ _ h,k _ _ g⟩
theorem IsVal.keep(a:Pz.ye)(v:V):IsVal H a v->IsVal H' a v:=λ⟨p,e,h⟩=>⟨p,e,k _ _ h⟩
theorem IsItem.keep(a:Int×Pz.Arr)(v:V):IsItem H a v->IsItem H' a v:=λ⟨p,w,e,h,g⟩=>⟨p,w,e,k _ _ h,IsArr.keep k _ _ g⟩
theorem IsSet.keep(a:Int×Int)(v:V):IsSet H a v->IsSet H' a v:=λ⟨p,e,h⟩=>⟨p,e,k _ _ h⟩
theorem IsLack.keep(a:Int×Pz.Rule×Int)(v:V):IsLack H a v->IsLack H' a v:=λ⟨p,w,e,h,g⟩=>⟨p,w,e,k _ _ h,IsRule.keep k _ _ g⟩
theorem IsNum.keep(a:Int×Pz.Rule)(v:V):IsNum H a v->IsNum H' a v:=λ⟨p,w,e,h,g⟩=>⟨p,w,e,k _ _ h,IsRule.keep k _ _ g⟩
end
noncomputable def ak(a:Pz.Arr):List bW:=[.inl a.1,.inl a.2.1,.inl a.2.2]
def u9(a b:Pz.Arr)(h:ak a=ak b):a=b:=by grind [ak]
def NN(a:Pz.Arr):(ak a).map kV=nw a:=rfl
noncomputable def k2(k:Int×Int):List bW:=[.inl k.1,.inl k.2]
def jp(a b:Int×Int)(h:k2 a=k2 b):a=b:=by grind [k2]
noncomputable def k1(i:Int):bW:=.inl i
def kT(a b:Int)(h:k1 a=k1 b):a=b:=Sum.inl.inj h
abbrev RepT(H:Hp)(t:Pz.TD)(kt:List (List bW×V)):Prop:=aL (λx y=>y.1=ak x.1/\IsVal H x.2 y.2) t kt
theorem RepT.keep(k:KT H H')(h:RepT H t kt):RepT H' t kt:=h.mono λ_ _ ⟨e,a⟩=>⟨e,IsVal.keep k _ _ a⟩
def RepT.find(h:RepT H t kt)(a:Pz.Arr) :
 (cJ kt (ak a)=none/\Pz.bG t a=none)\/∃v x,cJ kt (ak a)=some v/\Pz.bG t a=some x/\IsVal H x v:=by
 induction h with
 |nil=>exact .inl ⟨rfl,rfl⟩
 |@cons x y t kt r _ b=>
  rw[Pz.c_];by_cases e:x.1=a
  .have:y.1=ak a:=by rw[r.1,e]
   rw[Re e,fj this];exact .inr ⟨_,_,rfl,rfl,r.2⟩
  .have:¬y.1=ak a:=λz=>e (u9 _ _ (r.1.symm.trans z));rw[Rf e,fq this];exact b
def RepT.put(h:RepT H t kt)(c:IsVal H x v):RepT H (Pz.tput t a x) (bY kt (ak a) v):=by
 unfold Pz.tput bY;rw[hG];rcases h.find a with⟨e1,e2⟩|⟨w,y,e1,e2,_⟩
 .rw[e1,e2];exact h.snoc ⟨rfl,c⟩
 .rw[e1,e2];refine h.Fy _ _ λz y ⟨b,d⟩=>?_;by_cases e:z.1=a
  .have:y.1=ak a:=by rw[b,e]
   rw[Re e,Re this];exact⟨b,c⟩
  .have:¬y.1=ak a:=λq=>e (u9 _ _ (b.symm.trans q));rw[Rf e,Rf this];exact⟨b,d⟩
def iL{κ:Type}[DecidableEq κ]{xs:DX κ}{k:κ}{l a c:Addr}{v:V}(h:cH a (kR xs k l v) c):cH a xs c\/c=l:=by
 rcases h with h|⟨x,hx,h⟩
 .exact .inl (.inl h)
 .unfold kR at hx;split at hx
  .obtain⟨y,b,rfl⟩:=Q3.mp hx;refine .inl (.inr ⟨y,b,?_⟩);rw[h];split<;>rfl
  .rcases Rj.mp hx with hx|hx
   .exact .inl (.inr ⟨x,hx,h⟩)
   .rw[Q9]at hx;subst hx;exact .inr h
section
variable{κ κ' α:Type}[DecidableEq κ][DecidableEq κ'](mk:List (κ'×V)->HO)(key:κ->κ')(it:Hp->α->V->Prop)
structure PM(col:Addr->Nat) (j:Nat) (B H:Hp) (a:Addr) (dd:Pz.MD κ α) (xs:DX κ'):Prop where
 d:DL mk H a xs
 r:RepM key it H dd xs
 c:∀c,cH a xs c->col c=j/\B c=none
variable{mk key it}{d:Pz.MD κ α}
def DL.obj(h:DL mk H a xs)(b:cH a xs c):H c≠none:=by
 grind [DL,cH]
def DL.keep(h:DL mk H a xs)(kp:∀c u,H c=some u->cH a xs c->H' c=some u):DL mk H' a xs:=⟨kp _ _ h.root (.inl rfl),λx b=>kp _ _ (h.qU x b) (.inr ⟨x,b,rfl⟩),h.nk,h.na⟩
theorem PM.keep(h:PM mk key it col j B H a d xs)(b:∀x v,it H x v->it H' x v)(kp:∀c u,H c=some u->col c=j->H' c=some u)(f:∀c,H c≠none->col' c=col c):PM mk key it col' j B H' a d xs:=⟨h.d.keep λc u e i=>kp c u e (h.c c i).1,h.r.keep b,λc i=>⟨by rw[f c (h.d.obj i)];exact(h.c c i).1,(h.c c i).2⟩⟩
def DL.kt(b:∀q ws,mk q≠.tup ws)(h:DL mk H a xs)(kp:∀c u,H c=some u->¬cH a xs c->H' c=some u):KT H H':=by
 grind [DL,cH,KT]
noncomputable def qq(a:Addr->Nat)(j:Nat)(H:Hp):Addr->Nat:=λc=>open Classical in if H c=none then j else a c
def bD(b:H a≠none):qq col j H a=col a:=by unfold qq;rw[Rf b]
def AN(b:H a=none):qq col j H a=j:=by unfold qq;rw[Re b]
def PM.new(h:PM mk key it col j B H a d xs)(b:Same B H)(h1:DL mk H' a xs')(h2:RepM key it H' d' xs')(f:∀c,cH a xs' c->cH a xs c\/H c=none):PM mk key it (qq col j H) j B H' a d' xs':=
 ⟨h1,h2,λc i=>by
   rcases f c i with i|e
   .rw[bD (h.d.obj i)];exact h.c c i
   .exact⟨AN e,b.free e⟩⟩
def PM.base(h:PM mk key it col j B H a d xs)(hb:∀c,cH a xs c->B' c=none):PM mk key it col j B' H a d xs:=⟨h.d,h.r,λc i=>⟨(h.c c i).1,hb c i⟩⟩
end
structure PA where
 o:Addr
 ta:Addr
 aq:Addr
 ap:Addr
 sa:Addr
 la:Addr
 ar:Addr
noncomputable def pf(A:PA):List (Str×V):=[("rules",.ref A.ar),("told",.ref A.ta),("offers",.ref A.aq),("settled",.ref A.sa),("lacking",.ref A.la)]
noncomputable abbrev qf(A:PA)(last:Int):List (Str×V):=[("last",.int last),("piles",.ref A.ap)]
structure PO(CP CQ:Addr) (col:Addr->Nat) (B H:Hp) (A:PA) (last:Int) (t:Pz.TD) (kt:List (List bW×V)):Prop where
 ins:∃dx,H A.o=some (.ins CP dx (pf A))
 C_:∃dx,H A.aq=some (.ins CQ dx (qf A last))
 td:H A.ta=some (.dT kt)
 tr:RepT H t kt
 c5:col A.ta=5/\B A.ta=none
 c6:col A.o=6/\B A.o=none
 c7:col A.aq=7/\B A.aq=none
structure bB(CP CQ:Addr) (B H:Hp) (A:PA) (rs:Pz.RS) (S:Pz.PS) (xs xl xr:DX (List bW)) (xp:DX bW) (kt:List (List bW×V)) (col:Addr->Nat):Prop where
 same:Same B H
 p1:PM .dK k1 IsItem col 1 B H A.ap S.aG xp
 p2:PM .dT k2 IsSet col 2 B H A.sa S.settled xs
 p3:PM .dT k2 IsLack col 3 B H A.la S.aJ xl
 p4:PM .dT k2 IsNum col 4 B H A.ar rs xr
 po:PO CP CQ col B H A S.last S.told kt
def PAt(CP CQ:Addr)(B H:Hp)(A:PA)(rs:Pz.RS)(S:Pz.PS)(xs b c:DX (List bW)):Prop:=∃d kt a,bB CP CQ B H A rs S xs b c d kt a
section
theorem PO.keep(h:PO CP CQ col B H A last t kt)(k:KT H H')(kp:∀c u,H c=some u->5<=col c->col c<=7->H' c=some u)(a:∀c,H c≠none->col' c=col c):PO CP CQ col' B H' A last t kt:=by
 obtain⟨⟨dx,h1⟩,⟨b,h2⟩,h3,d,c5,c6,c7⟩:=h;refine⟨⟨dx,kp _ _ h1 (by lia) (by lia)⟩,⟨b,kp _ _ h2 (by lia) (by lia)⟩,kp _ _ h3 (by lia) (by lia),d.keep k,?_,?_,?_⟩
 .rw[a _ (by grind)];exact c5
 .rw[a _ (by grind)];exact c6
 .rw[a _ (by grind)];exact c7
def bB.pile(h:bB CP CQ B H A rs S xs xl xr xp kt col)(h1:DL .dK H' A.ap xp')(h2:RepM k1 IsItem H' d' xp')(b:∀c,cH A.ap xp' c->cH A.ap xp c\/H c=none)
 (kp:∀c u,H c=some u->¬cH A.ap xp c->H' c=some u):bB CP CQ B H' A rs {S with aG:=d'} xs xl xr xp' kt (qq col 1 H):=by
 have k:KT H H':=h.p1.d.kt (λ_ _ z=>HO.noConfusion z) kp;have a:∀c u,H c=some u->col c≠1->H' c=some u:=λc u e n=>kp c u e λi=>n (h.p1.c c i).1;exact⟨(λc u e=>kp c u (h.same c u e) λi=>by rw[(h.p1.c c i).2]at e;cases e),h.p1.new h.same h1 h2 b,h.p2.keep (IsSet.keep k) (λc u e z=>a c u e (by lia)) λc=>bD,h.p3.keep (IsLack.keep k) (λc u e z=>a c u e (by lia)) λc=>bD,h.p4.keep (IsNum.keep k) (λc u e z=>a c u e (by lia)) λc=>bD,h.po.keep k (λc u e z _=>a c u e (by lia)) λc=>bD⟩
def bB.Pa(h:bB CP CQ B H A rs S xs xl xr xp kt col)(h1:DL .dT H' A.sa xs')(h2:RepM k2 IsSet H' d' xs')(b:∀c,cH A.sa xs' c->cH A.sa xs c\/H c=none)
 (kp:∀c u,H c=some u->¬cH A.sa xs c->H' c=some u):bB CP CQ B H' A rs {S with settled:=d'} xs' xl xr xp kt (qq col 2 H):=by
 have k:KT H H':=h.p2.d.kt (λ_ _ z=>HO.noConfusion z) kp;have a:∀c u,H c=some u->col c≠2->H' c=some u:=λc u e n=>kp c u e λi=>n (h.p2.c c i).1;exact⟨(λc u e=>kp c u (h.same c u e) λi=>by rw[(h.p2.c c i).2]at e;cases e),h.p1.keep (IsItem.keep k) (λc u e z=>a c u e (by lia)) λc=>bD,h.p2.new h.same h1 h2 b,h.p3.keep (IsLack.keep k) (λc u e z=>a c u e (by lia)) λc=>bD,h.p4.keep (IsNum.keep k) (λc u e z=>a c u e (by lia)) λc=>bD,h.po.keep k (λc u e z _=>a c u e (by lia)) λc=>bD⟩
def bB.ql(h:bB CP CQ B H A rs S xs xl xr xp kt col)(h1:DL .dT H' A.la xl')(h2:RepM k2 IsLack H' d' xl')(b:∀c,cH A.la xl' c->cH A.la xl c\/H c=none)
 (kp:∀c u,H c=some u->¬cH A.la xl c->H' c=some u):bB CP CQ B H' A rs {S with aJ:=d'} xs xl' xr xp kt (qq col 3 H):=by
 have k:KT H H':=h.p3.d.kt (λ_ _ z=>HO.noConfusion z) kp;have a:∀c u,H c=some u->col c≠3->H' c=some u:=λc u e n=>kp c u e λi=>n (h.p3.c c i).1;exact⟨(λc u e=>kp c u (h.same c u e) λi=>by rw[(h.p3.c c i).2]at e;cases e),h.p1.keep (IsItem.keep k) (λc u e z=>a c u e (by lia)) λc=>bD,h.p2.keep (IsSet.keep k) (λc u e z=>a c u e (by lia)) λc=>bD,h.p3.new h.same h1 h2 b,h.p4.keep (IsNum.keep k) (λc u e z=>a c u e (by lia)) λc=>bD,h.po.keep k (λc u e z _=>a c u e (by lia)) λc=>bD⟩
def bB.more(h:bB CP CQ B H A rs S xs xl xr xp kt col)(s:Same H H'):bB CP CQ B H' A rs S xs xl xr xp kt col:=by have k:KT H H':=λa ws e=>s a _ e;exact⟨h.same.trans s,h.p1.keep (IsItem.keep k) (λc u e _=>s c u e) λ_ _=>rfl,h.p2.keep (IsSet.keep k) (λc u e _=>s c u e) λ_ _=>rfl,h.p3.keep (IsLack.keep k) (λc u e _=>s c u e) λ_ _=>rfl,h.p4.keep (IsNum.keep k) (λc u e _=>s c u e) λ_ _=>rfl,h.po.keep k (λc u e _ _=>s c u e) λ_ _=>rfl⟩
theorem PAt.more(h:PAt CP CQ B H A rs S xs xl xr)(s:Same H H'):PAt CP CQ B H' A rs S xs xl xr:=let ⟨b,kt,a,h⟩:=h;⟨b,kt,a,h.more s⟩
def bB.tell(h:bB CP CQ B H A rs S xs xl xr xp kt col)(b:H p=some (.tup [.int x.1,vO x.2.1,vO x.2.2])) :
 bB CP CQ B (upd H A.ta (.dT (bY kt (ak a) (.ref p)))) A rs {S with told:=Pz.tput S.told a x} xs xl xr xp (bY kt (ak a) (.ref p)) col:=by
 have kp:∀c u,H c=some u->col c≠5->upd H A.ta (.dT (bY kt (ak a) (.ref p))) c=some u:=λc u e n=>by rw[ai (λz=>n (by rw[z];exact h.po.c5.1))];exact e
 have k:KT H (upd H A.ta (.dT (bY kt (ak a) (.ref p)))):=λc ws e=>by rw[ai (λz=>by rw[z,h.po.td]at e;cases e)];exact e
 obtain⟨⟨dx,h1⟩,⟨d,h2⟩,h3,f,c5,c6,c7⟩:=h.po;refine⟨λc u e=>?_,h.p1.keep (IsItem.keep k) (λc u e z=>kp c u e (by lia)) λ_ _=>rfl,h.p2.keep (IsSet.keep k) (λc u e z=>kp c u e (by lia)) λ_ _=>rfl,h.p3.keep (IsLack.keep k) (λc u e z=>kp c u e (by lia)) λ_ _=>rfl,h.p4.keep (IsNum.keep k) (λc u e z=>kp c u e (by lia)) λ_ _=>rfl,⟨dx,kp _ _ h1 (by lia)⟩,⟨d,kp _ _ h2 (by lia)⟩,ag,(f.keep k).put ⟨p,rfl,k _ _ b⟩,c5,c6,c7⟩;rw[ai (λz=>by grind)];exact h.same c u e
def bB.wide(h:bB CP CQ B H A rs S xs xl xr xp kt col)(Z:Addr->Prop)(hz:∀c,Z c->¬cH A.ap xp c/\¬cH A.sa xs c/\¬cH A.la xl c/\¬cH A.ar xr c/\c≠A.ta/\c≠A.o/\c≠A.aq) :
 ∃b,Same B b/\KT H b/\(∀c u,Z c->H c=some u->b c=some u)/\bB CP CQ b H A rs S xs xl xr xp kt col:=by
 classical
 refine⟨λc=>if B c≠none\/Z c\/∃ws,H c=some (.tup ws)then H c else none,λc u e=>?_,λc ws e=>?_,λc u z e=>?_,λc u e=>?_,h.p1.base λc i=>?_,h.p2.base λc i=>?_,h.p3.base λc i=>?_,h.p4.base λc i=>?_,h.po.ins,h.po.C_,h.po.td,h.po.tr,⟨h.po.c5.1,?_⟩,⟨h.po.c6.1,?_⟩,⟨h.po.c7.1,?_⟩⟩
 .dsimp only;rw[Re (.inl (by grind))];exact h.same c u e
 .dsimp only;rw[Re (.inr (.inr ⟨ws,e⟩))];exact e
 .dsimp only;rw[Re (.inr (.inl z))];exact e
 .split at e
  .exact e
  .cases e
 all_goals
  refine Rf λq=>?_
 .rcases q with q|q|⟨ws,q⟩
  .exact q (h.p1.c c i).2
  .exact(hz c q).1 i
  .rcases i with rfl|⟨x,a,rfl⟩
   .rw[h.p1.d.root]at q;cases q
   .rw[h.p1.d.qU x a]at q;cases q
 .rcases q with q|q|⟨ws,q⟩
  .exact q (h.p2.c c i).2
  .exact(hz c q).2.1 i
  .rcases i with rfl|⟨x,a,rfl⟩
   .rw[h.p2.d.root]at q;cases q
   .rw[h.p2.d.qU x a]at q;cases q
 .rcases q with q|q|⟨ws,q⟩
  .exact q (h.p3.c c i).2
  .exact(hz c q).2.2.1 i
  .rcases i with rfl|⟨x,a,rfl⟩
   .rw[h.p3.d.root]at q;cases q
   .rw[h.p3.d.qU x a]at q;cases q
 .rcases q with q|q|⟨ws,q⟩
  .exact q (h.p4.c c i).2
  .exact(hz c q).2.2.2.1 i
  .rcases i with rfl|⟨x,a,rfl⟩
   .rw[h.p4.d.root]at q;cases q
   .rw[h.p4.d.qU x a]at q;cases q
 .rcases q with q|q|⟨ws,q⟩
  .exact q h.po.c5.2
  .exact(hz _ q).2.2.2.2.1 rfl
  .rw[h.po.td]at q;cases q
 .rcases q with q|q|⟨ws,q⟩
  .exact q h.po.c6.2
  .exact(hz _ q).2.2.2.2.2.1 rfl
  .obtain⟨dx,e⟩:=h.po.ins;rw[e]at q;cases q
 .rcases q with q|q|⟨ws,q⟩
  .exact q h.po.c7.2
  .exact(hz _ q).2.2.2.2.2.2 rfl
  .obtain⟨dx,e⟩:=h.po.C_;rw[e]at q;cases q
def PAt.less(h:PAt CP CQ B' H A rs S xs xl xr)(s:Same B B'):PAt CP CQ B H A rs S xs xl xr:=by obtain⟨b,kt,a,h⟩:=h;refine⟨b,kt,a,s.trans h.same,h.p1.base λc i=>s.free (h.p1.c c i).2,h.p2.base λc i=>s.free (h.p2.c c i).2,h.p3.base λc i=>s.free (h.p3.c c i).2,h.p4.base λc i=>s.free (h.p4.c c i).2,h.po.ins,h.po.C_,h.po.td,h.po.tr,⟨h.po.c5.1,s.free h.po.c5.2⟩,⟨h.po.c6.1,s.free h.po.c6.2⟩,⟨h.po.c7.1,s.free h.po.c7.2⟩⟩
theorem PAt.same(h:PAt CP CQ B H A rs S xs xl xr):Same B H:=let ⟨_,_,_,h⟩:=h;h.same
end
def Ej(x y:Nat):Builtin.bitXor (x:Int) (y:Int)=(((x ||| y)-(x &&& y):Nat):Int):=by
 have n1:∀z:Nat,decide (0<=Builtin.bitNot (z:Int))=false:=λz=>RK (by unfold Builtin.bitNot;lia);have n2:∀z:Nat,(Builtin.bitNot (Builtin.bitNot (z:Int))).toNat=z:=λz=>by unfold Builtin.bitNot;lia
 have p1:∀z:Nat,decide (0<=(z:Int))=true:=λz=>Rm (by lia);have a:Builtin.bitAnd (x:Int) (y:Int)=((x &&& y:Nat):Int):=by unfold Builtin.bitAnd;rw[p1,p1];rfl
 have b:Builtin.bitOr (x:Int) (y:Int)=((x ||| y:Nat):Int):=by unfold Builtin.bitOr Builtin.bitAnd;rw[n1,n1];show Builtin.bitNot (Builtin.bitNot (((Builtin.bitNot (Builtin.bitNot (x:Int))).toNat |||(Builtin.bitNot (Builtin.bitNot (y:Int))).toNat:Nat):Int))=_;rw[n2,n2];unfold Builtin.bitNot;lia
 unfold Builtin.bitXor;rw[a,b];have:x &&& y<=x ||| y:=Rx Nat.and_le_left Nat.left_le_or;lia
def wF:Pz.qY aC:=by
 have a:∀{p l:Int},0<=p->0<=l->∃z:Nat,aC p l=(z:Int)/\∀k:Nat,z<=k↔p/2^k=l/2^k:=by
  intro p l b c;obtain⟨x,rfl⟩:=SX b;obtain⟨y,rfl⟩:=SX c;refine⟨_,rfl,λk=>?_⟩;rw[Ej];unfold Builtin.Int.intBits;rw[Pz.Ef,Pz.Ee];have e:∀z:Nat,(z:Int)/2^k=((z/2^k:Nat):Int):=λz=>by rw[Int.natCast_ediv];norm_cast
  rw[e,e];lia
 constructor
 .intro p l b c;obtain⟨z,e,_⟩:=a b c;rw[e];lia
 .intro p l b c k;obtain⟨z,e,h⟩:=a b c;rw[e,<- h k];lia
section
variable{K:Vx}{C q ap:Addr}{H:Hp}{last:Int}
inductive kg(C:Addr):Sp
 |mk {q dx:Addr} {H:Hp} {Q:VK} {E:XK} (hq:H q=some (.ins C dx [])) (k:∀(d:Addr)(H':Hp),H d=none->H' q=some (.ins C dx [("last",.int 0),("piles",.ref d)])->H' d=some (.dK [])->(∀b o,H b=some o->b≠q->H' b=some o)->Q .bz H'):kg C [.ref q] H Q E
def Hv(K:Vx):TS:=aK (pI K (au 0) (tC (.int 0)) "last") (pI K (au 0) zK "piles")
def sG(h:kg C vs H Q E):vs.length=1:=by cases h;rfl
theorem u_(T:qN K C)(h:kg C vs H Q E):Hv K {nx:=λ_ H'=>Q .bz H',rt:=Q} (bp N vs) H:=by
 obtain @⟨q,dx,_,_,_,hq,k⟩:=h;refine⟨_,rfl,q,C,dx,[],rfl,hq,T.cl,T.nl,(by show 0<1000;decide),?_⟩;intro d hd;have a:d≠q:=λe=>by rw[e,ag]at hd;cases hd
 have c:H d=none:=by rw[ai a]at hd;exact hd
 refine⟨_,rfl,q,C,dx,_,rfl,(by rw[ai (Si a),ag]),T.cl,T.np,(by show 1<1000;decide),?_⟩;refine k d _ c (by rw[ag];rfl) (by rw[ai a,ag]) λb o e hb=>?_;rw[ai hb,ai (ax e c),ai hb];exact e
inductive kd(C:Addr):Sp
 |mk {q ap dx:Addr} {last:Int} {kvs:List (bW×V)} {H:Hp} {Q:VK} {E:XK} (hq:H q=some (.ins C dx [("last",.int last),("piles",.ref ap)])) (ha:H ap=some (.dK kvs)) (hl:kvs.length<=sizeLine) (k:Q (.bl (decide (kvs.length=0))) H):kd C [.ref q] H Q E
def FV:List V->Hp->VK->Prop:=λxs H Q=>∃(d:Addr)(kvs:List (bW×V))(u:HO),xs=[.ref d]/\(u=.dK kvs\/(u=.dT []/\kvs=[]))/\Rd H d u/\kvs.length<=sizeLine/\Q (.int kvs.length) H
def yn:CallR X (.builtin "len") FV:=ya
def Hx(K:Vx):TS:=cL (bj oK (fK FV (aj (d_ K (au 0) "piles") aE)) (tC (.int 0)))
def sI(h:kd C vs H Q E):vs.length=1:=by cases h;rfl
theorem vc(T:qN K C)(h:kd C vs H Q E):Hx K {nx:=λ_ H'=>Q .bz H',rt:=Q} (bp N vs) H:=by
 obtain @⟨q,ap,dx,last,kvs,_,_,_,hq,ha,hl,k⟩:=h;refine⟨_,rfl,q,C,dx,_,_,rfl,hq,T.cl,T.np,rfl,ap,kvs,_,rfl,.inl rfl,.inl ha,hl,rfl,?_⟩;have:decide (V.int (kvs.length:Int)=V.int 0)=decide (kvs.length=0):=by apply decide_eq_decide.mpr;exact⟨λe=>by injection e with e;lia,λe=>by rw[e];rfl⟩
 rw[this];exact k
def NO(C q ap:Addr)(d:Pz.Q Pz.Arr)(e:DX bW)(H:Hp)(Q:VK):Prop:=∀(l:Addr)(b:List V)(a:DX bW)(H':Hp),Jj C H' q ap (Pz.lowP d) a->RepM k1 IsItem H' (Pz.left aC d) a->H' l=some (.lst b)->aL (IsItem H') (Pz.dm aC d) b->¬cH ap a l->(cH ap e l\/H l=none)->(∀c,cH ap a c->cH ap e c\/H c=none)->
 (∀c u,H c=some u->¬cH ap e c->c≠q->H' c=some u)->Q (.ref l) H'
inductive nT(C:Addr):Sp
 |mk {q ap:Addr} {last:Int} {xp:DX bW} {d:Pz.Q Pz.Arr} {H:Hp} {Q:VK} {E:XK} (G:Jj C H q ap last xp) (R:RepM k1 IsItem H d xp) (ok:Pz.ub aC last d) (hne:d≠[]) (hfew:d.flat.length<16000000)
  (k:NO C q ap d xp H Q):nT C [.ref q] H Q E
def vd(h:nT C vs H Q E):vs.length=1:=by cases h;rfl
def Hy(K:Vx):TS:=cL (mC (d_ K (au 0) "piles") (tC (.int 0)))
def Kt(C:Addr):TS:=b8 (eG C "add" (pE C) [] E0 (au 0) (aj (au 2) (aj (au 3) aE)))
def NP(K:Vx)(C:Addr):TS:=aK (d9 (cu K (au 1)) (dQ K 2 (aX (aA 2) (aX (aA 3) dP))) (Kt C)) (Hy K)
def Ku(K:Vx)(C:Addr)(a:TE):TS:=aK (pI K (au 0) a "last") (NP K C)
def FW(K:Vx)(C:Addr)(a:TE):TS:=aK (bb (mC (d_ K (au 0) "piles") (fK FU (aj (zC K "dict" FT (d_ K (au 0) "piles")) aE))) (aA 1)) (Ku K C a)
def Hz(b:TE):Prop:=∀(σ:L2.St)(H:Hp)(a:Addr)(vs:List V)(its:List (Int×Pz.Arr))(Q:VK),σ[1]?=some (some (.ref a))->H a=some (.lst vs)->aL (IsItem H) its vs->its≠[]->its.length<16000000->(∀H',Same H H'->Q (.int (Pz.lo (its.map (·.1)))) H')->b σ H Q
def wG(l:List Int):pY l=Pz.lo l:=by cases l<;>rfl
def Ek{κ:Type}(xs:DX κ):xs.kv.map (·.1)=xs.map (·.1):=by unfold DX.kv;rw[Sf];rfl
def Jj.ne(G:Jj C H q ap last xp)(i:cH ap xp c):c≠q:=λe=>by
 obtain⟨dx,a⟩:=G.ins;rcases i with z|⟨x,b,z⟩
 .have:=G.aG.root;rw[<- z,e,a]at this;cases this
 .have:=G.aG.qU x b;rw[<- z,e,a]at this;cases this
end
section
variable{K:Vx}{C q ap:Addr}{H:Hp}{last:Int}{xp:DX bW}
def lC(m:Int)(d:Pz.Q Pz.Arr)(l:List (Int×Pz.Arr))(x:Int×Pz.Arr):Pz.cK aC m d (l++[x])=(Pz.cK aC m d l).app (aC x.1 m) x:=by unfold Pz.cK;rw[S8];rfl
def qr(s:Same H H'):KT H H':=λa ws e=>s a _ e
variable{D:Ends}{σ:L2.St}{d:Pz.Q Pz.Arr}{H0:Hp}{p:Addr×List V}{i:Nat}{xi:DX bW}
structure Nn(C q ap:Addr) (d:Pz.Q Pz.Arr) (H0:Hp) (xp:DX bW) (p:Addr×List V) (i:Nat) (H:Hp) (xi:DX bW):Prop where
 G:Jj C H q ap (Pz.lowP d) xi
 R:RepM k1 IsItem H (Pz.cK aC (Pz.lowP d) (d.drop (Pz.b9 d)) ((d.get (Pz.b9 d)).take i)) xi
 l:H p.1=some (.lst p.2)
 n:¬cH ap xi p.1
 a:aL (IsItem H) (d.get (Pz.b9 d)) p.2
 sub:∀c,cH ap xi c->cH ap xp c\/H0 c=none
 kp:∀c u,H0 c=some u->¬cH ap xp c->c≠q->H c=some u
def Ng(q:Addr)(l:Addr)(σ:L2.St):Prop:=∃u v,σ=[some (.ref q),some (.ref l),u,v]
def PP(I:Nn C q ap d H0 xp p i H xi)(F:(d.get (Pz.b9 d))[i]?=some x)(h:IsItem H x v)(M:Ng q p.1 σ)(ok:(Pz.cK aC (Pz.lowP d) (d.drop (Pz.b9 d)) ((d.get (Pz.b9 d)).take (i+1))).Ok)(dE:(Pz.cK aC (Pz.lowP d) (d.drop (Pz.b9 d)) ((d.get (Pz.b9 d)).take (i+1))).flat.length<16000000)
 (k:∀o H' r,Ng q p.1 o->Nn C q ap d H0 xp p (i+1) H' r->D.nx o H'):dQ K 2 (aX (aA 2) (aX (aA 3) dP)) v σ H λs N=>Kt C D s N:=by
 obtain⟨t,_,rfl,O,b,rfl,hb⟩:=h;obtain⟨u,w,rfl⟩:=M;refine AK O (sD (.va rfl) I.G.ins rfl (.c (.va rfl) (.c (.va rfl) .ni)) (.mk I.G λl J y j P hm A B f=>?_));have g:KT H y:=I.G.aG.kt (λ_ _ z=>HO.noConfusion z) f;rw[Ry,F,show(some x).toList=[x]from rfl,lC]at ok dE;have E:RepM k1 IsItem y _ (kR xi (.inl (aC x.1 (Pz.lowP d))) l (.ref J)):=I.R.add (k:=aC x.1 (Pz.lowP d)) kT (IsItem.keep g) ⟨J,_,rfl,hm,b,rfl,g _ _ hb⟩;refine k _ y _ ⟨_,_,rfl⟩ ⟨⟨A,B,?_,E.low dE⟩,?_,f _ _ I.l I.n,λz=>?_,I.a.mono (IsItem.keep g),λc z=>?_,λc u e n m=>?_⟩
 .have:=E.len;have:=Pz.gu ok;exact Sm (by lia) dE
 .rw[Ry,F,show(some x).toList=[x]from rfl,lC];exact E
 .rcases iL z with z|z
  .exact I.n z
  .rw[<- z,I.l]at j;cases j
 .rcases iL z with z|rfl
  .exact I.sub c z
  .by_cases L:cH ap xp c
   .exact .inl L
   .refine .inr ?_;cases e:H0 c with
    |none=>rfl
    |some u=>
     by_cases z:c=q
     .obtain⟨_,Q⟩:=I.G.ins;rw[z,Q]at j;cases j
     .rw[I.kp c u e L z]at j;cases j
 .exact f _ _ (I.kp c u e n m) λz=>(I.sub c z).elim n λz=>by rw[z]at e;cases e
theorem wH{κ:Type}[DecidableEq κ]{xs:DX κ}{k:κ}{a c:Addr}(i:cH a (jR xs k) c):cH a xs c:=i.imp id λ⟨x,b,e⟩=>⟨x,(Ru.mp b).1,e⟩
def PQ(T:qN K C)(l:Pz.Jm aC last d)(v:d.flat.length<16000000)(I:Nn C q ap d H0 xp p p.2.length H xi)(x:Ng q p.1 σ)
 (k:NO C q ap d xp H0 D.rt):Hy K D σ H:=by
 obtain⟨u,w,rfl⟩:=x;have f:=I.R;rw[Su (by rw[I.a.len];exact QY _)]at f;have f:RepM k1 IsItem H (Pz.mid aC d) xi:=f;have ha:=I.G.aG.root;obtain⟨y,o⟩:=I.G.ins;rcases f.find kT 0 with⟨_,A,_⟩|⟨p1,r,_,B⟩
 .have:=Pz.has_iff.mpr l.k3;rw[A]at this;cases this
 delta Hy cL mC
 refine Hr (.va rfl) I.G.ins T.cl T.np rfl ⟨ap,rfl,.inl ⟨_,.inl ha⟩,xi.kv,k1 0,.ref p1.1,ha,rfl,(by rw[jo,r];rfl),?_⟩;generalize g:upd H ap (.dK (i5 xi.kv (k1 0)))=j;have b:∀c u,H c=some u->c≠ap->j c=some u:=λc u e n=>by rw[<- g,ai n];exact e
 obtain⟨E,F,J⟩:=I.G.aG.drop (λ_ _ z=>HO.noConfusion z) r (by rw[<- g,ag]) b;have h:KT H j:=λc ws e=>b c _ e λz=>by rw[z,ha]at e;cases e
 have s:RepM k1 IsItem j (Pz.left aC d) (jR xi (k1 0)):=(f.drop kT 0).keep (IsItem.keep h);have t:(Pz.left aC d).flat.length<16000000:=by have:=l.pm.length_eq;rw[Q8]at this;lia
 have:=s.len;have:=Pz.gu l.ok.ok;exact k p1.1 p1.2 _ j ⟨⟨y,b _ _ o λe=>by rw[e,ha]at o;cases o⟩,E,by lia,s.low t⟩ s F (B.mono (IsItem.keep h)) J (I.sub _ (.inr ⟨_,dt r,rfl⟩)) (λc z=>I.sub c (wH z)) λc u e n m=>b _ _ (I.kp c u e n m) λz=>n (.inl z)
theorem tk1(T:qN K C)(HM:Hz tm)(r:Pz.Jm aC last d)(ok:d.Ok)(f:d.flat.length<16000000)(s:∃dx,H q=some (.ins C dx [("last",.int last),("piles",.ref ap)])) (J:DL .dK H ap xi) (R2:RepM k1 IsItem H (d.drop (Pz.b9 d)) xi) (L:∀c,cH ap xp c->c≠q) (v:H p.1=some (.lst p.2)) (E:p.1≠q) (n2:¬cH ap xi p.1) (F:aL (IsItem H) (d.get (Pz.b9 d)) p.2) (sub:∀c,cH ap xi c->cH ap xp c) (kp:∀c u,H0 c=some u->¬cH ap xp c->H c=some u)
 (g:σ=[some (.ref q),some (.ref p.1),none,none]) (k:NO C q ap d xp H0 D.rt):Ku K C tm D σ H:=by
 subst g;obtain⟨dx,s⟩:=s;refine HM _ H p.1 p.2 (d.get (Pz.b9 d)) _ rfl v F r.k2 (Sm (Pz.lZ d _) f) λH3 G=>?_;refine⟨_,rfl,q,C,dx,_,rfl,G _ _ s,T.cl,T.nl,(by show 2<1000;decide),?_⟩;generalize h:upd H3 q (.ins C dx (ga "last" (.int (Pz.lo ((d.get (Pz.b9 d)).map (·.1)))) [("last",.int last),("piles",.ref ap)]))=H4;have b:∀c u,H c=some u->c≠q->H4 c=some u:=λc u e n=>by rw[<- h,ai n];exact G c u e
 have M:H4 q=some (.ins C dx [("last",.int (Pz.lowP d)),("piles",.ref ap)]):=by rw[<- h,ag];rfl
 have j:KT H H4:=λc ws e=>b c _ e λz=>by rw[z,s]at e;cases e
 have ge:∀y∈d.get (Pz.b9 d),Pz.lowP d<=y.1:=λy w=>Pz.AI (Q3.mpr ⟨y,w,rfl⟩);have fl:∀i,((Pz.cK aC (Pz.lowP d) (d.drop (Pz.b9 d)) ((d.get (Pz.b9 d)).take i))).flat.length<16000000:=λi=>by rw[(Pz.ie r.o1.ok).length_eq,Q8];have:=Sj i (d.get (Pz.b9 d));have:=(Pz.kN ok.nk (Pz.b9 d)).length_eq;rw[Q8]at this;lia
 have o:∀i,(Pz.cK aC (Pz.lowP d) (d.drop (Pz.b9 d)) ((d.get (Pz.b9 d)).take i)).Ok:=λi=>(r.o1.cK λx A=>ge x (SM A)).ok;have h3:=fl 0;have h2:=Pz.gu (o 0);have Q:=R2.len;rw[List.take_zero]at h3 h2;have N:(Pz.cK aC (Pz.lowP d) (d.drop (Pz.b9 d)) [])=d.drop (Pz.b9 d):=rfl;rw[N]at h3 h2;refine⟨_,rfl,p.1,rfl,⟨_,SqL.of (b _ _ v E)⟩,cM (K:=K) (a:=p.1) (xs:=p.2) (λi σ t=>Ng q p.1 σ/\∃xi,Nn C q ap d H0 xp p i t xi)
  ⟨⟨none,none,rfl⟩,xi,⟨⟨dx,M⟩,J.keep λc u e i=>b c u e (L c (sub c i)),by lia,R2.low h3⟩,?_,b _ _ v E,n2,F.mono (IsItem.keep j),λc i=>.inl (sub c i),λc u e n m=>b c u (kp c u e n) m⟩
  (λi σ t _ ⟨_,xi,I⟩=>SqL.of I.l) (λi y σ t O ⟨g,xi,I⟩=>?_) λσ t ⟨g,xi,I⟩=>PQ T r f I g k⟩
 .rw[List.take_zero];exact R2.keep (IsItem.keep j)
 .obtain⟨x,A,w⟩:=I.a.get O;exact PP I A w g (o _) (fl _) λP H' B h1 h2=>⟨h1,B,h2⟩
theorem yo(T:qN K C)(t:∀(last:Int)(ap:Addr),List.lookup ("add" : Str) ([("last",V.int last),("piles",V.ref ap)]:List (Str×V))=none) (HM:Hz tm) (h:nT C vs H Q E) :
 FW K C tm {nx:=λ_ H'=>Q .bz H',rt:=Q} (bp ["self","pile","price","thing"] vs) H:=by
 obtain @⟨q,ap,last,xp,d,H,Q,_,G,R,ok,hne,hfew,k⟩:=h;have o:=Pz.yd wF ok hne;have a:=G.aG.root
 delta FW aK bb mC
 refine Hr (.va rfl) G.ins T.cl T.np rfl ⟨ap,rfl,.inl ⟨_,.inl a⟩,Hr (.va rfl) G.ins T.cl T.np rfl ⟨.inr (.inr (.inl ⟨rfl,.inl ⟨_,a⟩⟩)),ap,_,rfl,rfl,a,λv r=>?_⟩⟩;have f:ap≠v:=ax a r;refine⟨v,ap,xp.kv,d.keys,rfl,ag,(by rw[ai f];exact a),(by rw[Ek,R.keys];rfl),(by intro e;exact hne (List.map_eq_nil_iff.mp e)),?_⟩;rcases R.find kT (Pz.b9 d)with⟨_,_,e⟩|⟨w,l,_,x⟩
 .exact(o.k2 e).elim
 refine⟨xp.kv,k1 (Pz.b9 d),.ref w.1,(by rw[ai f];exact a),(by rw[wG];rfl),(by rw[jo,l];rfl),?_⟩;generalize g:upd (upd H v (sF v ap)) ap (.dK (i5 xp.kv (k1 (Pz.b9 d))))=s;have b:∀c u,H c=some u->c≠ap->s c=some u:=λc u e n=>by rw[<- g,ai n,ai (ax e r)];exact e
 obtain⟨y,A,n2⟩:=G.aG.drop (λ_ _ z=>HO.noConfusion z) l (by rw[<- g,ag]) b;have j:KT H s:=λc ws e=>b c _ e λz=>by rw[z,a]at e;cases e
 obtain⟨dx,m⟩:=G.ins;exact tk1 T HM o ok.ok hfew ⟨dx,b _ _ m λe=>by rw[e,a]at m;cases m⟩ y ((R.drop kT _).keep (IsItem.keep j)) (λc=>G.ne) A (G.ne (.inr ⟨_,dt l,rfl⟩)) n2 (x.mono (IsItem.keep j)) (λc=>wH) (λc u e n=>b c u e λz=>n (.inl z)) rfl k
end
structure iX(K:Vx) (C:Addr):Prop where
 cl:qX K C
 nr:NoAttr K C "rules"
 nt:NoAttr K C "told"
 no:NoAttr K C "offers"
 ns:NoAttr K C "settled"
 nl:NoAttr K C "lacking"
def NQ(A:PA):(pf A).lookup ("rules" : Str)=some (V.ref A.ar):=rfl
def El(A:PA):(pf A).lookup ("told" : Str)=some (V.ref A.ta):=rfl
def HA(A:PA):(pf A).lookup ("offers" : Str)=some (V.ref A.aq):=rfl
def Kv(A:PA):(pf A).lookup ("settled" : Str)=some (V.ref A.sa):=rfl
def Kw(A:PA):(pf A).lookup ("lacking" : Str)=some (V.ref A.la):=rfl
def HB(A:PA)(last:Int):(qf A last).lookup ("add" : Str)=none:=rfl
section
variable{K:Vx}
inductive dM(CP CQ:Addr):Sp
 |mk {B H:Hp} {A:PA} {rs:Pz.RS} {S:Pz.PS} {xs xl xr:DX (List bW)} {b:Addr} {a:Pz.Arr} {p:Int} {n m:Option Int} {Q:VK} {E:XK} (P:PAt CP CQ B H A rs S xs xl xr) (hb:H b=some (.tup (nw a))) (f:Pz.jd (Pz.bc aC S a p n m)) (k:∀H',PAt CP CQ B H' A rs (Pz.bc aC S a p n m) xs xl xr->Q .bz H'):dM CP CQ [.ref A.o,.ref b,.int p,vO n,vO m] H Q E
def Kx:R2:=λx y H Q=>y=.bz/\Q (.bl (decide (x=.bz))) H
def HC:OpR X (compareOp .Is) Kx:=Gz
def HD:R2:=ui λi j=>.bl (decide (i<j))
def HE(K:Vx)(CQ:Addr):TS:=aK (oR (d_ K (au 0) "told") (au 1) (cI (aj (au 2) (aj (au 3) (aj (au 4) aE)))))
 (b8 (eG CQ "add" (pE CQ) [] E0 (d_ K (au 0) "offers") (aj (au 2) (aj (au 1) aE))))
def Ky(K:Vx)(CQ:Addr):TS:=d8 (FC (bI (bj Kx (au 5) (tC .bz))) (bI (bj HD (au 2) (bj (kF K) (au 5) (tC (.int 0)))))) (HE K CQ) cq
def AO(K:Vx)(CQ:Addr):TS:=aK (bb (uz (d_ K (au 0) "told") (au 1)) (aA 5)) (Ky K CQ)
def sJ(h:dM CP CQ vs H Q E):vs.length=5:=by cases h;rfl
variable{D:Ends}
theorem bB.fld(P:bB CP CQ B H A rs S xs xl xr xp kt col)(cl:qX K CP)(n:NoAttr K CP f)(a:(pf A).lookup f=some v)(h:σ[i]?=some (some (.ref A.o))):Reads (d_ K (au i) f) σ H v:=.fld (.va h) P.po.ins cl n a
def bB.rd(P:bB CP CQ B H A rs S xs xl xr xp kt col)(cl:qX K CP)(n:NoAttr K CP f)(a:(pf A).lookup f=some v)(h:σ[i]?=some (some (.ref A.o)))(q:Q v H):d_ K (au i) f σ H Q:=P.fld cl n a h _ q
def sK(TP:iX K CP)(P:bB CP CQ B H A rs S xs xl xr xp kt col)(hb:H b=some (.tup (nw a)))(fit:Pz.jd (Pz.ig aC S a p n m))
 (k:∀σ H',PAt CP CQ B H' A rs (Pz.ig aC S a p n m) xs xl xr->D.nx σ H'):HE K CQ D [some (.ref A.o),some (.ref b),some (.int p),some (vO n),some (vO m),some w] H:=by
 delta HE aK oR
 refine oo (.c (.va rfl) (.c (.va rfl) (.c (.va rfl) .ni))) rfl λt i=>?_;have s1:Same H (upd H t (.tup [.int p,vO n,vO m])):=aw i;have s:=P.more s1;have u:=s.po.td;have e:=s1 _ _ hb;have E:kt.length<sizeLine:=by have e1:S.told.length=kt.length:=P.po.tr.len;have e2:=fit.t;have e3:=(Pz.sv S.told a (p,n,m)).1;have e4:(Pz.ig aC S a p n m).told=Pz.tput S.told a (p,n,m):=rfl;rw[e4]at e2;rw[RB];unfold Pz.L at e2;lia
 refine s.rd TP.cl TP.nt (El A) rfl ⟨_,rfl,A.ta,_,rfl,DPut.t (k:=ak a) u e E,?_⟩;have f:=s.tell (a:=a) (x:=(p,n,m)) (p:=t) ag;have j:upd (upd H t (.tup [.int p,vO n,vO m])) A.ta (.dT (bY kt (ak a) (.ref t))) b=some (.tup (nw a)):=by rw[ai (λz=>by rw[z,u]at e;cases e)];exact e
 generalize upd (upd H t (.tup [.int p,vO n,vO m])) A.ta (.dT (bY kt (ak a) (.ref t)))=G at f j;clear s u e s1 E i;have g:=fit.p;have h:=fit.pf;have al:=Pz.eS S.aG (aC p S.last) (p,a);have I:(Pz.ig aC S a p n m).aG=S.aG.app (aC p S.last) (p,a):=rfl;rw[I]at g h;unfold Pz.L at g h;have pr2:RepM k1 IsItem G S.aG xp:=f.p1.r;refine sD (f.fld TP.cl TP.no (HA A) rfl) f.po.C_ (HB A _) (.c (.va rfl) (.c (.va rfl) .ni)) (.mk ⟨f.po.C_,f.p1.d,by rw[<- pr2.len];lia,pr2.low (by lia)⟩ ?_);intro l J H3 v M y N C q;have F:=f.p1.d.kt (λ_ _ z=>HO.noConfusion z) q;exact k _ H3 ⟨_,_,_,f.pile C (pr2.add kT (IsItem.keep F) ⟨J,_,rfl,y,b,rfl,F _ _ j⟩) (λc z=>(iL z).imp id λz=>by rw[z];exact v) q⟩
def AQ(TP:iX K CP)(P:bB CP CQ B H A rs S xs xl xr xp kt col)(hb:H b=some (.tup (nw a)))(fit:Pz.jd (Pz.bc aC S a p n m))
 (k:∀σ H',PAt CP CQ B H' A rs (Pz.bc aC S a p n m) xs xl xr->D.nx σ H'):Ky K CQ D [some (.ref A.o),some (.ref b),some (.int p),some (vO n),some (vO m),some ((cJ kt (ak a)).getD .bz)] H:=by
 unfold Pz.bc at fit k;rcases P.po.tr.find a with⟨e1,e2⟩|⟨v,x,e1,e2,q,rfl,d⟩
 .rw[Re (show Pz.gf S a p=true by unfold Pz.gf;rw[e2])]at fit k;rw[e1];exact⟨_,rfl,rfl,_,rfl,sK TP P hb fit k⟩
 .rw[e1];refine⟨_,rfl,rfl,_,rfl,?_⟩;refine gR (c:=decide (p<x.1)) (.op (.va rfl) (.ix (.va rfl) d rfl) (λ_ q=>⟨p,x.1,rfl,rfl,q⟩)) (λh=>?_) (λh=>?_)
  .rw[Re (show Pz.gf S a p=true by unfold Pz.gf;rw[e2];exact h)]at fit k;exact sK TP P hb fit k
  .rw[Rf λz=>by unfold Pz.gf at z;rw[e2]at z;exact h z]at k;exact k _ H ⟨xp,kt,col,P⟩
def ve(TP:iX K CP)(b:qN K CQ)(h:dM CP CQ vs H Q E):AO K CQ {nx:=λ_ H'=>Q .bz H',rt:=Q} (bp ["self","arrow","price","number","mid","known"] vs) H:=by
 obtain⟨⟨c,kt,a,P⟩,hb,fit,k⟩:=h
 delta AO aK bb uz
 exact P.rd TP.cl TP.nt (El _) rfl ⟨_,rfl,.inr ⟨_,.inl P.po.td⟩,_,rfl,_,DGet.t (k:=ak _) P.po.td hb,AQ TP P hb fit λ_=>k⟩
def qt(P:PAt CP CQ B H A rs S xs xl xr)(f:Pz.jd (Pz.bc aC S a p n m))(h:Reads ta σ H (.ref A.o))(c:Makes te σ H (nw a))(d:∀H',Same H H'->ReadsA tr σ H' [.int p,vO n,vO m])(k:∀H',PAt CP CQ B H' A rs (Pz.bc aC S a p n m) xs xl xr->D.nx σ H') :
 b8 (eG CP "offer" (dM CP CQ) [] E0 ta (aj te tr)) D σ H:=by
 have e:=P;obtain⟨_,_,_,g⟩:=e;obtain⟨dx,i⟩:=g.po.ins;exact h _ ⟨A.o,dx,_,rfl,i,rfl,c _ λq b=>d _ (aw b) _ (.mk (P.more (aw b)) ag f k)⟩
end
section
variable{K:Vx}{CP CQ:Addr}{B H:Hp}{A:PA}{rs:Pz.RS}{S:Pz.PS}{xs xl xr:DX (List bW)}{xp:DX bW}{kt:List (List bW×V)}{col:Addr->Nat}
theorem bB.obj(P:bB CP CQ B H A rs S xs xl xr xp kt col)(hz:H z=none):¬cH A.ap xp z/\¬cH A.sa xs z/\¬cH A.la xl z/\¬cH A.ar xr z/\z≠A.ta/\z≠A.o/\z≠A.aq:=by
 refine⟨λi=>P.p1.d.obj i hz,λi=>P.p2.d.obj i hz,λi=>P.p3.d.obj i hz,λi=>P.p4.d.obj i hz,λe=>?_,λe=>?_,λe=>?_⟩
 .rw[e,P.po.td]at hz;cases hz
 .obtain⟨_,h⟩:=P.po.ins;rw[e,h]at hz;cases hz
 .obtain⟨_,h⟩:=P.po.C_;rw[e,h]at hz;cases hz
def Em{α:Type}{it:Hp->α->V->Prop}(E:∀H H',KT H H'->∀x v,it H x v->it H' x v){a:Addr}{f:Str}{n:DX (List bW)}{d:Pz.MD (Int×Int) α}(P:bB CP CQ B H A rs S xs xl xr xp kt col)(q:DL .dT H a n)(F:RepM k2 it H d n)
 (cl:qX K CP) (G:NoAttr K CP f) (I:(pf A).lookup f=some (V.ref a)) {σ:L2.St} {j:Nat} {b:Addr} {k:Int×Int} (h0:σ[0]?=some (some (.ref A.o))) (J:σ[j]?=some (some (.ref b))) (hb:H b=some (.tup [.int k.1,.int k.2])) {Q:VK}
 (y:∀(l:Addr)(vs:List V)(g H1:Hp),Same H H1->Same B g->KT H1 g->bB CP CQ g H1 A rs S xs xl xr xp kt col->H1 l=some (.lst vs)->(∀h,Same g h->DL .dT h a n->h l=some (.lst vs)/\aL (it h) (d.get k) vs)->Q (.ref l) H1) :
 dG (d_ K (au 0) f) (au j) (dS aE) σ H Q:=by
 delta dG
 refine P.rd cl G I h0 ⟨a,rfl,.inr ⟨_,.inl q.root⟩,_,J,Rh _,λz hz=>?_⟩;have s1:Same H (upd H z (.lst [])):=aw hz;have r:upd H z (.lst []) b=some (.tup ((k2 k).map kV)):=s1 _ _ hb;refine⟨_,DGet.t (s1 _ _ q.root) r,?_⟩;have C:=P.more s1;rcases F.find jp k with⟨i,L,s⟩|⟨p,i,L,s⟩
 .rw[jo,i];obtain⟨g,u,m,D,w⟩:=C.wide (λc=>c=z) λc e=>by subst e;exact P.obj hz
  refine y z [] g _ s1 u m w ag λh s2 _=>⟨s2 _ _ (D z _ rfl ag),?_⟩;rw[s];exact .nil
 .rw[jo,i];obtain⟨g,u,m,D,w⟩:=C.wide (λ_=>False) λ_ e=>e.elim;refine y p.1 p.2 g _ s1 u m w (s1 _ _ (q.qU _ (dt i))) λh s2 M=>⟨M.qU _ (dt i),s.mono (E _ _ λc ws e=>s2 _ _ (m _ _ (s1 _ _ e)))⟩
def Wk(J:L2.It)(g:TG)(tb:TS)(D:Ends)(σ:L2.St)(H:Hp):Prop:=∃W:Nat->Nat->L2.St->Hp->Prop,(∃m,W 0 m σ H)/\∀i m σ H,W i m σ H->
 (J.stop i H/\D.nx σ H)\/(J.go i H/\∃N:L2.St->Hp->Prop,(∀a H',N a H'->∃c,c<m/\W (i+1) c a H')/\∀x H',J.Cv i H x H'->g x σ H' λb d=>tb {D with nx:=N,ct:=N,bk:=D.nx} b d)
def ff{tb:TS}{D:Ends}{σ:L2.St}(h:tl σ H λx H1=>∃a,x=.ref a/\(∃xs,SqL K H1 a xs)/\Wk (CO K a) g tb D σ H1):d9 (cu K tl) g tb D σ H:=h
theorem qu{α:Type}{it:Hp->α->V->Prop}{l:Addr}{vs:List V}{its:List α}{g:TG}{tb:TS}{D:Ends}{σ:L2.St}{H1:Hp}(b:L2.St->Prop)(step:Pz.PS->α->Pz.PS)(S0:Pz.PS)(W:Pz.PS->Hp->Prop)(h0:b σ)(h1:W S0 H1)
 (d:∀S H,W S H->Rd H l (.lst vs)/\aL (it H) its vs)
 (hb:∀(i:Nat)(x:α)(v:V)(σ:L2.St)(H:Hp)(D':Ends),its[i]?=some x->it H x v->b σ->W ((its.take i).foldl step S0) H->(∀c H',b c->W (step ((its.take i).foldl step S0) x) H'->D'.nx c H')->g v σ H λf j=>tb D' f j)
 (hd:∀σ H,b σ->W (its.foldl step S0) H->D.nx σ H):Wk (CO K l) g tb D σ H1:=by
 have m:its.length=vs.length:=(d _ _ h1).2.len;refine cM (K:=K) (a:=l) (xs:=vs) (λi σ H=>b σ/\W ((its.take i).foldl step S0) H) ⟨h0,h1⟩ (λi σ H _ ⟨_,w⟩=>Or.inl (d _ _ w).1) (λi v σ H k ⟨s,w⟩=>?_) λσ H ⟨s,w⟩=>?_
 .obtain⟨x,h,ix⟩:=(d _ _ w).2.get k;have e:(its.take (i+1)).foldl step S0=step ((its.take i).foldl step S0) x:=by rw[Ry,h,S8];rfl
  rw[e];exact hb i x v σ H _ h ix s w λ_ _=>And.intro
 .rw[Su (by lia)]at w;exact hd σ H s w
def qw{α:Type}{it:Hp->α->V->Prop}(z:∀H H',KT H H'->∀x v,it H x v->it H' x v){a:Addr}{f:Str}{t:DX (List bW)}{d:Pz.MD (Int×Int) α}(P:bB CP CQ B H A rs S xs xl xr xp kt col)(C:DL .dT H a t)(E:RepM k2 it H d t)
 (cl:qX K CP) (F:NoAttr K CP f) (G:(pf A).lookup f=some (V.ref a)) {σ:L2.St} {j:Nat} {b:Addr} {k:Int×Int} (h0:σ[0]?=some (some (.ref A.o))) (I:σ[j]?=some (some (.ref b))) (hb:H b=some (.tup [.int k.1,.int k.2])) {g:TG} {tb:TS} {D:Ends} (m:L2.St->Prop) (step:Pz.PS->α->Pz.PS) (W:Hp->Pz.PS->Hp->Prop) (J:m σ)
 (L:∀h H1,bB CP CQ h H1 A rs S xs xl xr xp kt col->W h S H1) (n:∀h T H1,W h T H1->Same h H1/\DL .dT H1 a t)
 (M:∀h (i:Nat) x v σ c (D':Ends),KT H c->(d.get k)[i]?=some x->it c x v->m σ->W h (((d.get k).take i).foldl step S) c->(∀p H',m p->W h (step (((d.get k).take i).foldl step S) x) H'->D'.nx p H')->g v σ c λu H3=>tb D' u H3)
 (hd:∀h σ c,Same B h->KT H c->m σ->W h ((d.get k).foldl step S) c->D.nx σ c):d9 (cu K (dG (d_ K (au 0) f) (au j) (dS aE))) g tb D σ H:=by
 refine ff (Em z P C E cl F G h0 I hb λl vs h H1 s1 N O Q y q=>?_);have r:∀T c,W h T c->KT H c:=λT c w a ws e=>(n h T c w).1 _ _ (O _ _ (s1 _ _ e));exact⟨l,rfl,⟨_,SqL.of y⟩,qu (it:=it) m step S (W h) J (L h H1 Q) (λT c w=>⟨.inl (q c (n h T c w).1 (n h T c w).2).1,(q c (n h T c w).1 (n h T c w).2).2⟩)
  (λi x v σ c D' e1 e2 e3 e4=>M h i x v σ c D' (r _ _ e4) e1 e2 e3 e4) λσ c s w=>hd h σ c N (r _ _ w) s w⟩
def Pg(a:H b=some (.tup [x,y,z]))(k:Q (((σ.set i (some x)).set j (some y)).set l (some z)) H):dQ K 3 (aX (aA i) (aX (aA j) (aX (aA l) dP))) (.ref b) σ H Q:=⟨b,_,rfl,SqT.of a,rfl,_,_,rfl,_,_,rfl,_,_,rfl,rfl,k⟩
def gh{α:Type}{step:Pz.PS->α->Pz.PS}(a:∀S x,Pz.e_ S (step S x)){its:List α}{S0:Pz.PS}(h:Pz.jd (its.foldl step S0)){i:Nat}{x:α}(b:its[i]?=some x):Pz.jd (step ((its.take i).foldl step S0) x):=by
 have e:(its.take (i+1)).foldl step S0=step ((its.take i).foldl step S0) x:=by rw[Ry,b,S8];rfl
 rw[<- e];refine Pz.e_.fit (Pz.cf step a (its.drop (i+1)) _) ?_;rw[<- S8,SU];exact h
def dw:R2:=ui λi j=>.int (i+j)
def Reads.add(h:Reads ta σ H (.int i))(h':Reads tb σ H (.int j)):Reads (bj dw ta tb) σ H (.int (i+j)):=h.op h' λ_ q=>⟨i,j,rfl,rfl,q⟩
inductive ko(CP CQ:Addr):Sp
 |mk {B H:Hp} {A:PA} {rs:Pz.RS} {S:Pz.PS} {xs xl xr:DX (List bW)} {c:Addr} {r:Pz.Rule} {num mid price:Int} {Q:VK} {E:XK} (P:PAt CP CQ B H A rs S xs xl xr) (hr:IsRule H r (.ref c)) (h2:2<=r.2.2.2.length) (f:Pz.jd (Pz.first aC S num r mid price))
  (k:∀H' xl',PAt CP CQ B H' A rs (Pz.first aC S num r mid price) xs xl' xr->Q .bz H'):ko CP CQ [.ref A.o,.int num,.ref c,.int mid,.int price] H Q E
def Kz(K:Vx)(CP CQ:Addr):TS:=b8 (eG CP "offer" (dM CP CQ) [] E0 (au 0) (aj (cI (aj (bj (kF K) (au 2) (tC (.int 0))) (aj (bj (kF K) (au 2) (tC (.int 1))) (aj (au 6) aE))))
 (aj (bj dw (bj dw (au 4) (au 7)) (tC (.int 1))) (aj (au 1) (aj (au 3) aE)))))
def NR(K:Vx)(CP CQ:Addr):TS:=d9 (cu K (dG (d_ K (au 0) "settled") (au 5) (dS aE))) (dQ K 2 (aX (aA 6) (aX (aA 7) dP))) (Kz K CP CQ)
def KA(K:Vx)(CP CQ:Addr):TS:=aK (b8 (nv K (d_ K (au 0) "lacking") (au 5) (cI (aj (au 1) (aj (au 2) (aj (au 4) aE)))))) (NR K CP CQ)
def AR(K:Vx)(CP CQ:Addr):TS:=aK (bb (cI (aj (au 3) (aj (bj (kF K) (bj (kF K) (au 2) (tC (.int 3))) (tC (.int 1))) aE))) (aA 5)) (KA K CP CQ)
def sL(h:ko CP CQ vs H Q E):vs.length=5:=by cases h;rfl
theorem AS(A:PA):(pf A).lookup ("offer" : Str)=none:=rfl
def Eo{l:List Int}(h:2<=l.length):(l.map V.int)[1]?=some (.int (Pz.nth1 l)):=by rcases l with _|⟨_,_|⟨_,_⟩⟩<;>first|rfl|(simp at h)
variable{D:Ends}{σ:L2.St}{b c q:Addr}{r:Pz.Rule}{num mid price:Int}
abbrev Nh(r:Pz.Rule)(num mid price:Int)(S:Pz.PS)(x:Int×Int):Pz.PS:=Pz.bc aC S (r.1,r.2.1,x.1) (price+x.2+1) (some num) (some mid)
def NS(A:PA)(num:Int)(c:Addr)(mid price:Int)(b:Addr)(σ:L2.St):Prop:=∃u v,σ=[some (.ref A.o),some (.int num),some (.ref c),some (.int mid),some (.int price),some (.ref b),u,v]
def HF(P:PAt CP CQ B H A rs S xs xl xr)(h:IsSet H x v)(g:NS A num c mid price b σ)(e:H c=some (.tup [.int r.1,.int r.2.1,.int r.2.2.1,.ref q]))(f:Pz.jd (Nh r num mid price S x))
 (k:∀a H',NS A num c mid price b a->PAt CP CQ B H' A rs (Nh r num mid price S x) xs xl xr->D.nx a H'):dQ K 2 (aX (aA 6) (aX (aA 7) dP)) v σ H λd i=>Kz K CP CQ D d i:=by
 obtain⟨t,rfl,j⟩:=h;obtain⟨u,w,rfl⟩:=g;exact AK j (qt P f (.va rfl) (.t (.c (.ix (.va rfl) e rfl) (.c (.ix (.va rfl) e rfl) (.c (.va rfl) .ni))) rfl) (λ_ _=>.c (.add (.add (.va rfl) (.va rfl)) .k) (.c (.va rfl) (.c (.va rfl) .ni))) λH'=>k _ H' ⟨_,_,rfl⟩)
def HG(TP:iX K CP)(P:bB CP CQ B H A rs S xs xl xr xp kt col)(hb:H b=some (.tup [.int mid,.int (Pz.nth1 r.2.2.2)]))(y:H c=some (.tup [.int r.1,.int r.2.1,.int r.2.2.1,.ref q]))(G:H q=some (.tup (r.2.2.2.map .int)))(fit:Pz.jd (Pz.first aC S num r mid price))(I:σ=[some (.ref A.o),some (.int num),some (.ref c),some (.int mid),some (.int price),some (.ref b),none,none])
 (k:∀m H' n,PAt CP CQ B H' A rs (Pz.first aC S num r mid price) xs n xr->D.nx m H'):KA K CP CQ D σ H:=by
 subst I;have f:Pz.jd (Pz.ql S num r mid price):=Pz.e_.fit (Pz.cf _ (λS x=>Pz.b6 S _ _ _ _) _ _) fit;have C:=f.l;have E:=f.lf;have al:=Pz.eS S.aJ (mid,Pz.nth1 r.2.2.2) (num,r,price);have J:(Pz.ql S num r mid price).aJ=S.aJ.app (mid,Pz.nth1 r.2.2.2) (num,r,price):=rfl;rw[J]at C E;unfold Pz.L at C E;have g:RepM k2 IsLack H S.aJ xl:=P.p3.r;refine qp (a:=A.la) (b:=b) (xs:=xl) (k:=k2 (mid,Pz.nth1 r.2.2.2)) (ws:=[.int num,.ref c,.int price]) P.p3.d (P.fld TP.cl TP.nl (Kw A) rfl) (.va rfl) hb (λH' _=>.t (.c (.va rfl) (.c (.va rfl) (.c (.va rfl) .ni))) rfl) (by rw[<- g.len];lia) (g.low (by lia)) ?_;intro l p M N Q hm hd kp;have e:=P.p3.d.kt (λ_ _ z=>HO.noConfusion z) kp;have u:bB CP CQ B M A rs (Pz.ql S num r mid price) xs _ xr _ _ _:=P.ql hd (g.add (k:=(mid,Pz.nth1 r.2.2.2)) (v:=(num,r,price)) jp (IsLack.keep e) ⟨p,_,rfl,hm,c,q,rfl,e _ _ y,e _ _ G⟩) (λc z=>(iL z).imp id λz=>by rw[z];exact N) kp;exact qw (λH H' k=>IsSet.keep k) u u.p2.d u.p2.r TP.cl TP.ns (Kv A) (j:=5) (k:=(mid,Pz.nth1 r.2.2.2)) rfl rfl (e _ _ hb) (NS A num c mid price b) (Nh r num mid price) (λh T H4=>PAt CP CQ h H4 A rs T xs _ xr) ⟨none,none,rfl⟩ (λh H1 P=>⟨_,_,_,P⟩)
  (λh T H1 ⟨_,_,_,P⟩=>⟨P.same,P.p2.d⟩) (λh i x v σ H4 D' F e1 e2 e3 e4 k=>HF e4 e2 e3 (F _ _ (e _ _ y)) (gh (step:=Nh r num mid price) (λS x=>Pz.b6 S _ _ _ _) fit e1) k) λh σ H4 O F s w=>k σ H4 _ (w.less O)
theorem vf{vs:List V}(TP:iX K CP)(h:ko CP CQ vs H Q E):AR K CP CQ {nx:=λ_ H'=>Q .bz H',rt:=Q} (bp ["self","number","rule","mid","price","start","state","second"] vs) H:=by
 obtain⟨⟨xp,kt,col,P⟩,⟨_,q,e,a,d⟩,h2,fit,k⟩:=h;cases e
 delta AR aK bb
 exact oo (.c (.va rfl) (.c (.ix (.ix (.va rfl) a rfl) d (ce (j:=1) (Eo h2))) .ni)) rfl λb hb=>HG TP (P.more (aw hb)) ag (aw hb _ _ a) (aw hb _ _ d) fit rfl λ_=>k
end
section
variable{K:Vx}{xp:DX bW}{kt:List (List bW×V)}{col:Addr->Nat}
def fB(K:Vx):List V->Hp->VK->Prop:=λxs H Q=>∃p a,xs=[.ref p]/\(SqL K H p a\/SqT K H p a)/\Q (.int a.length) H
def bv:CallR X (.builtin "len") (fB X.K):=call_len_seq
abbrev tI(K:Vx)(i:Nat)(n:Int):TE:=bj (kF K) (au i) (tC (.int n))
def qx(rs:Pz.RS):Prop:=∀k x,x∈rs.get k->1<=x.2.2.2.2.length
inductive iz(CP CQ:Addr):Sp
 |mk {B H:Hp} {A:PA} {rs:Pz.RS} {S:Pz.PS} {xs xl xr:DX (List bW)} {b:Addr} {a:Pz.Arr} {price:Int} {Q:VK} {E:XK} (P:PAt CP CQ B H A rs S xs xl xr) (ha:H b=some (.tup (nw a))) (rok:qx rs) (f:Pz.jd (Pz.settle aC rs S a price))
  (k:∀H' xs' xl',PAt CP CQ B H' A rs (Pz.settle aC rs S a price) xs' xl' xr->Q .bz H'):iz CP CQ [.ref A.o,.ref b,.int price] H Q E
def KB(K:Vx)(CP CQ:Addr):TS:=d8 (bI (bj oK (fK (fB K) (aj (tI K 5 3) aE)) (tC (.int 1))))
 (b8 (eG CP "offer" (dM CP CQ) [] E0 (au 0) (aj (cI (aj (tI K 5 0) (aj (tI K 5 1) (aj (tI K 1 2) aE)))) (aj (bj dw (au 2) (tC (.int 1))) (aj (au 4) (aj (tC .bz) aE))))))
 (b8 (eG CP "settle_first" (ko CP CQ) [] E0 (au 0) (aj (au 4) (aj (au 5) (aj (tI K 1 2) (aj (au 2) aE))))))
def NT(K:Vx)(CP CQ:Addr):TS:=d9 (cu K (dG (d_ K (au 0) "rules") (au 3) (dS aE))) (dQ K 2 (aX (aA 4) (aX (aA 5) dP))) (KB K CP CQ)
def KC(K:Vx)(CP CQ:Addr):TS:=b8 (eG CP "offer" (dM CP CQ) [] E0 (au 0) (aj (cI (aj (tI K 5 0) (aj (tI K 5 1) (aj (tI K 1 2) aE)))) (aj (bj dw (bj dw (au 6) (au 2)) (tC (.int 1))) (aj (au 4) (aj (tI K 1 0) aE)))))
def NU(K:Vx)(CP CQ:Addr):TS:=aK (d9 (cu K (dG (d_ K (au 0) "lacking") (au 3) (dS aE))) (dQ K 3 (aX (aA 4) (aX (aA 5) (aX (aA 6) dP)))) (KC K CP CQ)) (NT K CP CQ)
def KD(K:Vx)(CP CQ:Addr):TS:=aK (b8 (nv K (d_ K (au 0) "settled") (au 3) (cI (aj (tI K 1 2) (aj (au 2) aE))))) (NU K CP CQ)
def wI(K:Vx)(CP CQ:Addr):TS:=aK (bb (cI (aj (tI K 1 0) (aj (tI K 1 1) aE))) (aA 3)) (KD K CP CQ)
def qy(h:iz CP CQ vs H Q E):vs.length=3:=by cases h;rfl
def AT(A:PA):(pf A).lookup ("settle_first" : Str)=none:=rfl
def Reads.len(h:Reads ta σ H (.ref q))(a:H q=some (.tup ws)):Reads (fK (fB K) (aj ta aE)) σ H (.int ws.length):=λ_ k=>h _ ⟨q,ws,rfl,.inr (SqT.of a),k⟩
def Reads.vG(h:Reads ta σ H (.int m))(h':Reads tb σ H (.int n)):Reads (bj oK ta tb) σ H (.bl (decide (m=n))):=h.op h' λ_ q=>⟨rfl,by rw[show decide (V.int m=V.int n)=decide (m=n)from decide_eq_decide.mpr ⟨λe=>by injection e,λe=>by rw[e]⟩];exact q⟩
variable{D:Ends}{σ:L2.St}{b b0:Addr}{a:Pz.Arr}{price:Int}
def JG(A:PA)(b0:Addr)(price:Int)(b:Addr)(σ:L2.St):Prop:=∃u v w,σ=[some (.ref A.o),some (.ref b0),some (.int price),some (.ref b),u,v,w]
def NV(P:PAt CP CQ B H A rs S xs xl xr)(h:IsLack H x v)(i:JG A b0 price b σ)(ha:H b0=some (.tup (nw a)))(f:Pz.jd (Pz.lB aC a price S x))
 (k:∀d H',JG A b0 price b d->PAt CP CQ B H' A rs (Pz.lB aC a price S x) xs xl xr->D.nx d H'):dQ K 3 (aX (aA 4) (aX (aA 5) (aX (aA 6) dP))) v σ H λe j=>KC K CP CQ D e j:=by
 obtain⟨t,_,rfl,l,c,q,rfl,g,m⟩:=h;obtain⟨u,w,z,rfl⟩:=i;exact Pg l (qt P f (.va rfl) (.t (.c (.ix (.va rfl) g rfl) (.c (.ix (.va rfl) g rfl) (.c (.ix (.va rfl) ha rfl) .ni))) rfl) (λ_ s=>.c (.add (.add (.va rfl) (.va rfl)) .k) (.c (.va rfl) (.c (.ix (.va rfl) (s _ _ ha) rfl) .ni))) λH'=>k _ H' ⟨_,_,_,rfl⟩)
def NW(P:PAt CP CQ B H A rs S xs xl xr)(h:IsNum H x v)(m:JG A b0 price b σ)(ha:H b0=some (.tup (nw a)))(p:1<=x.2.2.2.2.length)(f:Pz.jd (Pz.cz aC a price S x))
 (k:∀e H',JG A b0 price b e->(∃d,PAt CP CQ B H' A rs (Pz.cz aC a price S x) xs d xr)->D.nx e H'):dQ K 2 (aX (aA 4) (aX (aA 5) dP)) v σ H λj n=>KB K CP CQ D j n:=by
 obtain⟨t,_,rfl,o,c,q,rfl,i,l⟩:=h;obtain⟨u,w,z,rfl⟩:=m;unfold Pz.cz at f k;have e1:(((x.2.2.2.2.map V.int).length:Nat):Int)=1↔x.2.2.2.2.length=1:=by rw[Q0];lia
 refine AK o (gR (.vG (.len (.ix (.va rfl) i rfl) l) .k) (λh=>?_) λh=>?_)
 .rw[Re (e1.mp (Rr h))]at f k;exact qt P f (.va rfl) (.t (.c (.ix (.va rfl) i rfl) (.c (.ix (.va rfl) i rfl) (.c (.ix (.va rfl) ha rfl) .ni))) rfl) (λ_ s=>.c (.add (.va rfl) .k) (.c (.va rfl) (.c .k .ni))) λH' g=>k _ H' ⟨_,_,_,rfl⟩ ⟨_,g⟩
 .have h1:¬x.2.2.2.2.length=1:=λz=>h (Rm (e1.mpr z));have h2:2<=x.2.2.2.2.length:=by lia
  rw[Rf h1]at f k;have g:=P;obtain⟨_,_,_,Q⟩:=g;exact sD (.va rfl) Q.po.ins (AT A) (.c (.va rfl) (.c (.va rfl) (.c (.ix (.va rfl) ha rfl) (.c (.va rfl) .ni)))) (.mk P ⟨c,q,rfl,i,l⟩ h2 f λH' d g=>k _ H' ⟨_,_,_,rfl⟩ ⟨d,g⟩)
def NY(TP:iX K CP)(P:bB CP CQ B H A rs S xs xl xr xp kt col)(ha:H b0=some (.tup (nw a)))(hb:H b=some (.tup [.int a.1,.int a.2.1]))(F:qx rs)(fit:Pz.jd (Pz.settle aC rs S a price))(R:σ=[some (.ref A.o),some (.ref b0),some (.int price),some (.ref b),none,none,none])
 (k:∀G H' I e,PAt CP CQ B H' A rs (Pz.settle aC rs S a price) I e xr->D.nx G H'):KD K CP CQ D σ H:=by
 subst R;have g2:Pz.e_ ((S.aJ.get (a.1,a.2.1)).foldl (Pz.lB aC a price) (Pz.note S a price)) (Pz.settle aC rs S a price):=Pz.cf _ (Pz.jm a price) _ _;have h:=g2.fit fit;have m:Pz.jd (Pz.note S a price):=Pz.e_.fit (Pz.cf _ (λS x=>Pz.b6 S _ _ _ _) _ _) h;have N:=m.s;have O:=m.sf;have al:=Pz.eS S.settled (a.1,a.2.1) (a.2.2,price);have U:(Pz.note S a price).settled=S.settled.app (a.1,a.2.1) (a.2.2,price):=rfl;rw[U]at N O;unfold Pz.L at N O;have n:RepM k2 IsSet H S.settled xs:=P.p2.r;refine qp (a:=A.sa) (b:=b) (xs:=xs) (k:=k2 (a.1,a.2.1)) (ws:=[.int a.2.2,.int price]) P.p2.d (P.fld TP.cl TP.ns (Kv A) rfl) (.va rfl) hb (λH' kp=>.t (.c (.ix (.va rfl) (kp _ _ ha (λz=>by rw[z,P.p2.d.root]at ha;cases ha)) rfl) (.c (.va rfl) .ni)) rfl) (by rw[<- n.len];lia) (n.low (by lia)) ?_;intro l p V W Z hm hd kp;have f:=P.p2.d.kt (λ_ _ z=>HO.noConfusion z) kp;have y:bB CP CQ B V A rs (Pz.note S a price) _ xl xr _ _ _:=P.Pa hd (n.add (k:=(a.1,a.2.1)) (v:=(a.2.2,price)) jp (IsSet.keep f) ⟨p,rfl,hm⟩) (λc z=>(iL z).imp id λz=>by rw[z];exact W) kp;generalize kR xs (k2 (a.1,a.2.1)) l (.ref p)=q at y;refine qw (λH H' k=>IsLack.keep k) y y.p3.d y.p3.r TP.cl TP.nl (Kw A) (j:=3) (k:=(a.1,a.2.1)) rfl rfl (f _ _ hb) (JG A b0 price b) (Pz.lB aC a price) (λg T H4=>PAt CP CQ g H4 A rs T q xl xr) ⟨none,none,none,rfl⟩ (λg H1 P=>⟨_,_,_,P⟩)
  (λg T H1 ⟨_,_,_,P⟩=>⟨P.same,P.p3.d⟩) (λg i x v σ H4 D' C e1 e2 e3 e4 k=>NV e4 e2 e3 (C _ _ (f _ _ ha)) (gh (step:=Pz.lB aC a price) (λS x=>Pz.b6 S _ _ _ _) h e1) k) λg σ H4 X C s w=>?_
 obtain⟨u,v,z,rfl⟩:=s;obtain⟨_,_,_,J⟩:=w;have M:=C _ _ (f _ _ ha);exact qw (λH H' k=>IsNum.keep k) J J.p4.d J.p4.r TP.cl TP.nr (NQ A) (j:=3) (k:=(a.1,a.2.1)) rfl rfl (C _ _ (f _ _ hb)) (JG A b0 price b) (Pz.cz aC a price) (λg T E=>∃e,PAt CP CQ g E A rs T q e xr) ⟨_,_,_,rfl⟩ (λg H1 P=>⟨_,_,_,_,P⟩)
  (λg T H1 ⟨_,_,_,_,P⟩=>⟨P.same,P.p4.d⟩) (λg i x v σ E D' Q e1 e2 e3 ⟨_,e4⟩ k=>NW e4 e2 e3 (Q _ _ M) (F _ _ (RE e1)) (gh (step:=Pz.cz aC a price) (Pz.jm a price) fit e1) k) λB2 σ E Y Q s ⟨e,w⟩=>k σ E _ e (w.less (X.trans Y))
theorem sM(TP:iX K CP)(h:iz CP CQ vs H Q E):wI K CP CQ {nx:=λ_ H'=>Q .bz H',rt:=Q} (bp ["self","arrow","price","start","number","rule","first"] vs) H:=by
 obtain⟨⟨xp,kt,col,P⟩,ha,d,fit,k⟩:=h
 delta wI aK bb
 exact oo (.c (.ix (.va rfl) ha rfl) (.c (.ix (.va rfl) ha rfl) .ni)) rfl λb hb=>NY TP (P.more (aw hb)) (aw hb _ _ ha) ag d fit rfl λ_=>k
end
section
variable{K:Vx}
def bB.yd(h:bB CP CQ B H A rs S xs xl xr xp kt col)(h0:∃dx,H' A.aq=some (.ins CQ dx (qf A m)))(h1:DL .dK H' A.ap xp')(h2:RepM k1 IsItem H' d' xp')(j:∀c,cH A.ap xp' c->cH A.ap xp c\/H c=none)
 (kp:∀c u,H c=some u->¬cH A.ap xp c->c≠A.aq->H' c=some u):bB CP CQ B H' A rs {S with last:=m,aG:=d'} xs xl xr xp' kt (qq col 1 H):=by
 obtain⟨q,b⟩:=h.po.C_;have k:KT H H':=λc ws e=>kp c _ e (λi=>by
  rcases i with rfl|⟨x,l,rfl⟩
  .rw[h.p1.d.root]at e;cases e
  .rw[h.p1.d.qU x l]at e;cases e) λz=>by rw[z,b]at e;cases e
 have a:∀c u,H c=some u->col c≠1->col c≠7->H' c=some u:=λc u e n o=>kp c u e (λi=>n (h.p1.c c i).1) λz=>o (by rw[z];exact h.po.c7.1);obtain⟨⟨dx,f⟩,_,g,p,c5,c6,c7⟩:=h.po;refine⟨(λc u e=>kp c u (h.same c u e) (λi=>by rw[(h.p1.c c i).2]at e;cases e) λz=>by rw[z,c7.2]at e;cases e),h.p1.new h.same h1 h2 j,h.p2.keep (IsSet.keep k) (λc u e z=>a c u e (by lia) (by lia)) λc=>bD,h.p3.keep (IsLack.keep k) (λc u e z=>a c u e (by lia) (by lia)) λc=>bD,h.p4.keep (IsNum.keep k) (λc u e z=>a c u e (by lia) (by lia)) λc=>bD,⟨dx,a _ _ f (by lia) (by lia)⟩,h0,a _ _ g (by lia) (by lia),p.keep k,?_,?_,?_⟩
 .rw[bD (by rw[g];simp)];exact c5
 .rw[bD (by rw[f];simp)];exact c6
 .rw[bD (by rw[b];simp)];exact c7
inductive tJ(CP CQ:Addr):Sp
 |mk {B H:Hp} {A:PA} {rs:Pz.RS} {S T:Pz.PS} {xs xl xr:DX (List bW)} {n:Nat} {Q:VK} {E:XK} (P:PAt CP CQ B H A rs S xs xl xr) (rok:qx rs) (fit:Pz.jd S) (lp:Pz.Loop aC rs n S T) (k:∀H' xs' xl',PAt CP CQ B H' A rs T xs' xl' xr->Q .bz H'):tJ CP CQ [.ref A.o] H Q E
def KF(K:Vx)(CP CQ:Addr):TS:=d8 (bI (bj oK (bj (kF K) (jE (d_ K (au 0) "told") (au 2)) (tC (.int 0))) (au 1))) (b8 (eG CP "settle" (iz CP CQ) [] E0 (au 0) (aj (au 2) (aj (au 1) aE)))) cq
def KG(K:Vx)(CP CQ:Addr):TS:=d9 (cu K (eG CQ "take_lowest" (nT CQ) [] E0 (d_ K (au 0) "offers") aE)) (dQ K 2 (aX (aA 1) (aX (aA 2) dP))) (KF K CP CQ)
def NZ(K:Vx)(CP CQ:Addr):TS:=kA (rn (tB (eG CQ "is_empty" (kd CQ) [] E0 (d_ K (au 0) "offers") aE))) (KG K CP CQ)
def yp(h:tJ CP CQ vs H Q E):vs.length=1:=by cases h;rfl
def HH(A:PA)(last:Int):(qf A last).lookup ("is_empty" : Str)=none:=rfl
def Ep(A:PA)(last:Int):(qf A last).lookup ("take_lowest" : Str)=none:=rfl
def yq(A:PA):(pf A).lookup ("settle" : Str)=none:=rfl
variable{D:Ends}{σ:L2.St}{T:Pz.PS}{m:Nat}
def KH(A:PA)(σ:L2.St):Prop:=∃u v,σ=[some (.ref A.o),u,v]
def wA(CP CQ:Addr)(B:Hp)(A:PA)(rs:Pz.RS)(a:DX (List bW))(T:Pz.PS)(m:Nat)(σ:L2.St)(H:Hp):Prop:=KH A σ/\∃S xs b,PAt CP CQ B H A rs S xs b a/\Pz.jd S/\Pz.Loop aC rs m S T
def al3(TP:iX K CP)(g:qx rs)(P:PAt CP CQ B H A rs S xs xl xr)(h:IsItem H x v)(l:KH A σ)(n:Pz.bG S.told x.2≠none)(f:Pz.jd (Pz.turn aC rs S x))
 (k:∀e H',KH A e->(∃a d,PAt CP CQ B H' A rs (Pz.turn aC rs S x) a d xr)->D.nx e H'):dQ K 2 (aX (aA 1) (aX (aA 2) dP)) v σ H λi o=>KF K CP CQ D i o:=by
 obtain⟨t,_,rfl,p,b,rfl,hb⟩:=h;obtain⟨u,w,rfl⟩:=l;have j:=P;obtain⟨_,_,_,Q⟩:=j;rcases Q.po.tr.find x.2 with⟨_,e2⟩|⟨_,y,e1,e2,q,rfl,r⟩
 .exact(n e2).elim
 unfold Pz.turn Pz.bM at f k;rw[e2]at f k;refine AK p (gR (.vG (.ix (λ_ z=>Q.fld TP.cl TP.nt (El A) rfl _ ⟨_,rfl,A.ta,.ref q,rfl,by rw[<- e1];exact DGet.t Q.po.td hb,z⟩) r rfl) (.va rfl)) (λh=>?_) λh=>?_)
 .rw[Re h]at f k;exact sD (.va rfl) Q.po.ins (yq A) (.c (.va rfl) (.c (.va rfl) .ni)) (.mk P hb g f λH' a d j=>k _ H' ⟨_,_,rfl⟩ ⟨a,d,j⟩)
 .rw[Rf h]at k;exact k _ H ⟨_,_,rfl⟩ ⟨xs,xl,P⟩
def al2(TP:iX K CP)(q:qx rs)(P:bB CP CQ B H A rs S xs xl xr xp kt col)(fit:Pz.jd S)(O:KH A σ)(t:S.aG≠[])(aW:Pz.ub aC S.last S.aG)(y:∀x∈Pz.dm aC S.aG,Pz.bG S.told x.2≠none)(g:Pz.jd (Pz.batch aC rs (Pz.take aC S) (Pz.dm aC S.aG)))
 (lp:Pz.Loop aC rs m (Pz.batch aC rs (Pz.take aC S) (Pz.dm aC S.aG)) T) (k:∀j H',wA CP CQ B A rs xr T m j H'->D.nx j H'):KG K CP CQ D σ H:=by
 obtain⟨u,v,rfl⟩:=O;have C:RepM k1 IsItem H S.aG xp:=P.p1.r;have Q:=fit.p;have R:=fit.pf;unfold Pz.L at Q R;refine ff (sD (P.fld TP.cl TP.no (HA A) rfl) P.po.C_ (Ep A _) .ni (.mk ⟨P.po.C_,P.p1.d,by rw[<- C.len];lia,C.low (by lia)⟩ C aW t (by lia) ?_));intro l U E H1 J V n W nl il o F;have X:bB CP CQ B H1 A rs (Pz.take aC S) xs xl xr E kt _:=P.yd (m:=Pz.lowP S.aG) (d':=Pz.left aC S.aG) J.ins J.aG V o F;obtain⟨G,Y,Z,w3,P2⟩:=X.wide (λc=>c=l) λc e=>by
  subst e;rcases il with il|il
  .have I:=(P.p1.c c il).1;refine⟨nl,λi=>?_,λi=>?_,λi=>?_,λz=>?_,λz=>?_,λz=>?_⟩
   .have:=(P.p2.c c i).1;lia
   .have:=(P.p3.c c i).1;lia
   .have:=(P.p4.c c i).1;lia
   .have:=P.po.c5.1;rw[z]at I;lia
   .have:=P.po.c6.1;rw[z]at I;lia
   .have:=P.po.c7.1;rw[z]at I;lia
  .exact⟨nl,(P.obj il).2⟩
 have M:∀h a,(∃b f,PAt CP CQ G a A rs h b f xr)->Same G a:=λh a ⟨_,_,_,_,_,P⟩=>P.same;exact⟨l,rfl,⟨_,SqL.of n⟩,qu (it:=IsItem) (KH A) (Pz.turn aC rs) (Pz.take aC S) (λh a=>∃b f,PAt CP CQ G a A rs h b f xr) ⟨_,_,rfl⟩ ⟨xs,xl,_,_,_,P2⟩ (λh a w=>⟨.inl (M h a w _ _ (w3 l _ rfl n)),W.mono (IsItem.keep λc ws e=>M h a w _ _ (Z _ _ e))⟩)
  (λi x v σ a D' N ix s ⟨_,_,w⟩ k=>al3 TP q w ix s (Pz.ii _ (λS x k=>Pz.Ed k) _ _ (y x (RE N))) (gh (step:=Pz.turn aC rs) Pz.yg g N) k) λσ a s ⟨b,f,w⟩=>k σ a ⟨s,_,b,f,w.less Y,g,lp⟩⟩
theorem AU(TP:iX K CP)(h:tJ CP CQ vs H Q E):NZ K CP CQ {nx:=λ_ H'=>Q .bz H',rt:=Q} (bp ["self","price","arrow"] vs) H:=by
 obtain @⟨B,H,A,rs,S,T,xs,c,xr,n,Q,E,P,rok,fit,lp,k⟩:=h;refine⟨wA CP CQ B A rs xr T,⟨n,⟨none,none,rfl⟩,S,xs,c,P,fit,lp⟩,?_⟩;clear P lp fit;rintro m σ H ⟨i,S,xs,c,⟨j,kt,f,P⟩,fit,lp⟩;have h0:σ[0]?=some (some (.ref A.o)):=by obtain⟨_,_,rfl⟩:=i;rfl
 have el:j.kv.length=S.aG.length:=by unfold DX.kv;rw[Q0,<- P.p1.r.len]
 obtain⟨q,l⟩:=P.po.C_;have s:=fit.p;unfold Pz.L at s;refine sD (P.fld TP.cl TP.no (HA A) h0) ⟨q,l⟩ (HH A _) .ni (.mk l P.p1.d.root (by rw[el,RB];lia) ⟨_,rfl,?_⟩);rw[el];cases lp with
 |done e=>rw[e];exact di (k H xs c ⟨j,kt,f,P⟩)
 |@step m _ _ a aW g _ b lp=>rw[RK λz=>a (RJ.mp z)];exact iT ⟨wA CP CQ B A rs xr T m,λt H' h'=>⟨m,SQ _,h'⟩,al2 TP rok P fit i a aW g b lp λ_ _=>id⟩
end
section
variable{K:Vx}{H:Hp}
theorem wJ{tb:TS}{D:Ends}{σ:L2.St}{H1:Hp}(b:L2.St->Prop)(W:Nat->Hp->Prop)(h0:b σ)(h1:W 0 H1)(f:∀i H,W i H->SqL K H l vs)
 (hb:∀(i:Nat)(v:V)(p:Addr)(σ:L2.St)(H:Hp)(D':Ends),vs[i]?=some v->H p=none->b σ->W i H->(∀a H',b a->W (i+1) H'->D'.nx a H')->g (.ref p) σ (upd H p (.tup [.int (i:Nat),v])) λd h=>tb D' d h)
 (hd:∀σ H,b σ->W vs.length H->D.nx σ H):Wk (Nd K l) g tb D σ H1:=by
 refine⟨λi m σ H=>m=vs.length-i/\i<=vs.length/\b σ/\W i H,⟨vs.length,by simp,Rh _,h0,h1⟩,?_⟩;rintro i m σ H ⟨rfl,n,s,w⟩;have q:=f i H w;by_cases c:i<vs.length
 .refine .inr ⟨⟨vs,vs[i],q,by simp[c]⟩,λa H'=>b a/\W (i+1) H',λa H' j=>⟨vs.length-(i+1),by lia,rfl,c,j⟩,λx H' y=>?_⟩;obtain⟨p,v,k,rfl,rfl,y⟩:=y;exact hb i v p σ H _ (y vs q) k s w λ_ _=>And.intro
 .have e:i=vs.length:=by lia
  subst e;exact .inl ⟨⟨vs,q,QY _⟩,hd σ H s w⟩
def pz{tb:TS}{D:Ends}{σ:L2.St}(h:ta σ H λvs H1=>∃a xs,vs=[.ref a]/\SqL K H1 a xs/\Wk (Nd K a) g tb D σ H1):d9 (wy K ta) g tb D σ H:=h
theorem vg:∀(l:List Pz.Rule)(k i:Nat),(Pz.en l k)[i]?=(l[i]?).map λr=>(((k+i:Nat):Int),r)
 |[],k,i=>by simp[Pz.en]
 |r::l,k,0=>by simp[Pz.en]
 |r::l,k,i+1=>by show(Pz.en l (k+1))[i]?=(l[i]?).map _;rw[vg l];congr 1;funext r;congr 2;lia
def wK{a:Type}(f:a->Int×Pz.Rule->a)(b:a){l:List Pz.Rule}{i:Nat}{r:Pz.Rule}(h:l[i]?=some r):((Pz.en l 0).take (i+1)).foldl f b=f (((Pz.en l 0).take i).foldl f b) ((i:Int),r):=by
 have e:(Pz.en l 0)[i]?=some ((i:Int),r):=by rw[vg,h];simp
 rw[Ry,e,S8];rfl
structure cV(H:Hp) (RL:List Pz.Rule) (p l:Addr) (vs:List V):Prop where
 tup:∃w0 w1,H p=some (.tup [w0,w1,.ref l])
 lst:Rd H l (.lst vs)
 its:aL (IsRule H) RL vs
def aT(s:Same H H')(h:Rd H a u):Rd H' a u:=h.imp (s a _) λ⟨o,e⟩=>⟨o,s a _ e⟩
def cV.same(h:cV H RL p l vs)(s:Same H H'):cV H' RL p l vs:=⟨let ⟨a,b,e⟩:=h.tup;⟨a,b,s _ _ e⟩,aT s h.lst,h.its.mono (IsRule.keep (qr s))⟩
inductive CD:Sp
 |mk {RL:List Pz.Rule} {p l:Addr} {ws:List V} {H:Hp} {Q:VK} {E:XK} (G:cV H RL p l ws) (bE:RL.length<16000000) (k:∀(ar:Addr)(xr:DX (List bW))(H':Hp),Same H H'->DL .dT H' ar xr->RepM k2 IsNum H' (Pz.bN RL) xr->(∀c,cH ar xr c->H c=none)->Q (.ref ar) H'):CD [.ref p] H Q E
def JH:R2:=ui λi j=>.bl (decide (j<i))
def KI(K:Vx):TS:=d8 (bI (bj JH (fK (fB K) (aj (tI K 3 3) aE)) (tC (.int 0)))) (b8 (nv K (au 1) (cI (aj (tI K 3 2) (aj (bj (kF K) (tI K 3 3) (tC (.int 0))) aE))) (cI (aj (au 2) (aj (au 3) aE))))) cq
def N0(K:Vx):TS:=aK (d9 (wy K (aj (tI K 0 2) aE)) (dQ K 2 (aX (aA 2) (aX (aA 3) dP))) (KI K)) (cL (au 1))
def PR(K:Vx):TS:=aK (bb fV (aA 1)) (N0 K)
def AV(h:CD vs H Q E):vs.length=1:=by cases h;rfl
def yr(c:Reads to σ H (.ref a))(d:H a=some (.dT kvs))(e:Makes tk σ H ks)(h:∀b,H b=none->nv K (tC (.ref a)) (tC (.ref b)) te σ (upd H b (.tup ks)) Q):nv K to tk te σ H Q:=c _ ⟨.inr (.inr (.inl ⟨rfl,.inr ⟨_,d⟩⟩)),e _ λb hb=>(h b hb).2⟩
theorem HI{m:Type}{it:Hp->m->V->Prop}(kp:∀{H H':Hp},KT H H'->∀a v,it H a v->it H' a v){to tk te:TE}{σ:L2.St}{ar:Addr}{g:DX (List bW)}{d:Pz.MD (Int×Int) m}{k:Int×Int}{v:m}{ws:List V}{C:Hp->Prop}(j:DL .dT H ar g)(R2:RepM k2 it H d g)(ok:d.Ok)(dE:d.flat.length<16000000)(w:Reads to σ H (.ref ar))(x:Makes tk σ H [.int k.1,.int k.2])(hm:∀H',KT H H'->Makes te σ H' ws)(y:∀p H',KT H H'->H' p=some (.tup ws)->it H' v (.ref p))
 (A:∀H' f,DL .dT H' ar f->RepM k2 it H' (d.app k v) f->(∀c,cH ar f c->cH ar g c\/H c=none)->(∀c u,H c=some u->¬cH ar g c->H' c=some u)->C H'):nv K to tk te σ H λ_ H'=>C H':=by
 refine yr w j.root x λb hb=>?_;have l:=aw (o:=HO.tup [.int k.1,.int k.2]) hb;refine qp (a:=ar) (b:=b) (xs:=g) (k:=k2 k) (ws:=ws) (j.keep λc u e _=>l c u e) .k .k ag (λH' kp=>hm H' λc vs e=>kp c _ (l _ _ e) λz=>by rw[z,j.root]at e;cases e) (by rw[<- R2.len];have:=Pz.gu ok;lia) (R2.low dE) ?_;intro E B n q D r s t;have h:∀c u,H c=some u->¬cH ar g c->n c=some u:=λc u e=>t c u (l _ _ e);have i:=j.kt (λ_ _ z=>HO.noConfusion z) h;exact A n _ s (R2.add (k:=k) (v:=v) jp (kp i) (y B n i r)) (λc z=>(iL z).imp id λz=>by rw[z];exact l.free q) h
variable{D:Ends}{σ:L2.St}{p ar pp c q:Addr}{r:Pz.Rule}{n:Int}{xr:DX (List bW)}{d:Pz.RS}
def N1(p ar:Addr)(σ:L2.St):Prop:=∃u v,σ=[some (.ref p),some (.ref ar),u,v]
def PU(o:DL .dT H ar xr)(R2:RepM k2 IsNum H d xr)(ok:d.Ok)(dE:d.flat.length<16000000)(s:N1 p ar σ)(g:H pp=some (.tup [.int n,.ref c]))(f:H c=some (.tup [.int r.1,.int r.2.1,.int r.2.2.1,.ref q]))(i:H q=some (.tup (r.2.2.2.map .int)))
 (k:∀b H' a,N1 p ar b->DL .dT H' ar a->RepM k2 IsNum H' (Pz.fP d (n,r)) a->(∀c,cH ar a c->cH ar xr c\/H c=none)->(∀c u,H c=some u->¬cH ar xr c->H' c=some u)->D.nx b H'):dQ K 2 (aX (aA 2) (aX (aA 3) dP)) (.ref pp) σ H λl A=>KI K D l A:=by
 obtain⟨u,w,rfl⟩:=s;have e2:(0:Int)<(((r.2.2.2.map V.int).length:Nat):Int)↔r.2.2.2.length>0:=by rw[Q0];lia
 unfold Pz.fP at k;refine AK g (gR (.op (.len (.ix (.va rfl) f rfl) i) .k λ_ q=>⟨_,_,rfl,rfl,q⟩) (λh=>?_) λh=>?_)
 .have h1:=e2.mp (Rr h);rw[Re h1]at k;have m:(r.2.2.2.map V.int)[0]?=some (.int (r.2.2.2[0]?.getD 0)):=by
   cases B:r.2.2.2 with
   |nil=>rw[B]at h1;simp at h1
   |cons x y=>rfl
  exact HI (k:=(r.2.2.1,r.2.2.2[0]?.getD 0)) (v:=(n,r)) (λk=>IsNum.keep k) o R2 ok dE (.va rfl) (.t (.c (.ix (.va rfl) f rfl) (.c (.ix (.ix (.va rfl) f rfl) i (ce (j:=0) m)) .ni)) rfl) (λH' _=>.t (.c (.va rfl) (.c (.va rfl) .ni)) rfl) (λp H' kt hm=>⟨p,_,rfl,hm,c,q,rfl,kt _ _ f,kt _ _ i⟩) λH' a=>k _ H' a ⟨_,_,rfl⟩
 .rw[Rf λz=>h (Rm (e2.mpr z))]at k;exact k _ H _ ⟨_,_,rfl⟩ o R2 (λc=>.inl) λc u e _=>e
theorem Er{Q:VK}{E:XK}(h:CD vs H Q E):PR K {nx:=λ_ H'=>Q .bz H',rt:=Q} (bp ["house","rules","number","rule"] vs) H:=by
 obtain @⟨RL,p,l,ws,H,Q,E,G,bE,k⟩:=h;intro ar j;have s1:Same H (upd H ar (.dT [])):=aw j;obtain⟨P,R,B⟩:=(G.same s1).tup;have bl:∀i,(((Pz.en RL 0).take i).foldl Pz.fP []).Ok/\(((Pz.en RL 0).take i).foldl Pz.fP []).flat.length<16000000:=λi=>by obtain⟨a,b⟩:=Pz.u7 ((Pz.en RL 0).take i) [] Pz.sC;have h1:=Sj i (Pz.en RL 0);rw[Pz.nj]at h1;have h2:(Pz.MD.flat ([]:Pz.RS)).length=0:=rfl;exact⟨a,by lia⟩
 refine pz (ReadsA.c (.ix (.va (i:=0) rfl) B (v:=.ref l) rfl) .ni _ ⟨l,ws,rfl,.inl (aT s1 G.lst),?_⟩);refine wJ (N1 p ar) (λi g=>∃xr,Same H g/\DL .dT g ar xr/\RepM k2 IsNum g (((Pz.en RL 0).take i).foldl Pz.fP []) xr/\∀c,cH ar xr c->H c=none) ⟨none,none,rfl⟩ ⟨[],s1,⟨ag,λ_ h=>(Rk h).elim,RI,RI⟩,.nil,λc i=>?_⟩ (λi g ⟨xr,s2,_⟩=>.inl (aT s2 G.lst)) (λi v pp σ g D' C m F ⟨xr,s2,s,R2,n2⟩ k=>?_) λσ g ⟨u,w,e⟩ ⟨xr,s2,s,R2,n2⟩=>?_
 .rcases i with rfl|⟨x,I,_⟩
  .exact j
  .exact(Rk I).elim
 .obtain⟨r,J,c,q,rfl,L,M⟩:=G.its.get C;have t:=aw (o:=HO.tup [.int (i:Nat),.ref c]) m;have f:=s2.trans t;rw[wK _ _ J]at k;exact PU (s.keep λc u e _=>t c u e) (R2.keep (IsNum.keep (qr t))) (bl i).1 (bl i).2 F ag (f _ _ L) (f _ _ M) λy H' A h1 h2 h3 N O=>k y H' h1 ⟨A,(λc u e=>O c u (f _ _ e) λz=>by rw[n2 c z]at e;cases e),h2,h3,λc z=>(N c z).elim (n2 c) f.free⟩
 .subst e;rw[Su (by rw[Pz.nj,G.its.len];exact QY _)]at R2;exact⟨_,rfl,k ar xr g s2 s R2 n2⟩
end
section
variable{K:Vx}{CP CQ:Addr}{H:Hp}
inductive kf(CP CQ:Addr):Sp
 |mk {B H:Hp} {RL:List Pz.Rule} {o dx p l:Addr} {ws:List V} {Q:VK} {E:XK} (ho:H o=some (.ins CP dx [])) (sb:Same B H) (nb:B o=none) (G:cV H RL p l ws) (bE:RL.length<16000000) (k:∀(A:PA)(xr:DX (List bW))(H':Hp),A.o=o->PAt CP CQ B H' A (Pz.bN RL) Pz.S0 [] [] xr->Q .bz H'):kf CP CQ [.ref o,.ref p] H Q E
def HJ(K:Vx)(CQ:Addr):TS:=
 aK (pI K (au 0) (bO CD [] E0 (aj (au 1) aE)) "rules")
 (aK (pI K (au 0) fV "told")
 (aK (pI K (au 0) (vT CQ (kg CQ) [] E0 aE) "offers")
 (aK (pI K (au 0) fV "settled")
 (pI K (au 0) fV "lacking"))))
def sN(h:kf CP CQ vs H Q E):vs.length=2:=by cases h;rfl
def vh(TP:iX K CP)(h:kf CP CQ vs H Q E):HJ K CQ {nx:=λ_ H'=>Q .bz H',rt:=Q} (bp N vs) H:=by
 obtain @⟨B,H,RL,o,dx,p,l,ws,Q,E,ho,sb,nb,G,bE,k⟩:=h;refine⟨_,rfl,.mk G bE λar xr H1 s1 D1 R1 n1=>?_⟩;have ho1:=s1 _ _ ho;have Y:∀c,cH ar xr c->c≠o:=λc i z=>by grind
 refine⟨_,rfl,o,CP,dx,_,rfl,ho1,TP.cl,TP.nr,(by grind),?_⟩;generalize Z:upd H1 o (.ins CP dx (ga "rules" (.ref ar) []))=H2;have F:H2 o=some (.ins CP dx [("rules",.ref ar)]):=by rw[<- Z,ag];rfl
 have I:∀c u,H1 c=some u->c≠o->H2 c=some u:=λc u e n=>by rw[<- Z,ai n];exact e
 intro ta g;have e3:upd H2 ta (.dT []) o=some (.ins CP dx [("rules",.ref ar)]):=by rw[ai (ax F g)];exact F
 refine⟨_,rfl,o,CP,dx,_,rfl,e3,TP.cl,TP.nt,(by grind),?_⟩;generalize J:upd (upd H2 ta (.dT [])) o (.ins CP dx (ga "told" (.ref ta) [("rules",.ref ar)]))=H4;have f:ta≠o:=(ax F g).symm;have ho4:H4 o=some (.ins CP dx [("rules",.ref ar),("told",.ref ta)]):=by rw[<- J,ag];rfl
 have ta4:H4 ta=some (.dT []):=by rw[<- J,ai f,ag]
 have kp4:∀c u,H2 c=some u->c≠o->H4 c=some u:=λc u e n=>by rw[<- J,ai n,ai (ax e g)];exact e
 intro aq dq L hdq ndq;refine .mk ag λap M t hq5 hp5 kp5=>⟨rfl,?_⟩;have j:∀c u,H4 c=some u->M c=some u:=λc u e=>kp5 c u (by rw[ai (ax e L),ai (ax e hdq)];exact e) (ax e L);have ap4:H4 ap=none:=by
  have h1:ap≠aq:=λz=>by grind
  have h2:ap≠dq:=λz=>by rw[z,ai ndq,ag]at t;cases t
  rw[ai h1,ai h2]at t;exact t
 have apq:ap≠aq:=λz=>by grind
 refine⟨_,rfl,o,CP,dx,_,rfl,j _ _ ho4,TP.cl,TP.no,(by grind),?_⟩;generalize hH6:upd M o (.ins CP dx (ga "offers" (.ref aq) [("rules",.ref ar),("told",.ref ta)]))=D;have noq:aq≠o:=λz=>by grind
 have nop:ap≠o:=λz=>by grind
 have v:D o=some (.ins CP dx [("rules",.ref ar),("told",.ref ta),("offers",.ref aq)]):=by rw[<- hH6,ag];rfl
 have kp6:∀c u,M c=some u->c≠o->D c=some u:=λc u e n=>by rw[<- hH6,ai n];exact e
 intro sa w;have y:sa≠o:=(ax v w).symm;refine⟨_,rfl,o,CP,dx,_,rfl,(by rw[ai (ax v w)];exact v),TP.cl,TP.ns,(by grind),?_⟩;generalize O:upd (upd D sa (.dT [])) o (.ins CP dx (ga "settled" (.ref sa) [("rules",.ref ar),("told",.ref ta),("offers",.ref aq)]))=X;have A:X o=some (.ins CP dx [("rules",.ref ar),("told",.ref ta),("offers",.ref aq),("settled",.ref sa)]):=by rw[<- O,ag];rfl
 have sa8:X sa=some (.dT []):=by rw[<- O,ai y,ag]
 have kp8:∀c u,D c=some u->c≠o->X c=some u:=λc u e n=>by rw[<- O,ai n,ai (ax e w)];exact e
 intro la C;have P:la≠o:=(ax A C).symm;refine⟨_,rfl,o,CP,dx,_,rfl,(by rw[ai (ax A C)];exact A),TP.cl,TP.nl,(by grind),?_⟩;generalize R:upd (upd X la (.dT [])) o (.ins CP dx (ga "lacking" (.ref la) [("rules",.ref ar),("told",.ref ta),("offers",.ref aq),("settled",.ref sa)]))=s;have ho9:s o=some (.ins CP dx (pf ⟨o,ta,aq,ap,sa,la,ar⟩)):=by rw[<- R,ag];rfl
 have la9:s la=some (.dT []):=by rw[<- R,ai P,ag]
 have kp9:∀c u,X c=some u->c≠o->s c=some u:=λc u e n=>by rw[<- R,ai n,ai (ax e C)];exact e
 have sa9:=kp9 _ _ sa8 y;have k69:∀c u,D c=some u->c≠o->s c=some u:=λc u e n=>kp9 c u (kp8 c u e n) n;have S:∀c u,M c=some u->c≠o->s c=some u:=λc u e n=>k69 c u (kp6 c u e n) n;have k49:∀c u,H4 c=some u->c≠o->s c=some u:=λc u e n=>S c u (j c u e) n;have T:∀c u,H1 c=some u->c≠o->s c=some u:=λc u e n=>k49 c u (kp4 c u (I c u e n) n) n;have fr:∀c,s c≠none->H c=none->B c=none:=λc _ e=>sb.free e;have oldR:∀c,cH ar xr c->H1 c≠none:=λc i=>D1.obj i;have U:H1 ta=none:=by
  cases e:H1 ta with
  |none=>rfl
  |some u=>rw[I _ _ e f]at g;cases g
 have b:∀c,H4 c=none->c≠o->H1 c=none/\c≠ta:=λc e n=>by
  refine⟨?_,λz=>by grind⟩;cases V:H1 c with
  |none=>rfl
  |some u=>rw[kp4 _ _ (I _ _ V n) n]at e;cases e
 have m:∀c,M c=none->c≠o->H4 c=none/\c≠aq/\c≠ap:=λc e n=>by
  refine⟨?_,(λz=>by grind),λz=>by grind⟩;cases V:H4 c with
  |none=>rfl
  |some u=>rw[j _ _ V]at e;cases e
 have q:∀c,D c=none->M c=none:=λc e=>by
  cases V:M c with
  |none=>rfl
  |some u=>
   by_cases n:c=o
   .rw[n,v]at e;cases e
   .rw[kp6 _ _ V n]at e;cases e
 have W:∀c,X c=none->D c=none/\c≠sa:=λc e=>by
  refine⟨?_,λz=>by grind⟩;cases V:D c with
  |none=>rfl
  |some u=>
   by_cases n:c=o
   .rw[n,A]at e;cases e
   .rw[kp8 _ _ V n]at e;cases e
 obtain⟨la6,la_sa⟩:=W la C;obtain⟨la4,la_aq,la_ap⟩:=m la (q la la6) P;obtain⟨la1,la_ta⟩:=b la la4 P;obtain⟨sa4,sa_aq,sa_ap⟩:=m sa (q sa w) y;obtain⟨sa1,sa_ta⟩:=b sa sa4 y;obtain⟨aq1,aq_ta⟩:=b aq L noq;obtain⟨ap1,ap_ta⟩:=b ap ap4 nop;have d:∀c,H1 c=none->H c=none:=λc e=>s1.free e;have same:Same B s:=λc u e=>T c u (s1 c u (sb c u e)) λz=>by grind
 have r:∀{a c:Addr},cH a ([]:DX (List bW)) c->c=a:=λi=>i.elim id λ⟨x,hx,_⟩=>(Rk hx).elim
 classical
 refine k ⟨o,ta,aq,ap,sa,la,ar⟩ xr s rfl ⟨[],[],λc=>if c=o then 6 else if c=ta then 5 else if c=aq then 7 else if c=ap then 1 else if c=sa then 2 else if c=la then 3 else 4,same,⟨⟨?_,λ_ h=>(Rk h).elim,RI,RI⟩,.nil,λc i=>?_⟩,⟨⟨sa9,λ_ h=>(Rk h).elim,RI,RI⟩,.nil,λc i=>?_⟩,⟨⟨la9,λ_ h=>(Rk h).elim,RI,RI⟩,.nil,λc i=>?_⟩,⟨D1.keep λc u e i=>T c u e (Y c i),R1.keep (IsNum.keep λc ws e=>T c _ e λz=>by grind),λc i=>?_⟩,⟨dx,ho9⟩,⟨dq,S _ _ hq5 noq⟩,k49 _ _ ta4 f,.nil,?_,?_,?_⟩
 .exact S _ _ hp5 nop
 .have:c=ap:=i.elim id λ⟨x,hx,_⟩=>(Rk hx).elim;subst this;exact⟨by grind,sb.free (d _ ap1)⟩
 .have:=r i;dsimp only at this;subst this;exact⟨by grind,sb.free (d _ sa1)⟩
 .have:=r i;dsimp only at this;subst this;exact⟨by grind,sb.free (d _ la1)⟩
 .have hc:=oldR c i;refine⟨?_,sb.free (n1 c i)⟩;rw[Rf (Y c i),Rf (λz=>hc (by grind)),Rf (λz=>hc (by grind)),Rf (λz=>hc (by grind)),Rf (λz=>hc (by grind)),Rf (λz=>hc (by grind))]
 .exact⟨by grind,sb.free (d _ U)⟩
 .exact⟨Re rfl,nb⟩
 .exact⟨by grind,sb.free (d _ aq1)⟩
end
noncomputable def sO(a:Pz.Arr):D:=.tup [.int a.1,.int a.2.1,.int a.2.2]
noncomputable def d4(r:Pz.Rule):D:=.tup [.int r.1,.int r.2.1,.int r.2.2.1,.tup (r.2.2.2.map .int)]
noncomputable def oD:Option Int->D
 |none=>.bz
 |some i=>.int i
def HK(x:Pz.ye):D:=.tup [.int x.1,oD x.2.1,oD x.2.2]
def lD(t:Pz.TD):D:=.qR (t.map λx=>.inr (ak x.1)) (t.map λx=>HK x.2)
def nA(ds:List D)(t:Pz.TD):Prop:=∃(RL:List Pz.Rule)(M:List Pz.Arr)(h0 h1 m0 m2:D)(n:Nat)(T:Pz.PS),ds=[.tup [h0,h1,.lst (RL.map d4)],.tup [m0,.lst (M.map sO),m2]]/\RL.length<16000000/\Pz.jd (Pz.ij aC RL M)/\Pz.Loop aC (Pz.bN RL) n (Pz.ij aC RL M) T/\t=T.told
open Classical in
def KJ(Fr:List D->Res R)(ds:List D):Res R:=match Fr ds with
 |.ok _=>if h:∃t,nA ds t then .ok (.nX (lD (Classical.choose h)))else .stuck
 |.exc c=>.exc c
 |.stuck=>.stuck
theorem nC:∀{ns:List Int}{vs:List V},IsAll H m (ns.map .int) vs->vs=ns.map .int
 |[],vs,h=>h
 |n::ns,vs,h=>by obtain⟨v,r,rfl,h1,h2⟩:=h;rw[nC h2,show v=.int n from h1];rfl
def AW(h:Is H m (d4 r) v):IsRule H r v:=by obtain⟨a,vs,rfl,ha,v0,e,rfl,e0,b,f,rfl,e1,v2,g,rfl,e2,i,j,rfl,⟨q,ws,rfl,c,d⟩,rfl⟩:=h;obtain rfl:v0=.int r.1:=e0;obtain rfl:b=.int r.2.1:=e1;obtain rfl:v2=.int r.2.2.1:=e2;exact⟨a,q,rfl,ha,by rw[c,nC d]⟩
def KM(h:Is H m (sO r) v):IsArr H r v:=by obtain⟨a,vs,rfl,ha,v0,c,rfl,e0,b,d,rfl,e1,v2,e,rfl,e2,rfl⟩:=h;obtain rfl:v0=.int r.1:=e0;obtain rfl:b=.int r.2.1:=e1;obtain rfl:v2=.int r.2.2:=e2;exact⟨a,rfl,ha⟩
theorem wL{α:Type}{H:Hp}{m:Addr->Prop}{f:α->D}{it:α->V->Prop}(a:∀x v,Is H m (f x) v->it x v):∀{xs:List α}{vs:List V},IsAll H m (xs.map f) vs->aL it xs vs
 |[],vs,h=>by cases(show vs=[]from h);exact .nil
 |x::xs,vs,h=>by obtain⟨v,r,rfl,h1,h2⟩:=h;exact .cons (a x v h1) (wL a h2)
def wM(h:Is H m (.lst ds) v):∃a vs,v=.ref a/\Rd H a (.lst vs)/\IsAll H m ds vs:=by obtain⟨a,vs,rfl,h1,h2⟩:=h;exact⟨a,vs,rfl,h1.imp And.left λ⟨o,e,_⟩=>⟨o,e⟩,h2⟩
def N2(RL:List Pz.Rule):qx (Pz.bN RL):=λk x a=>by
 rcases(Pz.qo _ _ _ _).mp a with h|⟨_,y,l,e,_⟩
 .exact(Rk h).elim
 .rw[e];simp
section
variable{K:Vx}{CP CQ:Addr}{H:Hp}
def KN(K:Vx)(CP CQ:Addr):TS:=aK (b8 (eG CP "settle_all" (tJ CP CQ) [] E0 (au 2) aE)) (cL (d_ K (au 2) "told"))
def KO(K:Vx)(CP CQ:Addr):TS:=d8 (bI (bj oK (fK (fB K) (aj (tI K 5 3) aE)) (tC (.int 0))))
 (b8 (eG CP "offer" (dM CP CQ) [] E0 (au 2) (aj (cI (aj (tI K 5 0) (aj (tI K 5 1) (aj (tI K 5 2) aE)))) (aj (tC (.int 1)) (aj (au 4) (aj (tC .bz) aE)))))) cq
def KP(K:Vx)(CP CQ:Addr):TS:=aK (d9 (wy K (aj (tI K 0 2) aE)) (dQ K 2 (aX (aA 4) (aX (aA 5) dP))) (KO K CP CQ)) (KN K CP CQ)
def KQ(CP CQ:Addr):TS:=b8 (eG CP "offer" (dM CP CQ) [] E0 (au 2) (aj (au 3) (aj (tC (.int 0)) (aj (tC .bz) (aj (tC .bz) aE)))))
def KR(K:Vx)(CP CQ:Addr):TS:=aK (d9 (cu K (tI K 1 1)) (aA 3) (KQ CP CQ)) (KP K CP CQ)
def Es(K:Vx)(mg:Str->Option Vz)(Fr:List D->Res R)(CP CQ:Addr)(E:XK):TS:=aK (b8 (bO (oh mg 2 Fr) [] E (aj (au 0) (aj (au 1) aE)))) (aK (bb (vT CP (kf CP CQ) [] E0 (aj (au 0) aE)) (aA 2)) (KR K CP CQ))
def HL(A:PA):(pf A).lookup ("settle_all" : Str)=none:=rfl
def HN(h:RepT H t kt):(t.map λx=>(Sum.inr (ak x.1):DK))=kt.map (λp=>.inr p.1)/\IsAll H m (t.map λx=>HK x.2) (kt.map Prod.snd):=by
 have a:∀o:Option Int,Is H m (oD o) (vO o):=λo=>by cases o<;>rfl
 induction h with
 |nil=>exact⟨rfl,rfl⟩
 |@cons x y _ _ q _ b=>obtain⟨e,p,c,d⟩:=q;exact⟨by rw[Rn,Rn,e,b.1],y.2,_,rfl,⟨p,_,c,d,_,_,rfl,rfl,_,_,rfl,a _,_,_,rfl,a _,rfl⟩,b.2⟩
section
variable{D:Ends}{σ:L2.St}{B:Hp}{A:PA}{rs:Pz.RS}{S T:Pz.PS}{xs xl xr:DX (List bW)}{p0 p1 l lm:Addr}{RL:List Pz.Rule}{M:List Pz.Arr}{ws wm:List V}{n:Nat}
def Et(p0 p1:Addr)(A:PA)(σ:L2.St):Prop:=∃u v w,σ=[some (.ref p0),some (.ref p1),some (.ref A.o),u,v,w]
theorem pr2(P:PAt CP CQ B H A rs S xs xl xr)(h:IsArr H a v)(g:Et p0 p1 A σ)(f:Pz.jd (Pz.gO aC S a))(k:∀d H',Et p0 p1 A d->PAt CP CQ B H' A rs (Pz.gO aC S a) xs xl xr->D.nx d H'):aA 3 v σ H λe i=>KQ CP CQ D e i:=by obtain⟨b,rfl,hb⟩:=h;obtain⟨u,w,z,rfl⟩:=g;have j:=P;obtain⟨_,_,_,Q⟩:=j;exact sD (.va rfl) Q.po.ins (AS A) (.c (.va rfl) (.c .k (.c .k (.c .k .ni)))) (.mk (n:=none) (m:=none) P hb f λH'=>k _ H' ⟨_,_,_,rfl⟩)
def PV(P:PAt CP CQ B H A rs S xs xl xr)(e:H pp=some (.tup [.int i,.ref c]))(b:H c=some (.tup [.int r.1,.int r.2.1,.int r.2.2.1,.ref q]))(g:H q=some (.tup (r.2.2.2.map .int)))(j:Et p0 p1 A σ)(f:Pz.jd (Pz.eJ aC S (i,r)))
 (k:∀a H',Et p0 p1 A a->PAt CP CQ B H' A rs (Pz.eJ aC S (i,r)) xs xl xr->D.nx a H'):dQ K 2 (aX (aA 4) (aX (aA 5) dP)) (.ref pp) σ H λd m=>KO K CP CQ D d m:=by
 obtain⟨u,w,z,rfl⟩:=j;have e2:(((r.2.2.2.map V.int).length:Nat):Int)=0↔r.2.2.2.length=0:=by rw[Q0];lia
 unfold Pz.eJ at f k;refine AK e (gR (.vG (.len (.ix (.va rfl) b rfl) g) .k) (λh=>?_) λh=>?_)
 .rw[Re (e2.mp (Rr h))]at f k;exact qt P f (.va rfl) (.t (.c (.ix (.va rfl) b rfl) (.c (.ix (.va rfl) b rfl) (.c (.ix (.va rfl) b rfl) .ni))) rfl) (λ_ _=>.c .k (.c (.va rfl) (.c .k .ni))) λH'=>k _ H' ⟨_,_,_,rfl⟩
 .rw[Rf λz=>h (Rm (e2.mpr z))]at k;exact k _ H ⟨_,_,_,rfl⟩ P
def PX(TP:iX K CP)(P:PAt CP CQ B H A rs S xs xl xr)(d:qx rs)(fit:Pz.jd S)(lp:Pz.Loop aC rs n S T)(e:Et p0 p1 A σ)(k:∀H' a b,PAt CP CQ B H' A rs T a b xr->D.rt (.ref A.ta) H'):KN K CP CQ D σ H:=by obtain⟨u,w,z,rfl⟩:=e;have c:=P;obtain⟨_,_,_,Q⟩:=c;exact sD (.va rfl) Q.po.ins (HL A) .ni (.mk P d fit lp λH' a b c=>by have f:=c;obtain⟨_,_,_,Q⟩:=f;exact Q.fld TP.cl TP.nt (El A) rfl _ (k H' a b c))
def PY(TP:iX K CP)(G:cV B RL p0 l ws)(P:PAt CP CQ B H A (Pz.bN RL) (M.foldl (Pz.gO aC) Pz.S0) xs xl xr)(fit:Pz.jd (Pz.ij aC RL M))(e:qx (Pz.bN RL))(lp:Pz.Loop aC (Pz.bN RL) n (Pz.ij aC RL M) T)(a:Et p0 p1 A σ)
 (k:∀H' f g,PAt CP CQ B H' A (Pz.bN RL) T f g xr->D.rt (.ref A.ta) H'):KP K CP CQ D σ H:=by
 obtain⟨w,y,h⟩:=(G.same P.same).tup;have h0:σ[0]?=some (some (.ref p0)):=by obtain⟨_,_,_,rfl⟩:=a;rfl
 refine pz (ReadsA.c (.ix (.va h0) h (v:=.ref l) rfl) .ni _ ⟨l,ws,rfl,.inl (aT P.same G.lst),?_⟩);refine wJ (Et p0 p1 A) (λi d=>PAt CP CQ B d A (Pz.bN RL) (((Pz.en RL 0).take i).foldl (Pz.eJ aC) (M.foldl (Pz.gO aC) Pz.S0)) xs xl xr) a P (λi d b=>.inl (aT b.same G.lst)) (λi v z σ d D' s j a b k=>?_) λσ d a b=>?_
 .obtain⟨r,p,c,q,rfl,t,u⟩:=G.its.get s;have m:=b.more (aw (o:=.tup [.int (i:Nat),.ref c]) j);rw[wK (Pz.eJ aC) (M.foldl (Pz.gO aC) Pz.S0) p]at k;exact PV m ag (m.same _ _ t) (m.same _ _ u) a (gh (step:=Pz.eJ aC) (λS x=>by unfold Pz.eJ;split;exact Pz.b6 _ _ _ _ _;exact .refl _) (its:=Pz.en RL 0) fit (by rw[vg,p];simp)) k
 .rw[Su (by rw[Pz.nj,G.its.len];exact QY _)]at b;exact PX TP b e fit lp a k
theorem PZ(TP:iX K CP)(G:cV B RL p0 l ws)(e:B p1=some (.tup [y0,.ref lm,y2]))(d:Rd B lm (.lst wm))(j:aL (IsArr B) M wm)(P:PAt CP CQ B H A (Pz.bN RL) Pz.S0 xs xl xr)(fit:Pz.jd (Pz.ij aC RL M))(f:qx (Pz.bN RL))(lp:Pz.Loop aC (Pz.bN RL) n (Pz.ij aC RL M) T)(b:Et p0 p1 A σ)
 (k:∀H' g h,PAt CP CQ B H' A (Pz.bN RL) T g h xr->D.rt (.ref A.ta) H'):KR K CP CQ D σ H:=by
 have g2:Pz.e_ (M.foldl (Pz.gO aC) Pz.S0) (Pz.ij aC RL M):=Pz.cf _ (λS x=>by unfold Pz.eJ;split;exact Pz.b6 _ _ _ _ _;exact .refl _) _ _;have h1:σ[1]?=some (some (.ref p1)):=by obtain⟨_,_,_,rfl⟩:=b;rfl
 exact ff (Reads.ix (.va h1) (P.same _ _ e) (v:=.ref lm) rfl _ ⟨lm,rfl,⟨wm,.inl (aT P.same d)⟩,qu (it:=IsArr) (Et p0 p1 A) (Pz.gO aC) Pz.S0 (λT H4=>PAt CP CQ B H4 A (Pz.bN RL) T xs xl xr) b P (λp H4 c=>⟨aT c.same d,j.mono (IsArr.keep (qr c.same))⟩)
  (λi a v σ H4 D' m o b c k=>pr2 c o b (gh (step:=Pz.gO aC) (λS x=>Pz.b6 S _ _ _ _) (g2.fit fit) m) k) λσ H4 b c=>PY TP G c fit f lp b k⟩)
end
def sQ{mg:Str->Option Vz}{Fr:List D->Res R}(TP:iX K CP)(h:oh mg 2 (KJ Fr) vs H Q E):Es K mg Fr CP CQ E {nx:=λ_ H'=>Q .bz H',rt:=Q} (bp ["house","machine","pricing","arrow","number","rule"] vs) H:=by
 obtain⟨i,ds,Ma,is,a⟩:=h;obtain⟨v0,j,rfl⟩ : ∃v0 j,vs=[v0,j]:=by rcases vs with _|⟨v0,_|⟨j,_|⟨_,_⟩⟩⟩<;>first|(cases i;done)|exact⟨_,_,rfl⟩
 refine⟨_,rfl,_,rfl,rfl,ds,Ma,is,?_⟩;unfold KJ at a;cases k:Fr ds with
 |stuck=>rw[k]at a;exact a
 |exc c=>rw[k]at a;exact a
 |ok r=>
  rw[k]at a;dsimp only at a;by_cases hex:∃t,nA ds t
  case neg=>rw[dif_neg hex]at a;exact a.elim
  case pos=>
  rw[dif_pos hex]at a;have d:=Classical.choose_spec hex;generalize Classical.choose hex=t at a d;obtain⟨RL,M,Y,Z,m0,m2,n,T,rfl,I,fit,lp,rfl⟩:=d;intro v H1 s1 _;obtain⟨_,_,J,⟨L,_,rfl,p,w0,_,rfl,_,w1,_,rfl,_,w2,_,rfl,q,rfl⟩,_,_,s,⟨p1,_,rfl,w,y0,_,rfl,_,y1,_,rfl,y,y2,_,rfl,_,rfl⟩,rfl⟩:=is;cases J;cases s;obtain⟨l,ws,rfl,i,N⟩:=wM q;obtain⟨lm,wm,rfl,z,O⟩:=wM y;have G:cV H RL L l ws:=⟨⟨_,_,p⟩,i,wL (λx v=>AW) N⟩;refine⟨_,rfl,λo dx C B S=>?_⟩;have s2:Same H (upd (upd H1 dx (.own o)) o (.ins CP dx [])):=s1.trans λb u e=>by rw[ai (ax e C),ai (ax e B)];exact e
  refine .mk ag s2 (s1.free C) (G.same s2) I λA xr H3 U P=>⟨rfl,?_⟩;subst U;refine PZ TP G w z (wL (λx v=>KM) O) P fit (N2 RL) lp ⟨none,none,none,rfl⟩ λF V W ⟨_,f,_,g⟩=>?_;obtain⟨X,t2⟩:=HN (m:=nl H F) g.po.tr;exact a _ F g.same ⟨A.ta,f.map Prod.snd,rfl,⟨.inr ⟨f,.inl g.po.td,X,rfl⟩,g.po.c5.2,⟨_,g.po.td,True.intro⟩⟩,t2⟩
end
def AX:∀{n:Nat}{S T:Pz.PS},Pz.Loop pile rs n S T->∀{m:Nat}{b:Pz.PS},Pz.Loop pile rs m S b->T=b:=by
 intro n S T h;induction h with
 |done e=>
  intro m b h';cases h' with
  |done _=>rfl
  |step a=>exact(a e).elim
 |step a _ _ _ _ _ c=>
  intro m b h';cases h' with
  |done e=>exact(a e).elim
  |step _ _ _ _ _ h'=>exact c h'
def yt(h:d4 r=d4 s):r=s:=by
 have a:∀{l m:List Int},l.map D.int=m.map D.int->l=m:=λ{l m} e=>by
  induction l generalizing m with
  |nil=>cases m with
   |nil=>rfl
   |cons _ _=>cases e
  |cons x l b=>cases m with
   |nil=>cases e
   |cons y m=>rw[Rn,Rn]at e;injection e with e1 e2;injection e1 with e1;rw[e1,b e2]
 unfold d4 at h;injection h with h;injection h with h0 h;injection h with h1 h;injection h with h2 h;injection h with h3 h;injection h0 with h0;injection h1 with h1;injection h2 with h2;injection h3 with h3;exact U2 h0 (U2 h1 (U2 h2 (a h3)))
def AY(h:sO r=sO s):r=s:=by unfold sO at h;injection h with h;injection h with h0 h;injection h with h1 h;injection h with h2 h;injection h0 with h0;injection h1 with h1;injection h2 with h2;exact U2 h0 (U2 h1 h2)
theorem qz{α:Type}{f:α->D}(a:∀{x y},f x=f y->x=y):∀{l m:List α},l.map f=m.map f->l=m
 |[],[],_=>rfl
 |[],_::_,e=>nomatch e
 |_::_,[],e=>nomatch e
 |x::l,y::m,e=>by rw[Rn,Rn]at e;injection e with e1 e2;rw[a e1,qz a e2]
structure Mt(K:Vx) (C:Addr) (x q:Str) (st:Stmt) (ps:List Str) (f:Addr) (fd:FuncData):Prop where
 fu:Dc K x q st f fd
 bi:Binds K fd ps []
 me:Meth K C x f
def KU{K:Vx}{C:Addr}{x q:Str}{st:Stmt}{ps:List Str}{f:Addr}{oc:Vz}{od an:Option Addr}{osl:Array (Option Vz)}{kV doc pm cdv ct:Vz}
 (l:K.lookup f=some ⟨oc,od,.func (fnOf x q (dg st) (cF st) (aD st) .none kV doc pm an cdv ct),osl⟩) (c:codeIn K cdv q=true) (k:keepIn K (.ref f)=true) (a:findIn K (.ref C) x=some (some (.ref f))) (i:isFn K (.ref f)=true)
 (h:∀(kV doc pm:Vz)(an:Option Addr)(cdv ct:Vz)(us:List Vz),us.length=ps.length->bindArgs (fnOf x q (dg st) (cF st) (aD st) .none kV doc pm an cdv ct) ⟨us,[]⟩=pure (ps.zip us)) :
 Mt K C x q st ps f (fnOf x q (dg st) (cF st) (aD st) .none kV doc pm an cdv ct):=
 have F:Dc K x q st f _:=zN l c k
 ⟨F,F.binds h,a,i,k⟩
def P0{α:Type}{l:List α}(h:l.length=2):∃a b,l=[a,b]:=by rcases l with _|⟨a,_|⟨b,_|_⟩⟩<;>first|(cases h;done)|exact⟨_,_,rfl⟩
def d5(a:X.calm=true)(S:cj X scope tN capN caps)(b:PI X tg iter wi)(c:autoParam (∀x,foldedSetIterable iter X.env x=pure x) az) :
 PE X (.ListComp elt [⟨tg,iter,ifs,0⟩] scope pos) (ja X scope tg tN capN caps elt ifs wi):=λac s σ H Q I h=>Aw a S I b h c
def FX(K:Vx):List V->Hp->VK->Prop:=λxs H Q=>∃p ns,xs=[.ref p]/\SqL K H p (ns.map V.int)/\ns≠[]/\Q (.int (pY ns)) H
def yu(a:X.calm=true):CallR X (.builtin "min") (FX X.K):=xK a
def yv(h2:tN.length=2)(B:∀cl C g H3 fp,PG (aV X scope (tN++[]) cl C g H3 fp) tg (dQ X.K 2 (aX (aA 0) (aX (aA 1) dP))))(D:∀cl C g H3 fp,PE (aV X scope (tN++[]) cl C g H3 fp) elt (au 0)) :
 Hz (fK (FX X.K) (aj (ja X scope tg tN [] [] elt [] (cu X.K (au 1))) aE)):=by
 intro σ H a vs its Q h1 h v l M k;refine⟨_,h1,a,rfl,⟨_,SqL.of h⟩,?_⟩;intro n q cl C g fp;have E:a≠n:=ax h q;have F:=v.len;refine⟨_,_,_,λi m d H'=>m=its.length-i/\i<=its.length/\d=((its.take i).map λx=>V.int x.1)/\Same H H'/\H' n=some (.lst d),B cl C g _ fp,gs,D cl C g _ fp,⟨its.length,by simp,Rh _,by simp,aw q,ag⟩,?_⟩;rintro i m d H' ⟨rfl,N,rfl,s,b⟩;have f:=s _ _ h;refine⟨b,?_⟩;by_cases r:i<its.length
 .right;have t:i<vs.length:=by lia
  refine⟨⟨vs,vs[i],SqL.of f,by simp[t]⟩,λO G o y z=>?_⟩;obtain⟨rfl,y⟩:=y;have I:=y vs (SqL.of f);obtain⟨x,ex,p,w,rfl,J,_⟩:=v.get I;rw[h2]at z;obtain⟨P,u1,rfl⟩:=P0 z;refine AK (s _ _ J) ⟨λj A=>?_,?_⟩
  .rw[h2]at A;obtain⟨j,rfl⟩:=Sg A;rfl
  .refine iT ?_;refine⟨_,rfl,b,?_,its.length-(i+1),by lia,rfl,r,?_,λc u e=>?_,ag⟩
   .rw[Q0,RB];have:=Sj i its;lia
   .rw[Ry,ex,RX];rfl
   .rw[ai (ax e q)];exact s _ _ e
 .left;have L:i=its.length:=by lia
  subst L;refine⟨⟨vs,SqL.of f,by lia⟩,n,its.map (·.1),rfl,?_,by simpa using l,?_⟩
  .rw[R8]at b;rw[Sf];exact SqL.of b
  .rw[wG];exact k H' s
section
open Classical in
end
def bJ{N P:List Str}{h:Scope}(a:autoParam (h.kind=.function) aM)(b:autoParam (h.isCoroutine=false) aM)(c:autoParam (h.isGenerator=false) aM)(d:N.Nodup:=by decide +kernel)(e:autoParam (N.take P.length=P) aM)
 (f:∀x∈P,h.names.lookup x=some .local\/h.names.lookup x=some .cell:=by decide +kernel) (g:∀y∈h.names,y.2≠.free:=by decide +kernel):aP N P h:=⟨a,b,c,d,e,f,g⟩
abbrev JI(x q:Str)(st:Stmt)(kV doc pm:Vz)(an:Option Addr)(cdv ct:Vz):FuncData:=fnOf x q (dg st) (cF st) (aD st) .none kV doc pm an cdv ct
structure Df(K:Vx) (mg:Str->Option Vz) (x:Str) (st:Stmt) (ps:List Str) where
 f:Addr
 fd:FuncData
 h:Fn K mg x st ps f fd
structure Mf(K:Vx) (C:Addr) (x q:Str) (st:Stmt) (ps:List Str) where
 f:Addr
 fd:FuncData
 h:Mt K C x q st ps f fd
section
variable{K KK:Vx}{x q:Str}{st:Stmt}{f C:Addr}{oc:Vz}{od an:Option Addr}{osl:Array (Option Vz)}{kV doc pm cdv ct:Vz}
def Lk(K:Vx)(x q:Str)(st:Stmt)(f:Addr):Prop:=∃oc od an osl kV doc pm cdv ct,K.lookup f=some ⟨oc,od,.func (JI x q st kV doc pm an cdv ct),osl⟩/\codeIn K cdv q=true
def lk(l:K.lookup f=some ⟨oc,od,.func (JI x q st kV doc pm an cdv ct),osl⟩)(c:codeIn K cdv q=true):Lk K x q st f:=⟨_,_,_,_,_,_,_,_,_,l,c⟩
def FK(K:Vx)(x:Str)(st:Stmt):Prop:=∃f,nsIn K mainGlobals x=some (some (.ref f))/\Lk K x x st f
def fk(a:nsIn K mainGlobals x=some (some (.ref f)))(l:K.lookup f=some ⟨oc,od,.func (JI x x st kV doc pm an cdv ct),osl⟩)(c:codeIn K cdv x=true):FK K x st:=⟨_,a,lk l c⟩
structure MK(K:Vx) (C:Addr) (x q:Str) (st:Stmt) (f:Addr):Prop where
 a:findIn K (.ref C) x=some (some (.ref f))
 i:isFn K (.ref f)=true
 l:Lk K x q st f
 k:keepIn K (.ref f)=true
def mk(a:findIn K (.ref C) x=some (some (.ref f)))(i:isFn K (.ref f)=true)(l:K.lookup f=some ⟨oc,od,.func (JI x q st kV doc pm an cdv ct),osl⟩)(c:codeIn K cdv q=true)(k:keepIn K (.ref f)=true):MK K C x q st f:=⟨a,i,lk l c,k⟩
structure CK(K KK:Vx) (x:Str) (C:Addr):Prop where
 b:nsIn K mainGlobals x=some (some (.ref C))
 pg:plainGet KK C Str.empty=true
 hd:hasDictIn KK C=true
 po:PySem.W.plainOver KK C=true
 sa:findIn KK (.ref C) "__setattr__"=some (some (.builtin "object.__setattr__"))
 m:PySem.W.makesIn KK C=true
 k:keepIn KK (.ref C)=true
def CK.cl(c:CK K KK x C):qX KK C:=⟨c.pg,c.hd,c.po,c.sa⟩
variable{mg:Str->Option Vz}{ps:List Str}{h:Heap}
theorem df(X:K.In h)(G:h.Ns mainGlobals mg)(U:tU K KK)(k:FK K x st)
 (hb:∀(kV doc pm:Vz)(an:Option Addr)(cdv ct:Vz)(us:List Vz),us.length=ps.length->bindArgs (JI x x st kV doc pm an cdv ct) ⟨us,[]⟩=pure (ps.zip us):=by intro _ _ _ _ _ _ us b;rcases us with _|⟨_,_|⟨_,_|⟨_,_|⟨_,_|⟨_,_|⟨_,us⟩⟩⟩⟩⟩⟩<;>first|(cases b;done)|rfl):Nonempty (Df KK mg x st ps):=by
 obtain⟨f,a,oc,od,an,osl,kV,doc,pm,cdv,ct,l,c⟩:=k;exact⟨f,_,Ho U l c (PySem.W.mg_of X G a) hb⟩
theorem mf(k:MK K C x q st f)
 (hb:∀(kV doc pm:Vz)(an:Option Addr)(cdv ct:Vz)(us:List Vz),us.length=ps.length->bindArgs (JI x q st kV doc pm an cdv ct) ⟨us,[]⟩=pure (ps.zip us):=by intro _ _ _ _ _ _ us b;rcases us with _|⟨_,_|⟨_,_|⟨_,_|⟨_,_|⟨_,_|⟨_,us⟩⟩⟩⟩⟩⟩<;>first|(cases b;done)|rfl):∃m:Mf K C x q st ps,m.f=f:=by
 obtain⟨a,i,⟨oc,od,an,osl,kV,doc,pm,cdv,ct,l,c⟩,kp⟩:=k;exact⟨⟨f,_,KU l c kp a i hb⟩,rfl⟩
def KW(c:CK K KK x C)(k:MK KK C "__init__" q st f):Mk KK C f:=⟨c.m,k.a,k.i,c.k⟩
end
end L4
namespace Sp
noncomputable abbrev Arr:=Int×Int×Int
noncomputable abbrev Rule:=Int×Int×Int×List Int
section
variable{κ β:Type}[DecidableEq κ]
def get(d:List (κ×β))(k:κ):Option β:=(d.find? λx=>decide (x.1=k)).map (·.2)
end
structure St where
 tb:List (Int×List (Int×List Int))
 en:List Int
 fo:List (Int×List Int)
 mi:List ((Int×Int)×Int)
 du:List Arr
def row(tb:List (Int×List (Int×List Int)))(s:Int):List (Int×List Int):=(get tb s).getD []
def KY(tb:List (Int×List (Int×List Int)))(s g:Int):List Int:=(get (row tb s) g).getD []
def Ni(S:St)(s:Int):List Int:=(get S.fo s).getD []
def fY(S:St)(a:Arr):Prop:=a.2.2∈KY S.tb a.1 a.2.1
abbrev RS:=List ((Int×Int)×List Rule)
end Sp
namespace Sp
def P3(ro:Int)(S:St)(r:Rule)(t:Int):Prop:=match r.2.2.2 with
 |[]=>r.2.2.1∈Ni S t
 |[x]=>fY S (r.2.2.1,x,t)
 |x::y::_=>∃m,ro<=m/\fY S (r.2.2.1,x,m)/\fY S (m,y,t)
def Eu(rs:RS)(s g:Int):List Rule:=(get rs (s,g)).getD []
def N3(ro:Int)(rs:RS)(S:St)(a:Arr):Prop:=∀r∈Eu rs a.1 a.2.1,P3 ro S r a.2.2
structure J(ro:Int) (rs:RS) (S:St) (pf:Int->Arr->Prop) (pr:Arr->Prop):Prop where
 to:∀a,fY S a->ro<=a.2.2
 mi:∀x∈S.mi,ro<=x.2
 fo:∀s r,r∈Ni S s->r<ro/\ro<=s/\(s∈S.en->r∈S.en)/\∀g t,fY S (s,g,t)->fY S (r,g,t)\/(s,g,t)∈S.du\/pf r (s,g,t)
 dn:∀a,fY S a->N3 ro rs S a\/a∈S.du\/pr a
end Sp
namespace Sp
section
def N4{κ a:Type}(d:List (κ×a)):Prop:=(d.map (·.1)).Nodup
end
end Sp
namespace Sp
theorem nodup_sub{α:Type}[DecidableEq α]:∀{l U:List α},l.Nodup->(∀x∈l,x∈U)->l.length<=U.length
 |[],U,_,_=>Rh _
 |x::l,U,nd,h=>by rw[Se]at nd;have a:=h x (by simp);have:=nodup_sub (l:=l) (U:=U.erase x) nd.2 λy b=>(List.mem_erase_of_ne λe=>nd.1 (by rw[<- e];exact b)).mpr (h y (by simp[b]));rw[List.length_erase_of_mem a]at this;have:=UH a;rw[Rq];lia
def Bx(sg m:Int)(a:Arr):Prop:=(0<=a.1/\a.1<m)/\(0<=a.2.1/\a.2.1<sg)/\0<=a.2.2/\a.2.2<m
structure B(ro n sg:Int) (ks:List (Int×Int)) (t0 pp:List Arr) (S:St):Prop where
 old:∀a,fY S a->ro<=a.1->a.1<n->a∈t0
 bx:∀a,fY S a->Bx sg (n+ks.length) a
 ne1:∀x∈S.tb,x.2≠[]
 ne2:∀s,∀x∈row S.tb s,x.2≠[]
 lf:∀s g,(KY S.tb s g).Nodup
 nd:(pp++S.du).Nodup
 sub:∀a∈pp++S.du,fY S a
 mc:(S.mi.map (·.1)).Nodup
 ms:∀x∈S.mi,x.1∈ks
 mv:∀x∈S.mi,n<=x.2/\x.2<n+S.mi.length
 en:S.en.Nodup
 er:∀e∈S.en,0<=e/\e<n
 fk:N4 S.fo
 fl:∀s,(Ni S s).Nodup
 fr:∀s,∀r∈Ni S s,0<=r/\r<ro
 fs:∀x∈S.fo,0<=x.1/\x.1<n+ks.length
end Sp
namespace Sp
section
variable{ro n sg:Int}
noncomputable def HP(a:List Arr)(es:List Int):Int->List Int->Prop
 |s,[]=>s∈es
 |s,g::w=>∃t,(s,g,t)∈a/\HP a es t w
structure Fw(ro sg n:Int) (RL:List Rule) (ts:List Arr) (es:List Int) (n':Int) (ts':List Arr) (es':List Int):Prop where
 t:∀a∈ts,a∈ts'
 e:∀x∈es,x∈es'
 c:∀r∈RL,r.2.2.2.length<=2->∀w,HP ts' es' r.1 (r.2.1::w)->HP ts' es' r.2.2.1 (r.2.2.2++w)
end
end Sp
namespace L2
open PySem PySem.Spec PySem.Calls PyProof.Rows
section
def nE(hd:(d==sysModules)=false)(m:RawD s.heap d es ep)
 (c:Q (.ref s.heap.objs.size) { s with heap:=s.heap.push { cls:=.type "dict_keyiterator",data:=.fields #[.ref d,.int 0 0,.int es.size 0,.int ep 0] } }):wpAny (model prog w) A (pyIter (.ref d)) Q E s:=by
 obtain⟨o,b,_,a⟩:=id m;refine Ua m.ty F.slot_dict_iter (R7 F.slot_dict_iter m.ty F.entry_dict_iter ?_ (F.args_dict_iter_1 _));unfold Builtin.«dict.__iter__» Builtin.Dict.dictSlotNone;refine KE (KE (Tu m.ty (show wpAny _ _ (pure (Value.ref d)) _ _ s from QX ?_)));show wpAny _ _ (Builtin.Dict.showsAll d >>= _) _ _ s;unfold Builtin.Dict.showsAll;rw[Rf (by grind)];refine KE (QX (KE (TJ b a (KE (UD b a (KE (R3 (QX ⟨_,rfl,"dict_keyiterator",_,⟨_,Rb _ rfl,rfl⟩,F.slot_dict_keyiterator_next.lookup,?_⟩))))))));simpa[rawInt]using c
def gx(y:s.heap.IsKeyIter it d i es.size ep)(m:RawD s.heap d es ep)
 (h1:∀e,es[i]?=some e->∀h',h'.IsKeyIter it d (i+1) es.size ep->Heap.SameBut it s.heap h'->Q (some e.key) {s with heap:=h'})
 (h2:es[i]?=none->A.handled=none/\∀h',Heap.ExtBut it s.heap h'->Q none {s with heap:=h'}):wpAny (model prog w) A (pyNext (.ref it)) Q E s:=by
 obtain⟨o,h,k,hd⟩:=id y;obtain⟨od,f,_,g⟩:=id m;unfold pyNext;refine KE (U3 (SK (name:=Str.ofString "__next__") y.typeIs F.slot_dict_keyiterator_next (R7 F.slot_dict_keyiterator_next y.typeIs F.entry_dict_keyiterator_next ?_ (F.args_dict_keyiterator_next_1 _))));refine KE (QX (KE (KE ?_)))
 first|refine KE (TV y.typeIs (QX ?_))|refine KE (Uu y.typeIs (QX ?_))
 refine KE (Vf h hd ?_);simp only[show Builtin.Dict_items.ownsTuple "dict_keyiterator"=false by decide,Ro,Sx];show wpAny _ _ (if(Value.ref d==Value.none)=true then _ else _) _ _ s;rw[Rf (show ¬((Value.ref d==Value.none)=true)from RF)];refine KE (QX (KE (TJ f g ?_)));rw[Rf (by simp)];refine KE (QX (KE (UD f g ?_)));rw[Rf (by simp)];refine QX ?_;simp only[show ¬((i:Int)<0)from by lia,Sx,T9];cases j:es[i]? with
 |some e=>
  refine KE ?_
  first|refine KE (TV y.typeIs (QX ?_))|refine KE (Uu y.typeIs (QX ?_))
  refine KE (wpAny_isOneOf_keyiter y.typeIs ?_);show wpAny _ _ (setField (.ref it) 1 (rawInt ((i:Int)+1)) >>= _) _ _ s;refine KE (Uk h hd (by simp) ?_);have c:(s.heap.update it (Obj.mapFields (·.setIfInBounds 1 (rawInt ((i:Int)+1))))).IsKeyIter it d (i+1) es.size ep:=⟨_,SJ _ h (UT (UC hd _)),(Obj.cls_mapFields ..).trans k,by rw[UC hd];simp[rawInt]⟩;refine KE (Sk (KE (wpAny_isOneOf_keyiter (s:={s with heap:=s.heap.update it (Obj.mapFields (·.setIfInBounds 1 (rawInt ((i:Int)+1))))}) c.typeIs ?_)));show wpAny _ _ (pure e.key) _ _ _;exact QX (QX ⟨_,rfl,QX (h1 e j _ c (RZ ..))⟩)
 |none=>
  obtain⟨l,n⟩:=h2 j;refine KE ?_
  first|refine KE (TV y.typeIs (QX ?_))|refine KE (Uu y.typeIs (QX ?_))
  show wpAny _ _ (setField (.ref it) 0 .none >>= _) _ _ s;refine KE (Uk h hd (by simp) ?_);show wpAny _ _ (newExc (.type "StopIteration") [] >>= _) _ _ _;refine KE ?_;simp only[newExc,newTuple];refine KE (R3 ?_ (by size_fits));refine KE (m:=firstArgMember _ _) (wpAny_of_eq (a:=Value.none) (by first|rfl|(simp only[firstArgMember];rfl)) ?_);refine R3 ?_ (by size_fits);simp only[raiseNew];refine KE (wpAny_handled ?_);rw[show A.in1.handled=none from l];refine KE (QX (wpAny_throw ?_));refine KE (UX (T:="StopIteration") (b:=true) ⟨_,Rb _ rfl,rfl⟩ isSubtype_stop ?_);exact QX (n _ (((RZ ..).extBut.push _).push _))
end
end L2
namespace L4
open PySem PySem.Spec PyProof.Rows L2 L3
def KT.trans(h:KT H H')(h':KT H' H''):KT H H'':=λa ws e=>h' a ws (h a ws e)
def KT.of(s:Same H H'):KT H H':=λa _ e=>s a _ e
theorem KT.upd(h:H a=some u)(n:∀ws,u≠.tup ws):KT H (upd H a v):=λc ws e=>by rw[ai (λz=>by subst z;rw[h]at e;cases e;exact n _ rfl)];exact e
section
variable{τ:Type}
structure Ln(τ:Type) where
 z:τ->Prop
 c:τ->Option (Addr×HO)
end
inductive Tag where
 |o|ta|en|fo|mi|du|ru
 |row (s:Int)
 |lf (s g:Int)
 |fl (s:Int)
 |rl (k:Int×Int)
structure SA where
 o:Addr
 ta:Addr
 en:Addr
 fo:Addr
 mi:Addr
 du:Addr
 ru:Addr
structure Fx where
 A:SA
 C:Addr
 dx:Addr
 n:Int
 rs:Sp.RS
 RA:Int×Int->Addr
 xs:Int×Int->NX
structure Vr where
 R:Int->Addr
 L:Int->Int->Addr
 F:Int->Addr
 dv:List V
 ue:HO
section
def jx(h:n<15000000):n<sizeLine:=by rw[RB];lia
end
def kU{J:L2.It}{n:Nat}{g:TG}{tb:TS}{D:Ends}{σ:L2.St}{H:Hp}(P:Nat->L2.St->Hp->Prop)(k:P 0 σ H)(c:∀i σ H,P i σ H->i<n->J.go i H)(d:∀σ H,P n σ H->J.stop n H)
 (hb:∀i σ H x H' (D':Ends),i<n->P i σ H->J.Cv i H x H'->(∀a H',P (i+1) a H'->D'.nx a H')->g x σ H' λb f=>tb D' b f) (l:∀σ H,P n σ H->D.nx σ H):∃W:Nat->Nat->L2.St->Hp->Prop,(∃m,W 0 m σ H)/\∀i m σ H,W i m σ H->
 (J.stop i H/\D.nx σ H)\/(J.go i H/\∃N:L2.St->Hp->Prop,(∀a H',N a H'->∃j,j<m/\W (i+1) j a H')/\∀x H',J.Cv i H x H'->g x σ H' λb f=>tb {D with nx:=N,ct:=N,bk:=D.nx} b f):=by
 refine⟨λi m σ H=>m=n-i/\i<=n/\P i σ H,⟨n,by simp,Rh _,k⟩,?_⟩;rintro i m σ H ⟨rfl,o,p⟩;by_cases h:i<n
 .exact .inr ⟨c i σ H p h,P (i+1),λa H' q=>⟨n-(i+1),by lia,rfl,h,q⟩,λx H' y=>hb i σ H x H' _ h p y λ_ _=>id⟩
 .have e:i=n:=by lia
  subst e;exact .inl ⟨d σ H p,l σ H p⟩
end L4
namespace L4
open PySem PySem.Spec PyProof.Rows L2 L3
def aL.vN{α d:Type}{R:α->d->Prop}{xs:List α}{x:α}{c:List d}(h:aL R (xs++[x]) c):∃zs y,c=zs++[y]/\aL R xs zs/\R x y:=by
 induction xs generalizing c with
 |nil=>
  cases h with
  |cons a b=>cases b;exact⟨[],_,rfl,.nil,a⟩
 |cons w xs f=>
  cases h with
  |cons a b=>obtain⟨zs,y,e,h1,h2⟩:=f b;exact⟨_::zs,y,by rw[e];rfl,.cons a h1,h2⟩
section
variable{H:Hp}{s:Int}{la:Addr}
def Kp(la:Addr)(G H:Hp):Prop:=∀c u,G c=some u->c≠la->H c=some u
theorem Kp.of(s:Same G H):Kp la G H:=λc u e _=>s c u e
end
end L4
namespace L4
open PySem PySem.Spec PyProof.Rows L2 L3
section
variable{K:Vx}{H:Hp}{Q:VK}{E:XK}{k:Int×Int}{c p:Addr}
noncomputable def jb{a:Type}(R:Int×Int->a)(k:Int×Int)(p:a):Int×Int->a:=λu=>if u=k then p else R u
inductive nU:Sp
 |mk {c q:Addr} {x y z:V} {H:Hp} {Q:VK} {E:XK} (hc:H c=some (.tup [x,y,z,.ref q])) (k:∀p,H p=none->Q (.ref p) (upd H p (.tup [x,y]))):nU [.ref c] H Q E
def vi(h:nU vs H Q E):vs.length=1:=by cases h;rfl
def KZ(K:Vx):TS:=cL (cI (aj (tI K 0 0) (aj (tI K 0 1) aE)))
theorem yw(h:nU vs H Q E):KZ K {nx:=λ_ H'=>Q .bz H',rt:=Q} (bp ["rule"] vs) H:=by obtain⟨a,k⟩:=h;exact oo (.c (.ix (.va rfl) a rfl) (.c (.ix (.va rfl) a rfl) .ni)) rfl k
end
end L4
namespace L2
open PySem PySem.Spec PySem.Calls PyProof.Rows
def N5(d:Addr)(o:Obj)(u:HO)(kvs:List (List bW×V)):It:=⟨λi H=>H d=some (.bw o u)/\i<kvs.length,λi H x H'=>H'=H/\∃b k v,kvs[i]?=some (k,v)/\x=.ref b/\H b=some (.tup (k.map kV)),λi H=>H d=some (.bw o u)/\kvs.length<=i⟩
def vj{P:Vy}{w:World}{K:Vx}{tg:Expr}{d it:Addr}(hex:o.ExactDict)(hdat:o.data=.dict en ep)(bE:en.size=kvs.length)
 (hent:∀H h,HOk P w H h->H d=some (.bw o u)->∀(i:Nat) p,kvs[i]?=some p->∃e b,en[i]?=some e/\e.key=.ref b/\H b=some (.tup (p.1.map kV))):Turn P w K tg (N5 d o u kvs) [it] it (λi h=>h.IsKeyIter it d i en.size ep) where
 mem:=by simp
 obj:=λi h st b hb=>by
  have e:b=it:=by simpa using hb
  subst e;obtain⟨o,e,c,q⟩:=st;exact⟨o,e,λv z=>by rw[q]at z;cases z⟩
 keep:=λi h h' st k=>st.at λo e=>k it (by simp) o e
 item:=by
  intro X hP hw hK hc i ac s σ H E I hf st hg;subst hP hw hK;obtain⟨hd,hi⟩:=hg;obtain⟨eo,_⟩:=(show ObjOk X.prog X.w H s.heap d (.bw o u)from I.aW d _ hd);obtain⟨f0,f1,f2,f3,f4,f5⟩:=hf it (by simp);have hk:kvs[i]?=some kvs[i]:=by simp[hi]
  obtain⟨e,b,he,hb,hH⟩:=hent H s.heap I.aW hd i _ hk;refine gx st ⟨o,eo,hex,hdat⟩ (λe' e1 h' st' sb=>?_) λz=>by rw[he]at z;cases z
  rw[he]at e1;cases e1;have I1:Inv X ac σ H {s with heap:=h'}:=I.turned (t':=s.toks) (λb o hb e=>(sb.2 b hb).trans e) f0 f1 f3 f4 f5;obtain⟨oi,e2,c,q⟩:=id st';exact⟨_,rfl,zk (s:={s with heap:=h'}) e2 c q (by decide) ⟨.ref b,H,I1,hb,⟨rfl,b,kvs[i].1,kvs[i].2,hk,rfl,hH⟩,st',λb hb=>(hf b hb).1⟩⟩
 done:=by intro X hP hw hK hc i ac s σ H E I hf st hg;subst hP hw hK;obtain⟨hd,hi⟩:=hg;obtain⟨eo,_⟩:=(show ObjOk X.prog X.w H s.heap d (.bw o u)from I.aW d _ hd);obtain⟨f0,f1,f2,f3,f4,f5⟩:=hf it (by simp);refine gx st ⟨o,eo,hex,hdat⟩ (λe e1=>?_) λ_=>⟨I.ok.hd hc,λh' eb=>⟨rfl,I.turned (t':=s.toks) (λb o hb e=>eb b o hb e) f0 f1 f3 f4 f5⟩⟩;rw[UF (by lia)]at e1;cases e1
 self:=λ_ _ _ _ _ st h=>wpAny_pyIter_keyiter st h
section
def wN(X:Cx)(a:TE):TI:=λσ H R=>a σ H λx H1=>∃d kvs u,x=.ref d/\(u=.dT kvs\/(u=.dK []/\kvs=[]))/\H1 d=some u/\∀o,(∀b v,X.H₀ d≠some (.bw b v))->R (N5 d o u kvs) (upd H1 d (.bw o u))
def nF{l:Expr}(z:PE X l tl):PI X tg l (wN X tl):=by
 intro ac s σ H R I h;refine cc (z ac s σ H _ I h) λv s1 ⟨x,H1,t,J,q1⟩=>?_;obtain⟨d,kvs,u,e,A,e1,q⟩:=q1;subst e;cases J;have D:n8 u:=by rcases A with rfl|⟨rfl,_⟩<;>exact True.intro
 have B:∃o,s1.heap.get? d=some o:=by
  rcases A with rfl|⟨rfl,_⟩
  .obtain⟨_,_,_,_,o,_,_,k,_⟩:=(show ObjOk X.prog X.w H1 s1.heap d (.dT kvs)from t.aW d _ e1);exact⟨o,k⟩
  .obtain⟨_,_,_,_,o,_,_,k,_⟩:=(show ObjOk X.prog X.w H1 s1.heap d (.dK [])from t.aW d _ e1);exact⟨o,k⟩
 obtain⟨o,k⟩:=B;have y:=t.bw e1 D k;have m:∀{H h},HOk X.prog X.w H h->H d=some (.bw o u)->(d==sysModules)=false/\∃(en:Array DictEntry)(ep:Nat),o.ExactDict/\o.data=.dict en ep/\en.size=kvs.length/\∀(i:Nat) p,kvs[i]?=some p->∃e b,en[i]?=some e/\e.key=.ref b/\H b=some (.tup (p.1.map kV)):=λ{H h} ok e=>by
  obtain⟨E,C⟩:=(show ObjOk X.prog X.w H h d (.bw o u)from ok d _ e);rcases A with rfl|⟨rfl,rfl⟩
  .obtain⟨_,hd,xs,c,K,en,ep,g,hex,a,n,_,_⟩:=i7 ok (.inr ⟨o,e⟩);rw[E]at g;cases g;refine⟨hd,en,ep,hex,a,by rw[Vb n,Ta c],λi p F=>?_⟩;have z:i<xs.length:=by rw[<- Ta c];exact(Q2.mp F).1
   have C:xs[i]?=some xs[i]:=by simp[z]
   obtain⟨_,hb,O⟩:=c.at i _ _ F C;exact⟨_,_,by rw[entry_at n,C];rfl,rfl,hb⟩
  .obtain⟨_,hd,vs,c,K,en,ep,g,hex,a,_,r,_⟩:=i6 ok (.inr ⟨o,e⟩);rw[E]at g;cases g;cases c;cases G:en.toList with
   |nil=>exact⟨hd,en,ep,hex,a,by rw[<- Sn,G];rfl,λi p e=>by simp at e⟩
   |cons _ _=>rw[G]at r;cases r
 obtain⟨hd,en,ep,hex,a,L,_⟩:=m y.aW ag;refine nE hd ⟨o,k,hex,a⟩ ?_;refine⟨s1.heap.objs.size,[s1.heap.objs.size],_,_,_,rfl,y.kept (t':=s1.toks) λb o e=>QZ _ e,vj hex a L (λH h ok e=>?_),⟨_,Rb _ rfl,rfl,rfl⟩,λb hb=>?_,q o (t.Gi e1 D)⟩
 .obtain⟨_,M,N,_,j,_,f⟩:=m ok e;rw[a]at j;cases j;exact f
 .have e:b=s1.heap.objs.size:=by simpa using hb
  subst e;exact y.tO (QY _) (y.aW.fresh (QY _))
end
end L2
namespace L2
open PySem PySem.Spec PySem.Calls PyProof.Rows ST
section
variable{κ μ:Type}
def d7.own(v:d7 ent es its)(un:CT ent its):∃zs:List (κ×μ),(∀z∈zs,z∈its)/\(zs.map (·.1)).Nodup/\zs.length=es.size/\(∀x∈its,∃y∈zs,y.1=x.1)/\d7 ent es zs:=by
 obtain⟨zs,d,c⟩:=mQ (ent:=ent) (its:=its) es.toList v.el;have k:zs.length=es.size:=by have:=Sy List.length d;rw[Q0,Sn]at this;exact this.symm
 have nd:(zs.map (·.1)).Nodup:=by have pw:=v.pw;rw[d,Sw]at pw;unfold List.Nodup;rw[Sw];exact SV (λ{a b} ha hb g=>g a b rfl rfl (c a ha) (c b hb)) pw
 have al:∀x∈its,∃y∈zs,y.1=x.1:=λx f=>by obtain⟨y,l,e1,e2⟩:=v.all x f;rw[d]at e2;obtain⟨z,hz,e3⟩:=Q3.mp e2;exact⟨z,hz,(un z (c z hz) y l e3).trans e1⟩
 refine⟨zs,c,nd,k,al,⟨λe i=>?_,by lia,v.pw.imp λ{a b} h x j e1 e2 m m2=>h x j e1 e2 (c x m) (c j m2),λx f=>⟨x,f,rfl,?_⟩⟩⟩
 .rw[d]at i;obtain⟨z,hz,e⟩:=Q3.mp i;exact⟨z,hz,e.symm⟩
 .rw[d];exact Q3.mpr ⟨x,f,rfl⟩
end
section
def sR(X:Cx):List V->Hp->VK->Prop:=λxs H Q=>∃l vs its,xs=[.ref l]/\Rd H l (.lst vs)/\TupsIn H vs its/\vs.length<=300/\∀p es,H p=none->d7 (eT X.prog X.w) es its->Q (.ref p) (upd H p (.ext λh=>SetAt X.w h p es))
def pA(a:X.calm=true)(b:X.A.units+64<cLine):CallR X (.type "set") (sR X):=xF a b
def AZ(X:Cx):List V->Hp->VK->Prop:=λxs H Q=>∃p es its,xs=[.ref p]/\H p=some (.ext λh=>SetAt X.w h p es)/\d7 (eT X.prog X.w) es its/\(∀x∈its,H x.2=some (.tup ((iK x.1).map kV)))/\(∀x∈its,x.1≠[])/\(∀l:List (List Int),l.Nodup->(∀k∈l,∃x∈its,x.1=k)->l.length<=63)/\
 ∀l a,H l=none->nR (λx y=>dZ x y=true) its a->Q (.ref l) (upd H l (.lst (a.map λy=>.ref y.2)))
def yx(j:X.calm=true):CallR X (.builtin "sorted") (AZ X):=by
 intro ac s σ H xs us Q I r h;obtain⟨p,es,its,rfl,m,v,g,c,hz,q⟩:=h;have d:=λx a=>dc I.aW (g x a);obtain⟨zs,b,nd,i,al,v2⟩:=v.own (DO d);have dE:zs.length<=63:=by
  have:=hz (zs.map (·.1)) nd λk n=>by obtain⟨z,hz,rfl⟩:=Q3.mp n;exact⟨z,b z hz,rfl⟩
  rw[Q0]at this;exact this
 exact pW j (N:=63) (by decide) DR ac s σ H _ us Q I r ⟨p,es,zs,rfl,m,v2,λx a=>g x (b x a),λx a=>c x (b x a),dE,λl o i so=>q l o i ⟨λy f=>b y (so.sub y f),λx a=>by obtain⟨z,hz,e⟩:=al x a;obtain⟨y,f,e2⟩:=so.all z hz;exact⟨y,f,e2.trans e⟩,so.pw⟩⟩
end
end L2
namespace L4
open PySem PySem.Spec PyProof.Rows L2 L3 ST
noncomputable abbrev aF:=Int×Int
def CV(a b:aF):Prop:=a.1<b.1\/(a.1=b.1/\a.2<b.2)
structure kc(l z:List aF):Prop where
 m:∀x,x∈z↔x∈l
 p:z.Pairwise CV
section
noncomputable def pL(x:aF):List Int:=[x.1,x.2]
def nG(h:pL x=pL y):x=y:=by unfold pL at h;injection h with a b;injection b with b _;exact U2 a b
def N6(h:dZ (pL x) (pL y)=true):CV x y:=by
 unfold pL at h;unfold CV;simp only[dZ]at h
 grind
def wO:∀{a:List aF}{vs:List V},aL (IsSet H) a vs->∃its:List i_,TupsIn H vs its/\its.map (·.1)=a.map pL:=by
 intro a vs h;induction h with
 |nil=>exact⟨[],.nil,rfl⟩
 |@cons x v a vs q _ b=>obtain⟨its,c,t2⟩:=b;obtain⟨p,rfl,d⟩:=q;exact⟨(pL x,p)::its,.cons ⟨rfl,d⟩ c,by rw[Rn,Rn,t2]⟩
def K1(h:Reads ta σ H (.ref l))(B:Rd H l (.lst vs))(a:aL (IsSet H) hs vs)(hz:hs.length<=300)(dE:∀m:List aF,m.Nodup->(∀x∈m,x∈hs)->m.length<=63)
 (k:∀i ms ws H',Same H H'->H i=none->H' i=some (.lst ws)->aL (IsSet H') ms ws->kc hs ms->Q (.ref i) H'):fK (AZ X) (aj (fK (sR X) (aj ta aE)) aE) σ H Q:=by
 obtain⟨its,A,t2⟩:=wO a;have q:=pj A;have mem:∀x∈its,∃y∈hs,x.1=pL y:=λx d=>by
  have:x.1∈hs.map pL:=by rw[<- t2];exact Q3.mpr ⟨x,d,rfl⟩
  obtain⟨y,g,e⟩:=Q3.mp this;exact⟨y,g,e.symm⟩
 refine h _ ⟨l,vs,its,rfl,B,A,by rw[<- a.len];exact hz,λb es hb v=>?_⟩;have s1:=aw (o:=.ext λh=>SetAt X.w h b es) hb;refine⟨b,es,its,rfl,ag,v,λx d=>s1 _ _ (q x d),λx d z=>?_,λm nd hm=>?_,λi f j so=>?_⟩
 .obtain⟨y,_,e⟩:=mem x d;rw[z]at e;cases e
 .have:∀k∈m,∃y:aF,y∈hs/\pL y=k:=λk r=>by obtain⟨x,d,e⟩:=hm k r;obtain⟨y,g,e2⟩:=mem x d;exact⟨y,g,e2.symm.trans e⟩
  have s:∀m:List (List Int),(∀k∈m,∃y:aF,y∈hs/\pL y=k)->∃n:List aF,n.map pL=m/\∀y∈n,y∈hs:=λm=>by
   induction m with
   |nil=>exact λ_=>⟨[],rfl,λ_ h=>nomatch h⟩
   |cons c m t=>intro h;obtain⟨y,g,e⟩:=h c Q5;obtain⟨n,e2,u⟩:=t λk r=>h k (Q7 _ r);exact⟨y::n,by rw[Rn,e,e2],λz hz=>(Q_.mp hz).elim (λe=>e▸g) (u z)⟩
  obtain⟨n,e,u⟩:=s m this;subst e;rw[Q0];exact dE n (List.Pairwise.of_map pL (λ_ _ h e=>h (by rw[e])) nd) u
 .have s2:=s1.trans (aw (o:=.lst (f.map λy=>.ref y.2)) j);have C:H i=none:=s1.free j;have p:∀y∈f,y∈its:=so.sub;have ex:∃ms:List aF,ms.map pL=f.map (·.1)/\aL (IsSet (upd (upd H b (.ext λh=>SetAt X.w h b es)) i (.lst (f.map λy=>.ref y.2)))) ms (f.map λy=>.ref y.2):=by
   generalize upd (upd H b (.ext λh=>SetAt X.w h b es)) i (.lst (f.map λy=>.ref y.2))=E at s2;clear so j;induction f with
   |nil=>exact⟨[],rfl,.nil⟩
   |cons y f t=>obtain⟨ms,e1,e2⟩:=t λz hz=>p z (Q7 _ hz);obtain⟨z,_,e3⟩:=mem y (p y Q5);refine⟨z::ms,by rw[Rn,Rn,e1,e3],.cons ⟨y.2,rfl,?_⟩ e2⟩;have:=s2 _ _ (q y (p y Q5));rw[e3]at this;exact this
  obtain⟨ms,e1,e2⟩:=ex;refine k i ms _ _ s2 C ag e2 ⟨λx=>⟨λd=>?_,λd=>?_⟩,?_⟩
  .have:pL x∈f.map (·.1):=by rw[<- e1];exact Q3.mpr ⟨x,d,rfl⟩
   obtain⟨y,g,e⟩:=Q3.mp this;obtain⟨z,hz,e3⟩:=mem y (so.sub y g);rw[nG (e.symm.trans e3)];exact hz
  .have:pL x∈its.map (·.1):=by rw[t2];exact Q3.mpr ⟨x,d,rfl⟩
   obtain⟨z,hz,e⟩:=Q3.mp this;obtain⟨y,g,e3⟩:=so.all z hz;have:pL x∈ms.map pL:=by rw[e1];exact Q3.mpr ⟨y,g,e3.trans e⟩
   obtain⟨w,D,e4⟩:=Q3.mp this;rw[<- nG e4];exact D
  .have:=so.pw;have pw:(f.map (·.1)).Pairwise λx y=>dZ x y=true:=Sw.mpr this;rw[<- e1]at pw;exact(Sw.mp pw).imp N6
end
end L4
namespace L4
open PySem PySem.Spec PyProof.Rows L2 L3
def cC{a:Type}{R:aF->a}{k:aF}{p:a}:jb R k p k=p:=Re rfl
def cm{a:Type}{R:aF->a}{k u:aF}{p:a}(h:u≠k):jb R k p u=R u:=Rf h
noncomputable def gV(ks:List aF)(k:aF):List aF:=if k∈ks then ks else ks++[k]
structure Gr{α:Type} (R:Hp->α->V->Prop) (B H:Hp) (a:Addr) (ks:List aF) (F:aF->List α) (RA:aF->Addr):Prop where
 s:Same B H
 r:H a=some (.dT (ks.map λk=>(k2 k,.ref (RA k))))
 na:B a=none
 v:∀k∈ks,B (RA k)=none/\∃vs,H (RA k)=some (.lst vs)/\aL (R H) (F k) vs
 i:∀k∈ks,∀k'∈ks,RA k=RA k'->k=k'
 z:∀k,k∉ks->F k=[]
def lE{α:Type}(R:Hp->α->V->Prop):Prop:=∀{H H':Hp},KT H H'->∀x v,R H x v->R H' x v
def A4(_:Hp)(x:Int)(v:V):Prop:=v=.int x
def jS:lE A4:=λ_ _ _ h=>h
def a_:lE IsSet:=λk _ _ ⟨p,e,h⟩=>⟨p,e,k _ _ h⟩
section
variable{α:Type}{R:Hp->α->V->Prop}{X:Cx}{K:Vx}{B H H':Hp}{a q p:Addr}{ks:List aF}{F:aF->List α}{RA:aF->Addr}{D:Ends}{σ:L2.St}{k:aF}{vs ws:List V}{zs:List α}{Q:VK}{E:XK}
def fZ:cJ (ks.map λk=>(k2 k,V.ref (RA k))) (k2 k)=if k∈ks then some (.ref (RA k))else none:=by
 induction ks with
 |nil=>rfl
 |cons x r b=>
  rw[Rn];by_cases h:x=k
  .rw[fj (by rw[h]),Re (by rw[h];exact Q5),h]
  .rw[fq λz=>h (jp _ _ z),b];simp[Si h]
theorem Gr.keep(h:Gr R B H a ks F RA)(d:lE R)(k:Kp c H H')(kt:KT H H')(n:B c=none)(na:a≠c)(nl:∀b,H c≠some (.lst b)):Gr R B H' a ks F RA:=⟨(λb u e=>k _ _ (h.s _ _ e) λz=>by rw[z,n]at e;cases e),k _ _ h.r na,h.na,λf b=>let ⟨h1,vs,h2,h3⟩:=h.v f b;⟨h1,vs,k _ _ h2 (λz=>nl _ (z▸h2)),h3.mono (d kt)⟩,h.i,h.z⟩
theorem Gr.more(h:Gr R B H a ks F RA)(c:lE R)(s:Same H H'):Gr R B H' a ks F RA:=⟨h.s.trans s,s _ _ h.r,h.na,λd b=>let ⟨h1,vs,h2,h3⟩:=h.v d b;⟨h1,vs,s _ _ h2,h3.mono (c (.of s))⟩,h.i,h.z⟩
theorem aL.app{b c:Type}{R:b->c->Prop}{xs us:List b}{d zs:List c}(h:aL R xs d)(g:aL R us zs):aL R (xs++us) (d++zs):=by
 induction h with
 |nil=>exact g
 |cons a _ e=>exact .cons a e
def Gr.ext(h:Gr R B H a ks F RA)(m:lE R)(f:k∈ks)(d:H (RA k)=some (.lst vs))(o:aL (R H) zs ws):Gr R B (upd H (RA k) (.lst (vs++ws))) a ks (jb F k (F k++zs)) RA:=by
 obtain⟨n,t,e,al⟩:=h.v k f;rw[d]at e;cases e;have kt:KT H (upd H (RA k) (.lst (vs++ws))):=.upd d λ_ z=>(nomatch z);refine⟨λb u e=>?_,?_,h.na,λj c=>?_,h.i,λj c=>?_⟩
 .rw[ai λz=>by rw[z,n]at e;cases e];exact h.s _ _ e
 .rw[ai λz=>by rw[<- z,h.r]at d;cases d];exact h.r
 .obtain⟨w,us,e,g⟩:=h.v j c;refine⟨w,?_⟩;by_cases l:j=k
  .rw[l,cC];exact⟨_,ag,(al.app o).mono (m kt)⟩
  .rw[cm l];exact⟨us,by rw[ai λz=>l (h.i j c k f z)];exact e,g.mono (m kt)⟩
 .rw[cm λz:j=k=>c (z▸f)];exact h.z j c
def Gr.new(h:Gr R B H a ks F RA)(w:lE R)(t:k∉ks)(f:H q=none):Gr R B (upd (upd H q (.lst [])) a (.dT ((ks.map λk=>(k2 k,V.ref (RA k)))++[(k2 k,.ref q)]))) a (ks++[k]) F (jb RA k q):=by
 have m:a≠q:=ax h.r f;have s1:Same H (upd H q (.lst [])):=aw f;have kt:KT H (upd (upd H q (.lst [])) a (.dT ((ks.map λk=>(k2 k,V.ref (RA k)))++[(k2 k,.ref q)]))):=(KT.of s1).trans (.upd (s1 _ _ h.r) λ_ z=>(nomatch z));have c:∀j∈ks,j≠k:=λj hj z=>t (z▸hj);have d:∀j∈ks,RA j≠q:=λj hj z=>by obtain⟨_,_,e,_⟩:=h.v j hj;rw[z,f]at e;cases e
 refine⟨λb u e=>?_,?_,h.na,λj hj=>?_,λj hj l n e=>?_,λj hj=>h.z j λz=>hj (RD _ z)⟩
 .rw[ai λz=>by rw[z,h.na]at e;cases e];exact s1 _ _ (h.s _ _ e)
 .rw[ag,RX];congr 3
  .exact Sz λj hj=>by rw[cm (c j hj)]
  .show _=[(k2 k,V.ref (jb RA k q k))];rw[cC]
 .rcases Rj.mp hj with hj|hj
  .rw[cm (c j hj)];obtain⟨x,us,e,o⟩:=h.v j hj;exact⟨x,us,by rw[ai λz=>by rw[z,h.r]at e;cases e];exact s1 _ _ e,o.mono (w kt)⟩
  .rw[Q9]at hj;subst hj;rw[cC,h.z _ t];exact⟨h.s.free f,[],by rw[ai (Si m),ag],.nil⟩
 .rcases Rj.mp hj with g|g<;>rcases Rj.mp n with g'|g'
  .rw[cm (c j g),cm (c l g')]at e;exact h.i j g l g' e
  .rw[Q9.mp g',cm (c j g),cC]at e;exact(d j g e).elim
  .rw[Q9.mp g,cm (c l g'),cC]at e;exact(d l g' e.symm).elim
  .rw[Q9.mp g,Q9.mp g']
def K3(K:Vx)(i:Nat)(tk:TE):TE:=qZ K "dict" uO (au i) (aj tk (aj (dS aE) aE))
theorem FY(h:Gr R B H a ks F RA)(l:lE R)(hz:ks.length<15000000)(o:σ[i]?=some (some (.ref a)))(s:Makes tk σ H [.int k.1,.int k.2])
 (d:∀H' f,Kp a H H'->KT H H'->Gr R B H' a (gV ks k) F f->k∈gV ks k->Q (.ref (f k)) H'):K3 K i tk σ H Q:=by
 refine⟨_,o,.inr (.inr (.inl ⟨rfl,.inr ⟨_,h.r⟩⟩)),s _ λb hb=>⟨Rh _,λq m=>?_⟩⟩;have s1:Same H (upd H b (.tup [.int k.1,.int k.2])):=aw hb;have g:=h.more l s1;have j:upd H b (.tup [.int k.1,.int k.2]) b=some (.tup ((k2 k).map kV)):=ag;generalize upd H b (.tup [.int k.1,.int k.2])=H1 at s1 g j m;have s2:Same H1 (upd H1 q (.lst [])):=aw m;refine⟨a,b,k2 k,.ref q,_,rfl,rfl,s2 _ _ j,.inl (s2 _ _ g.r),jx (by rw[Q0];exact hz),?_⟩;rw[fZ];unfold gV at d;by_cases e:k∈ks
 .rw[Re e]at d ⊢;exact .inl ⟨_,rfl,d _ _ (.of (s1.trans s2)) (.of (s1.trans s2)) (g.more l s2) e⟩
 .rw[Rf e]at d ⊢;refine .inr ⟨rfl,?_⟩;rw[dX _ (by rw[fZ,Rf e])];have:=d _ _ (λc u e n=>by rw[ai n];exact s2 _ _ (s1 _ _ e)) ((KT.of (s1.trans s2)).trans (.upd (s2 _ _ g.r) λ_ z=>(nomatch z))) (g.new l e m) (RM _ Q5);rw[cC]at this;exact this
def K4(K:Vx)(i m:Nat)(tk:TE):TS:=b8 (qZ K "list" cT (K3 K i tk) (aj (au m) aE))
theorem HQ(h:Gr R B H a ks F RA)(g:lE R)(hz:ks.length<15000000)(l:(F k).length<15000000)(o:σ[i]?=some (some (.ref a)))(hm:σ[m]?=some (some v))(r:∀H',KT H H'->R H' z v)(s:Makes tk σ H [.int k.1,.int k.2])
 (t:∀H' d,(∀c u,H c=some u->c≠a->(∀b,u≠.lst b)->H' c=some u)->Gr R B H' a (gV ks k) (jb F k (F k++[z])) d->D.nx σ H'):K4 K i m tk D σ H:=by
 refine FY h g hz o s λH1 d kp kt j f=>?_;obtain⟨n1,vs,e1,al⟩:=j.v k f;exact⟨.inl ⟨rfl,_,SqL.of e1⟩,_,hm,_,_,_,rfl,rfl,e1,jx (by rw[<- al.len];exact l),t _ d (λc u e n nl=>by rw[ai (λz=>by rw[<- z,kp _ _ e n]at e1;cases e1;exact nl _ rfl)];exact kp _ _ e n) (j.ext g f e1 (.cons (r _ kt) .nil))⟩
def N7(K:Vx)(i:Nat)(tk b:TE):TS:=b8 (qZ K "list" jB (K3 K i tk) (aj b aE))
theorem qA(h:Gr R B H a ks F RA)(b:H q=none)(k:aF):∃p vs,(cJ (ks.map λk=>(k2 k,V.ref (RA k))) (k2 k)).getD (.ref q)=.ref p/\upd H q (.lst []) p=some (.lst vs)/\aL (R H) (F k) vs:=by
 rw[fZ];by_cases e:k∈ks
 .rw[Re e];obtain⟨_,vs,e1,al⟩:=h.v k e;exact⟨_,vs,rfl,aw b _ _ e1,al⟩
 .rw[Rf e,h.z k e];exact⟨q,[],rfl,ag,.nil⟩
theorem isI:∀{l:List Int}{vs:List V},aL (A4 H) l vs->vs=l.map .int:=by
 intro l vs h;induction h with
 |nil=>rfl
 |cons e _ b=>rw[Rn,<- b,e]
def bL(F:aF->List Int)(r:Sp.Rule):List aF:=match r.2.2.2 with
 |[]=>[]
 |c::w=>match w with
  |[]=>[(r.2.2.1,c)]
  |d::_=>(r.2.2.1,c)::(F (r.2.2.1,c)).map λo=>(o,d)
theorem FZ{cap:L2.St}{H1:Hp}{l:Addr}{ks:List Int}{te:TE}{ws:Int->List V}{Fin:Addr->List V->Hp->Prop}(h1:tN.length=1)(t:jP σ caps=cap)(O:∀cl C s H3 fp,PG (aV X scope (tN++capN) cl C s H3 fp) tg (aA 0))(P:∀cl C s H3 fp,PE (aV X scope (tN++capN) cl C s H3 fp) elt te)
 (G:∀x H',Same H1 H'->Makes te (some (.int x)::cap) H' (ws x)) (S:Rd H1 l (.lst (ks.map .int))) (hz:ks.length<15000000) (k:∀n vs H',H1 n=none->Same H1 H'->H' n=some (.lst vs)->aL (λx v=>∃p,v=.ref p/\H' p=some (.tup (ws x))) ks vs->Fin n vs H'):ck X scope tg tN capN caps elt [] σ Fin (CO X.K l) H1:=by
 intro n I cl C s fp;refine⟨_,_,_,λi m b H'=>m=ks.length-i/\i<=ks.length/\aL (λx v=>∃p,v=.ref p/\H' p=some (.tup (ws x))) (ks.take i) b/\Same H1 H'/\H' n=some (.lst b),O cl C s _ fp,gs,P cl C s _ fp,⟨ks.length,by simp,Rh _,.nil,aw I,ag⟩,?_⟩;rintro i m b H' ⟨rfl,U,w,A,d⟩;have r:SqL X.K H' l (ks.map .int):=.inl (aT A S);refine⟨d,?_⟩;by_cases f:i<ks.length
 .right;refine⟨⟨_,.int ks[i],r,by simp[f]⟩,λW g o y J=>?_⟩;obtain⟨rfl,y⟩:=y;have L:=y _ r;rw[Rg,Q1 f]at L;cases L;rw[h1]at J;obtain⟨Y,rfl⟩:=Tq.mp J;rw[t];refine⟨λj M=>?_,iT (G _ _ A _ λp N=>?_)⟩
  .rw[h1]at M;obtain⟨j,rfl⟩:=Sg M;rfl
  .have np:n≠p:=ax d N;have s2:Same g (upd g p (.tup (ws ks[i]))):=aw N;have k3:KT g (upd (upd g p (.tup (ws ks[i]))) n (.lst (b++[.ref p]))):=(KT.of s2).trans (.upd (s2 _ _ d) λ_ z=>(nomatch z));refine⟨s2 _ _ d,jx ?_,ks.length-(i+1),by lia,rfl,f,?_,λc u e=>?_,ag⟩
   .rw[<- w.len,Sa];lia
   .rw[Ry,Q1 f];exact(w.mono λx v ⟨p,e,h⟩=>⟨p,e,k3 _ _ h⟩).snoc ⟨p,rfl,by rw[ai (Si np),ag]⟩
   .rw[ai (ax e I)];exact s2 _ _ (A _ _ e)
 .left;have T:i=ks.length:=by lia
  subst T;rw[R8]at w;exact⟨⟨_,r,by simp⟩,k n b H' I A d w⟩
inductive Cy:Sp
 |mk {B H:Hp} {r:Sp.Rule} {c a:Addr} {ks:List aF} {F:aF->List Int} {RA:aF->Addr} {Q:VK} {E:XK} (hr:IsRule H r (.ref c)) (O:Gr A4 B H a ks F RA) (hz:∀k,(F k).length<1000000) (k:∀l vs H',Same H H'->H l=none->H' l=some (.lst vs)->aL (IsSet H') (bL F r) vs->Q (.ref l) H'):Cy [.ref c,.ref a] H Q E
def A6(h:Cy vs H Q E):vs.length=2:=by cases h;rfl
def K5(K:Vx):TE:=cI (aj (au 0) (aj (tI K 1 1) aE))
def K6(X:Cx)(scope:Scope)(tg b:Expr)(tN capN:List Str)(caps:List Nat):TE:=ja X scope tg tN capN caps b [] (cu X.K (dG (au 1) (au 3) (dS aE)))
def N8(X:Cx)(b:TE):TS:=cL (bj GI (dS (aj (au 3) aE)) b)
def N9(X:Cx)(b:TE):TS:=aK (d8 (bI (bj oK (fK (fB X.K) (aj (au 2) aE)) (tC (.int 1)))) (cL (dS (aj (au 3) aE))) cq) (N8 X b)
def N_(X:Cx)(b:TE):TS:=aK (d8 (bI (bj oK (fK (fB X.K) (aj (au 2) aE)) (tC (.int 0)))) (cL (dS aE)) cq) (aK (bb (cI (aj (tI X.K 0 2) (aj (tI X.K 2 0) aE))) (aA 3)) (N9 X b))
def P7(X:Cx)(scope:Scope)(tg b:Expr)(tN capN:List Str)(caps:List Nat):TS:=aK (bb (tI X.K 0 3) (aA 2)) (N_ X (K6 X scope tg b tN capN caps))
theorem Ew{scope:Scope}{tg A:Expr}{tN capN:List Str}{caps:List Nat}{vs:List V}{Q:VK}{E:XK}(h1:tN.length=1)(S:caps=[2])(U:∀cl C f H3 fp,PG (aV X scope (tN++capN) cl C f H3 fp) tg (aA 0))(W:∀cl C f H3 fp,PE (aV X scope (tN++capN) cl C f H3 fp) A (K5 X.K))(h:Cy vs H Q E) :
 P7 X scope tg A tN capN caps {nx:=λ_ H'=>Q .bz H',rt:=Q} (bp ["rule","behind","put","first"] vs) H:=by
 obtain @⟨B,H,r,c,a,ks,F,RA,Q,E,⟨_,q,ec,hr,hq⟩,O,hz,k⟩:=h;cases ec;obtain⟨r0,r1,m,w⟩:=r;dsimp only at hr hq;have d:(((w.map V.int).length:Nat):Int)=w.length:=by simp
 refine Reads.ix (.va (i:=0) rfl) hr (v:=.ref q) rfl _ ?_;refine gR (.vG (.len (.va rfl) hq) .k) (λh=>?_) λh=>?_
 .have e0:w=[]:=by have:=Rr h;rw[d]at this;exact RJ.mp (by lia)
  subst e0;exact⟨Rh _,λl d=>k l [] _ (aw d) d ag .nil⟩
 .have Y:¬w.length=0:=λz=>h (Rm (by rw[d,z];rfl));obtain⟨x,w,rfl⟩ : ∃x u,w=x::u:=by
   cases w with
   |nil=>exact(Y rfl).elim
   |cons x u=>exact⟨x,u,rfl⟩
  delta cq aK bb
  dsimp only;refine oo (ws:=[.int m,.int x]) (.c (.ix (.va rfl) hr rfl) (.c (.ix (.va rfl) hq (ce (j:=0) rfl)) .ni)) rfl λb hb=>?_;have s1:Same H (upd H b (.tup [.int m,.int x])):=aw hb;have g:upd H b (.tup [.int m,.int x]) b=some (.tup [.int m,.int x]):=ag;have N:=O.more jS s1;generalize upd H b (.tup [.int m,.int x])=H1 at s1 g N;refine gR (.vG (.len (.va rfl) (s1 _ _ hq)) .k) (λh=>?_) λh=>?_
  .have e1:w=[]:=by have:=Rr h;rw[d]at this;exact RJ.mp (by simp at this;lia)
   subst e1;refine⟨_,rfl,SG (jx (by show 1<15000000;decide)),λl d=>?_⟩;have s2:=aw (o:=.lst [.ref b]) d;exact k l _ _ (s1.trans s2) (s1.free d) ag (.cons ⟨b,rfl,s2 _ _ g⟩ .nil)
  .have n1:¬w.length=0:=λz=>h (Rm (by rw[d,Rq,z];rfl));obtain⟨y,w,rfl⟩ : ∃x u,w=x::u:=by
    cases w with
    |nil=>exact(n1 rfl).elim
    |cons x u=>exact⟨x,u,rfl⟩
   refine⟨_,rfl,SG (jx (by show 1<15000000;decide)),λl0 J=>?_⟩;have s2:=aw (o:=.lst [.ref b]) J;have h0:upd H1 l0 (.lst [.ref b]) l0=some (.lst [.ref b]):=ag;have I:=N.more jS s2;generalize upd H1 l0 (.lst [.ref b])=H2 at s2 h0 I
   delta K6 ja cu dG
   dsimp only;refine⟨_,rfl,a,rfl,.inr ⟨_,.inl I.r⟩,_,rfl,Rh _,λq2 G=>?_⟩;have f:=aw (o:=.lst []) G;refine⟨_,DGet.t (k:=k2 (m,x)) (f _ _ I.r) (f _ _ (s2 _ _ g)),?_⟩;obtain⟨p,ov,e1,e2,e3⟩:=qA I G (m,x);rw[isI e3]at e2;have hz:=hz (m,x);rw[e1];have n:=(s1.trans s2).trans f;refine⟨p,rfl,⟨_,SqL.of e2⟩,FZ (te:=K5 X.K) (ws:=λu=>[.int u,.int y]) (cap:=[some (.ref q)]) (caps:=caps) h1 (by rw[S];rfl) U W (λu P s=>.t (.c (.va rfl) (.c (.ix (.va rfl) (s _ _ (n _ _ hq)) (ce (j:=1) rfl)) .ni)) rfl) (.inl e2) (by lia) λZ vs P hD s L al=>?_⟩;refine⟨l0,Z,_,_,rfl,rfl,s _ _ (f _ _ h0),L,SG (jx (by rw[<- al.len];simp;lia)),λl d=>?_⟩;have M:=aw (o:=.lst ([.ref b]++vs)) d;have sa:=(n.trans s).trans M;refine k l _ _ sa ((n.trans s).free d) ag (.cons ⟨b,rfl,M _ _ (s _ _ (f _ _ (s2 _ _ g)))⟩ ?_);have:=al.Fy (T:=IsSet (upd P l (.lst ([.ref b]++vs)))) (λu=>(u,y)) id λu v ⟨p,e,hp⟩=>⟨p,e,M _ _ hp⟩;rw[List.map_id]at this;exact this
end
section
variable{H H':Hp}{a q p d:Addr}{As:List Sp.Arr}{kvs:List (List bW×V)}{Q:VK}
theorem vk(h:Is H' (nl H H') (.qR (As.map λa=>.inr (ak a)) ds) v):∃d kvs u,v=.ref d/\H d=none/\H' d=some u/\(u=.dT kvs\/(u=.dK []/\kvs=[]))/\kvs.map (·.1)=As.map ak:=by
 obtain⟨d,vs,rfl,⟨f,c,g⟩,all⟩:=h;have b:∀o u,H' d≠some (.bw o u):=λo u z=>by obtain⟨j,q,i⟩:=g;rw[z]at q;cases q;exact i
 rcases f with⟨kvs,e|⟨o,e⟩,h1,h2⟩|⟨kvs,e|⟨o,e⟩,h1,h2⟩
 .have e0:As=[]:=by
   cases As with
   |nil=>rfl
   |cons x l=>cases kvs with
    |nil=>cases h1
    |cons y kvs=>rw[Rn,Rn]at h1;injection h1 with h1;cases h1
  subst e0;have:kvs=[]:=by cases kvs with
   |nil=>rfl
   |cons _ _=>cases h1
  subst this;exact⟨d,[],_,rfl,c,e,.inr ⟨rfl,rfl⟩,rfl⟩
 .exact(b _ _ e).elim
 .refine⟨d,kvs,_,rfl,c,e,.inl rfl,?_⟩;have:=Sy (List.map λk:DK=>match k with|.inr a=>a|.inl _=>[]) h1;rw[Sf,Sf]at this;exact this.symm
 .exact(b _ _ e).elim
noncomputable def aZ(As:List Sp.Arr)(k:aF):List Int:=(As.filter λt=>decide ((t.1,t.2.1)=k)).map (·.2.2)
theorem sS(As:List Sp.Arr)(t:Sp.Arr):aZ (As++[t])=jb (aZ As) (t.1,t.2.1) (aZ As (t.1,t.2.1)++[t.2.2]):=by
 funext k;unfold aZ jb;by_cases h:k=(t.1,t.2.1)
 .rw[Re h,h,R4];simp
 .rw[Rf h,R4];simp[Si h]
theorem jq(As:List Sp.Arr)(k:aF):(aZ As k).length<=As.length:=by unfold aZ;rw[Q0];exact SS ..
def nI(ks:List aF)(k:aF):(gV ks k).length<=ks.length+1:=by unfold gV;split<;>simp
def K7(c:Sp)(H:Hp)(v0:V)(As:List Sp.Arr):Prop:=∀H1,Same H H1->∀Q:VK,(∀d kvs u b,Same H1 b->H1 d=none->b d=some u->(u=.dT kvs\/(u=.dK []/\kvs=[]))->kvs.map (·.1)=As.map ak->Q (.ref d) b)->c [v0] H1 Q E0
inductive yU(sP:Sp):Sp
 |mk {H:Hp} {v0:V} {As:List Sp.Arr} {Q:VK} {E:XK} (hP:K7 sP H v0 As) (hz:As.length<1000000) (k:∀a ks RA H',Gr A4 H H' a ks (aZ As) RA->Q (.ref a) H'):yU sP [v0] H Q E
def A7(h:yU sP vs H Q E):vs.length=1:=by cases h;rfl
def Oa(i j:Nat):TE:=cI (aj (au i) (aj (au j) aE))
def P8(X:Cx)(b:Sp):TS:=aK (bb fV (aA 1)) (aK (λD σ H=>d9 (wN X (bO b [] E0 (aj (au 0) aE))) (dQ X.K 3 (aX (aA 2) (aX (aA 3) (aX (aA 4) dP)))) (K4 X.K 1 4 (Oa 2 3)) (GM X D) σ H) (cL (au 1)))
theorem Ex(h:yU sP vs H Q E):P8 X sP {nx:=λ_ H'=>Q .bz H',rt:=Q} (bp ["house","behind","room","sign","other"] vs) H:=by
 obtain @⟨H,v0,As,Q,E,hP,hz,k⟩:=h;intro a ha;have s1:Same H (upd H a (.dT [])):=aw ha;have I:Gr A4 H (upd H a (.dT [])) a [] (aZ []) (λ_=>0):=⟨s1,ag,ha,λk h=>(nomatch h),λk h=>(nomatch h),λk h=>rfl⟩;refine⟨_,rfl,hP _ s1 _ λd kvs u v s2 n2 e2 A B=>?_⟩;have g:a≠d:=λz=>by rw[<- z,ag]at n2;cases n2
 have nd:H d=none:=s1.free n2;have m:n8 u:=by rcases A with rfl|⟨rfl,_⟩<;>exact True.intro
 have r:∀b,v d≠some (.lst b):=λb z=>by rw[e2]at z;cases z;exact m
 refine⟨d,kvs,u,rfl,A,e2,λo J=>?_⟩;have K:Gr A4 H (upd v d (.bw o u)) a [] (aZ []) (λ_=>0):=(I.more jS s2).keep jS (λc w e n=>by rw[ai n];exact e) (.upd e2 λws z=>by subst z;exact m) nd g r;refine kU (n:=kvs.length) (λi f H'=>(∃x y z,f=[some v0,some (.ref a),x,y,z])/\H' d=some (.bw o u)/\∃ks RA,ks.length<=i/\Gr A4 H H' a ks (aZ (As.take i)) RA) ⟨⟨none,none,none,rfl⟩,ag,[],_,QY _,K⟩ (λi f H' p C=>⟨p.2.1,C⟩) (λf H' p=>⟨p.2.1,QY _⟩) (λi f H' x L D' C p y M=>?_) λf H' p=>?_
 .obtain⟨⟨N,x3,x4,rfl⟩,j,ks,RA,R,G⟩:=p;obtain⟨rfl,b,O,S,e1,rfl,hb⟩:=y;have D:(As.map ak)[i]?=some O:=by rw[<- B,Rg,e1];rfl
  rw[Rg]at D;obtain⟨ar,l,rfl⟩:=Ss.mp D;have P:=(Q2.mp l).1;rw[NN]at hb;refine Pg hb (HQ (k:=(ar.1,ar.2.1)) (z:=ar.2.2) G jS (by lia) (by have:=jq (As.take i) (ar.1,ar.2.1);rw[Sa]at this;lia) rfl rfl (λ_ _=>rfl) (.t (.c (.va rfl) (.c (.va rfl) .ni)) rfl) λH3 s fr F=>M _ _ ⟨⟨_,_,_,rfl⟩,fr _ _ j (Si g) (λb z=>(nomatch z)),gV ks (ar.1,ar.2.1),s,?_,?_⟩)
  .have:=nI ks (ar.1,ar.2.1);lia
  .rw[Ry,l];rw[<- sS]at F;exact F
 .obtain⟨⟨N,x3,x4,rfl⟩,j,ks,RA,_,G⟩:=p;have el:kvs.length=As.length:=by have:=Sy List.length B;simpa using this
  rw[el,R8]at G;exact .inr ⟨d,o,u,j,m,J,_,rfl,k a ks RA _ (G.keep jS (c:=d) (λc w e n=>by rw[ai n];exact e) (.upd j λws z=>(nomatch z)) nd g λb z=>by rw[j]at z;cases z)⟩
end
noncomputable def hd(r:Sp.Rule):aF:=(r.1,r.2.1)
def cO(f:Sp.Rule->List aF)(RL:List Sp.Rule)(k:aF):List aF:=(RL.filter λr=>decide (hd r=k)).flatMap f
def bS(RL:List Sp.Rule):List aF:=RL.foldl (λks r=>gV ks (hd r)) []
def vm(f:Sp.Rule->List aF)(RL:List Sp.Rule)(r:Sp.Rule):cO f (RL++[r])=jb (cO f RL) (hd r) (cO f RL (hd r)++f r):=by
 funext k;unfold cO jb;by_cases h:k=hd r
 .rw[Re h,h,R4,To];simp
 .rw[Rf h,R4];simp[Si h]
def Ey(h:ks.Nodup):(gV ks k).Nodup:=by
 unfold gV;split
 .exact h
 .rename_i n;rw[RC];exact⟨h,by simp,λa ha b hb e=>by rw[Q9]at hb;exact n (hb▸e▸ha)⟩
def A8:x∈gV ks k↔x∈ks\/x=k:=by
 unfold gV;split
 .exact⟨.inl,λh=>h.elim id λe=>e▸‹_›⟩
 .simp
def jT(RL:List Sp.Rule)(r:Sp.Rule):bS (RL++[r])=gV (bS RL) (hd r):=by unfold bS;rw[S8];rfl
def nJ(RL:List Sp.Rule):(bS RL).Nodup/\(bS RL).length<=RL.length/\∀x,x∈bS RL↔∃r∈RL,hd r=x:=by
 have d:∀(n:Nat)(RL:List Sp.Rule),RL.length=n->(bS RL).Nodup/\(bS RL).length<=RL.length/\∀x,x∈bS RL↔∃r∈RL,hd r=x:=λn=>by
  induction n with
  |zero=>intro RL h;cases RJ.mp h;exact⟨.nil,QY _,λx=>⟨λh=>(nomatch h),λ⟨_,h,_⟩=>(nomatch h)⟩⟩
  |succ n f=>
   intro RL h;obtain⟨L,r,rfl⟩ : ∃L r,RL=L++[r]:=⟨RL.dropLast,RL.getLast (by intro z;subst z;cases h),(Tj _).symm⟩;rw[Q8,RN]at h;obtain⟨a,b,c⟩:=f L (by lia);rw[jT];refine⟨Ey a,Rx (nI ..) (by simp;lia),λx=>?_⟩;rw[A8,c];constructor
   .rintro (⟨r,g,e⟩|e)
    .exact⟨r,RD _ g,e⟩
    .exact⟨r,by simp,e.symm⟩
   .rintro⟨q,hq,e⟩;rcases Rj.mp hq with hq|hq
    .exact .inl ⟨q,hq,e⟩
    .rw[Q9]at hq;exact .inr (by rw[<- e,hq])
 exact d _ RL rfl
section
variable{X:Cx}{K:Vx}{B B0 H H':Hp}{a a2 q p d c:Addr}{ks ks2:List aF}{F:aF->List Int}{G:aF->List aF}{RA RA2 LA:aF->Addr}{σ:L2.St}{Q:VK}{E:XK}{D:Ends}{r:Sp.Rule}
def K8(K:Vx):TS:=N7 K 2 (bO nU [] E0 (aj (au 3) aE)) (bO Cy [] E0 (aj (au 3) (aj (au 1) aE)))
theorem P9(g:Gr IsSet B H a2 ks2 G RA2)(O:Gr A4 B0 B a ks F RA)(j:IsRule B r (.ref c))(m:∀k,(F k).length<1000)(h1:ks2.length<1000)(h2:(G (hd r)).length<1000000)(n:σ=[x0,some (.ref a),some (.ref a2),some (.ref c)])
 (k:∀H' b,Gr IsSet B H' a2 (gV ks2 (hd r)) (jb G (hd r) (G (hd r)++bL F r)) b->D.nx σ H'):K8 K D σ H:=by
 subst n;refine FY (k:=hd r) g a_ (by lia) rfl (λt q=>?_) λH1 b kp kt h f=>?_
 .obtain⟨_,u,e,o,_⟩:=IsRule.keep (.of g.s) _ _ j;cases e;exact⟨_,rfl,.mk o q⟩
 .obtain⟨n1,vs,e1,al⟩:=h.v _ f;refine⟨.inl ⟨rfl,_,SqL.of e1⟩,_,rfl,_,rfl,.mk (IsRule.keep (.of h.s) _ _ j) (O.more jS h.s) (λk=>by have:=m k;lia) λl ws w s2 y i al2=>?_⟩;have hb:(bL F r).length<=1001:=by
   unfold bL;split
   .exact Rh _
   .split
    .exact Tz rfl
    .rename_i x _ _ _ _;have:=m (r.2.2.1,x);rw[Rq,Q0];lia
  refine⟨_,l,vs,ws,rfl,rfl,s2 _ _ e1,i,SG (jx ?_),k _ b ((h.more a_ s2).ext a_ f (s2 _ _ e1) al2)⟩;rw[<- al.len,<- al2.len];lia
structure Hw(H1 H':Hp) (Dl:Addr) (G Z:aF->List aF) (LA:aF->Addr) (k:aF) (v:V):Prop where
 t:∃p b,v=.ref p/\H' p=some (.tup [.ref b,.ref (LA k)])/\H' b=some (.tup ((k2 k).map kV))
 n:H1 (LA k)=none
 d:LA k≠Dl
 l:∃ws,H' (LA k)=some (.lst ws)/\aL (IsSet H') (Z k) ws
 s:kc (G k) (Z k)
theorem aL.imp{α b:Type}{R e:α->b->Prop}{xs:List α}{g:List b}(h:aL R xs g)(f:∀x∈xs,∀y,R x y->e x y):aL e xs g:=by
 induction h with
 |nil=>exact .nil
 |cons a _ i=>exact .cons (f _ Q5 _ a) (i λx j=>f x (Q7 _ j))
theorem aL.mem{α b:Type}{R:α->b->Prop}{xs:List α}{g:List b}(h:aL R xs g){x:α}(f:x∈xs):∃y,R x y:=by
 induction h with
 |nil=>exact(nomatch f)
 |cons a _ i=>exact(Q_.mp f).elim (λe=>⟨_,e▸a⟩) i
def HR(X:Cx):TE:=cI (aj (au 0) (aj (fK (AZ X) (aj (fK (sR X) (aj (au 1) aE)) aE)) aE))
theorem K9{Fin:Addr->List V->Hp->Prop}(h1:tN.length=2)(hg:∀cl C T H3 fp,PG (aV X scope (tN++[]) cl C T H3 fp) tg (dQ X.K 2 (aX (aA 0) (aX (aA 1) dP))))(he:∀cl C T H3 fp,PE (aV X scope (tN++[]) cl C T H3 fp) elt (HR X))
 (nd:ks2.Nodup) (hz:ks2.length<1000) (hf:H1 a2=some (.bw o u)) (hv:∀k∈ks2,∃vs,H1 (RA2 k)=some (.lst vs)/\aL (IsSet H1) (G k) vs) (dE:∀k,(G k).length<=300/\∀m:List aF,m.Nodup->(∀x∈m,x∈G k)->m.length<=63)
 (k:∀f vs H' LA Z,H1 f=none->Same H1 H'->H' f=some (.lst vs)->aL (Hw H1 H' f G Z LA) ks2 vs->(∀k∈ks2,∀L∈ks2,LA k=LA L->k=L)->Fin f vs H'):ck X scope tg tN [] [] elt [] σ Fin (J_ a2 o u (ks2.map λk=>(k2 k,.ref (RA2 k)))) H1:=by
 intro f hD cl C T fp;refine⟨_,_,_,λi m s H'=>m=ks2.length-i/\i<=ks2.length/\∃LA Z,aL (Hw H1 H' f G Z LA) (ks2.take i) s/\Same H1 H'/\H' f=some (.lst s)/\∀k∈ks2.take i,∀L∈ks2.take i,LA k=LA L->k=L,hg cl C T _ fp,gs,he cl C T _ fp,⟨ks2.length,by simp,Rh _,λ_=>0,λ_=>[],.nil,aw hD,ag,λk h=>(nomatch h)⟩,?_⟩;rintro i m s H' ⟨rfl,hi,LA,Z,A,U,I,inj⟩;refine⟨I,?_⟩;by_cases P:i<ks2.length
 .right;have W:ks2[i]?=some ks2[i]:=Q1 P;refine⟨⟨U _ _ hf,by rw[Q0];exact P⟩,λxv H'' ol y ho=>?_⟩;obtain⟨p,b,kk,v,hp,rfl,hb,rfl,e⟩:=y;rw[Rg,W]at e;generalize ks2[i]=ki at W e;cases e;rw[h1]at ho;obtain⟨u0,u1,rfl⟩ : ∃x y,ol=[x,y]:=by
   match ol,ho with
   |[x,y],_=>exact⟨x,y,rfl⟩
  have hki:ki∈ks2:=RE W;have Y:ki∉ks2.take i:=λz=>by
   obtain⟨j,N⟩:=Rl.mp z;rw[List.getElem?_take]at N;split at N
   .rename_i hji;have:=(UO (Q2.mp N).1 nd).mp (N.trans W.symm);lia
   .cases N
  have s2:Same H' (upd H' p (.tup [.ref b,.ref (RA2 ki)])):=aw hp;refine AK ag ⟨λj N=>?_,iT ⟨_,rfl,?_⟩⟩
  .rw[h1]at N;obtain⟨j,rfl⟩:=Sg N;rfl
  obtain⟨vs,hl,al⟩:=hv ki hki;have sm2:=U.trans s2;refine K1 (X:=X) (.va rfl) (.inl (sm2 _ _ hl)) (al.mono (a_ (.of sm2))) (dE ki).1 (dE ki).2 λO ms ws H3 s3' t hl' al' so=>⟨by show 2<=_;rw[RB];lia,λp2 M=>?_⟩;have s4:Same H3 (upd H3 p2 (.tup [.ref b,.ref O])):=aw M;have J:=(s2.trans s3').trans s4;have hD4:=J _ _ I;have nl1:H1 O=none:=U.free (s2.free t);have npD:p2≠f:=λz=>by rw[z]at M;rw[(s2.trans s3') _ _ I]at M;cases M
  have nlD:O≠f:=λz=>by rw[z]at t;rw[s2 _ _ I]at t;cases t
  refine⟨hD4,jx (by rw[<- A.len,Sa];lia),ks2.length-(i+1),by lia,rfl,P,jb LA ki O,jb Z ki ms,?_,?_,ag,?_⟩
  .rw[Ry,W];have up:∀{c u},H' c=some u->c≠f->upd (upd H3 p2 (.tup [.ref b,.ref O])) f (.lst (s++[.ref p2])) c=some u:=λe n=>by rw[ai n];exact J _ _ e
   have kt:KT (upd H3 p2 (.tup [.ref b,.ref O])) (upd (upd H3 p2 (.tup [.ref b,.ref O])) f (.lst (s++[.ref p2]))):=.upd hD4 λ_ z=>(nomatch z);refine(A.imp λk R v h=>?_).snoc ?_
   .have ne:k≠ki:=λz=>Y (z▸R);obtain⟨⟨p,b',e,t1,t2⟩,n,dd,⟨ws',l1,l2⟩,so'⟩:=h;have S:KT H' _:=(KT.of J).trans kt;refine⟨⟨p,b',e,?_,S _ _ t2⟩,?_,?_,⟨ws',?_,?_⟩,?_⟩
    .rw[cm ne];exact S _ _ t1
    .rw[cm ne];exact n
    .rw[cm ne];exact dd
    .rw[cm ne];exact up l1 dd
    .rw[cm ne];exact l2.mono (a_ S)
    .rw[cm ne];exact so'
   .refine⟨⟨p2,b,rfl,?_,kt _ _ (J _ _ hb)⟩,?_,?_,⟨ws,?_,?_⟩,?_⟩
    .rw[cC,ai npD,ag]
    .rw[cC];exact nl1
    .rw[cC];exact nlD
    .rw[cC,ai nlD];exact s4 _ _ hl'
    .rw[cC];exact al'.mono (a_ ((KT.of s4).trans kt))
    .rw[cC];exact so
  .intro c w e;rw[ai (ax e hD)];exact J _ _ (U _ _ e)
  .have old:∀k∈ks2.take i,LA k≠O:=λk R z=>by obtain⟨v,h⟩:=A.mem R;obtain⟨ws',l1,_⟩:=h.l;rw[z]at l1;rw[s2 _ _ l1]at t;cases t
   have mm:∀k,k∈ks2.take (i+1)->k∈ks2.take i\/k=ki:=λk h=>by rw[Ry,W]at h;exact(Rj.mp h).imp id λh=>Q9.mp h
   have ne:∀{k},k∈ks2.take i->k≠ki:=λh z=>Y (z▸h);intro k h L h' e;rcases mm k h with g|g<;>rcases mm L h' with g'|g'
   .rw[cm (ne g),cm (ne g')]at e;exact inj k g L g' e
   .rw[g',cm (ne g),cC]at e;exact(old k g e).elim
   .rw[g,cm (ne g'),cC]at e;exact(old L g' e.symm).elim
   .rw[g,g']
 .left;have ei:i=ks2.length:=by lia
  subst ei;rw[R8]at A inj;exact⟨⟨U _ _ hf,by rw[Q0];exact QY _⟩,k f s H' LA Z hD U I A inj⟩
theorem A_:∀(ks b:List aF),(b++ks).Nodup->eh (b.map λk=>(k2 k,V.ref (LA k))) (ks.map λk=>(k2 k,V.ref (LA k)))=(b++ks).map λk=>(k2 k,V.ref (LA k)):=by
 intro ks;induction ks with
 |nil=>intro b _;rw[R_];rfl
 |cons k ks e=>intro b nd;have nk:k∉b:=λz=>(RC.mp nd).2.2 k z k Q5 rfl;have:=e (b++[k]) (by rw[RO];exact nd);rw[RO,RX]at this;show eh (bY _ (k2 k) (.ref (LA k))) _=_;rw[dX _ (by rw[fZ,Rf nk])];exact this
def jr:List V->Hp->VK->Prop:=λxs H Q=>∃l vs kvs,xs=[.ref l]/\Rd H l (.lst vs)/\iE H vs kvs/\∀p,H p=none->Q (.ref p) (upd H p (.dT (eh [] kvs)))
def gy(b:X.calm=true)(e:X.A.units+64<cLine):CallR X (.type "dict") jr:=uB b e
structure JN(H H':Hp) (d:Addr) (RL:List Sp.Rule) (L Z:aF->List aF) (LA:aF->Addr):Prop where
 g:Gr IsSet H H' d (bS RL) Z LA
 s:∀k,kc (L k) (Z k)
def JJ(L:aF->List aF):Prop:=∀k,(L k).length<=300/\∀m:List aF,m.Nodup->(∀x∈m,x∈L k)->m.length<=63
inductive yV:Sp
 |mk {B H:Hp} {RL:List Sp.Rule} {p l a:Addr} {ws:List V} {ks:List aF} {F:aF->List Int} {RA:aF->Addr} {Q:VK} {E:XK} (h:cV H RL p l ws) (O:Gr A4 B H a ks F RA) (hz:∀k,(F k).length<1000) (hl:RL.length<1000) (dE:JJ (cO (bL F) RL)) (k:∀d Z LA H',JN H H' d RL (cO (bL F) RL) Z LA->Q (.ref d) H'):yV [.ref p,.ref a] H Q E
def Ba(h:yV vs H Q E):vs.length=2:=by cases h;rfl
def K_(X:Cx)(scope:Scope)(tg b:Expr)(tN:List Str):TS:=cL (fK jr (aj (ja X scope tg tN [] [] b [] (Ac X (au 2))) aE))
def P_(X:Cx)(scope:Scope)(tg b:Expr)(tN:List Str):TS:=aK (bb fV (aA 2)) (aK (d9 (cu X.K (tI X.K 0 2)) (aA 3) (K8 X.K)) (K_ X scope tg b tN))
def yz:(cO f (RL.take i) k).length<=(cO f RL k).length:=by
 have:cO f RL k=cO f (RL.take i) k++cO f (RL.drop i) k:=by unfold cO;rw[<- To,<- R4,SU]
 rw[this,Q8];lia
theorem Bb(al:aL (Hw H1 H' Dl G Z LA) ks vs):iE H' vs (ks.map λk=>(k2 k,V.ref (LA k))):=by
 induction al with
 |nil=>exact .nil
 |cons h _ f=>obtain⟨p,b,e,g,t2⟩:=h.t;exact .cons ⟨p,b,e,g,t2⟩ f
def La(h1:tN.length=2)(m:∀cl C f H3 fp,PG (aV X scope (tN++[]) cl C f H3 fp) tg (dQ X.K 2 (aX (aA 0) (aX (aA 1) dP))))(t:∀cl C f H3 fp,PE (aV X scope (tN++[]) cl C f H3 fp) elt (HR X))(g:Gr IsSet B H a2 (bS RL) G RA2)(L:RL.length<1000)(dE:JJ G)(w:σ[2]?=some (some (.ref a2)))
 (k:∀d Z LA H',JN B H' d RL G Z LA->D.rt (.ref d) H'):K_ X scope tg elt tN D σ H:=by
 obtain⟨nd,ln,_⟩:=nJ RL;refine⟨_,w,a2,_,_,rfl,.inl rfl,.inr ⟨g.r,λo M=>?_⟩⟩;have kt:KT H (upd H a2 (.bw o (.dT ((bS RL).map λk=>(k2 k,V.ref (RA2 k)))))):=.upd g.r λ_ z=>(nomatch z);refine K9 h1 m t nd (by lia) ag (λk b=>?_) dE λx vs H' LA Z N y i al inj=>?_
 .obtain⟨_,vs,e,al⟩:=g.v k b;exact⟨vs,by rw[ai λz=>by rw[z,g.r]at e;cases e];exact e,al.mono (a_ kt)⟩
 .refine⟨x,vs,(bS RL).map λk=>(k2 k,.ref (LA k)),rfl,.inl i,?_,λd hd=>?_⟩
  .exact Bb al
  .have s1:Same H' (upd H' d (.dT ((bS RL).map λk=>(k2 k,.ref (LA k))))):=aw hd;have j:Same B H':=λc u e=>y _ _ (by rw[ai λz=>by rw[z,g.na]at e;cases e];exact g.s _ _ e);have e0:=A_ (LA:=LA) (bS RL) [] nd;rw[TR,T7]at e0;rw[e0];refine k d (λk=>if k∈bS RL then Z k else []) LA _ ⟨⟨j.trans s1,ag,j.free hd,λk b=>?_,inj,λk b=>Rf b⟩,λk=>?_⟩
   .obtain⟨v,h⟩:=al.mem b;obtain⟨ws,A,I⟩:=h.l;rw[Re b];have J:B (LA k)=none:=by
     cases e:B (LA k)with
     |none=>rfl
     |some u=>have:=h.n;rw[ai λz=>by rw[z,g.na]at e;cases e]at this;rw[g.s _ _ e]at this;cases this
    exact⟨J,ws,s1 _ _ A,I.mono (a_ (.of s1))⟩
   .by_cases b:k∈bS RL
    .obtain⟨v,h⟩:=al.mem b;rw[Re b];exact h.s
    .rw[Rf b,g.z k b];exact⟨λ_=>Iff.rfl,.nil⟩
theorem Ez(h1:tN.length=2)(m:∀cl C e H3 fp,PG (aV X scope (tN++[]) cl C e H3 fp) tg (dQ X.K 2 (aX (aA 0) (aX (aA 1) dP)))) (n:∀cl C e H3 fp,PE (aV X scope (tN++[]) cl C e H3 fp) elt (HR X)) (h:yV vs H Q E):P_ X scope tg elt tN {nx:=λ_ H'=>Q .bz H',rt:=Q} (bp ["house","behind","leading","rule"] vs) H:=by
 obtain @⟨B,H,RL,p,l,a,ws,ks,F,RA,Q,E,h,O,hz,hl,dE,k⟩:=h;intro a2 ha;have s1:Same H (upd H a2 (.dT [])):=aw ha;obtain⟨I,J,o⟩:=(h.same s1).tup;have t:Gr IsSet H (upd H a2 (.dT [])) a2 [] (cO (bL F) []) (λ_=>0):=⟨s1,ag,ha,λk h=>(nomatch h),λk h=>(nomatch h),λk h=>rfl⟩;refine ff (Reads.ix (.va (i:=0) rfl) o (v:=.ref l) rfl _ ⟨l,rfl,⟨ws,.inl (aT s1 h.lst)⟩,?_⟩);refine cM (K:=X.K) (a:=l) (xs:=ws) (λi b H'=>(∃x,b=[some (.ref p),some (.ref a),some (.ref a2),x])/\∃RA2,Gr IsSet H H' a2 (bS (RL.take i)) (cO (bL F) (RL.take i)) RA2) ⟨⟨none,rfl⟩,_,t⟩ (λi b H' _ q=>?_) (λi v b H' u q=>?_) λb H' q=>?_
 .obtain⟨_,RA2,g⟩:=q;exact .inl (aT g.s h.lst)
 .obtain⟨⟨x,rfl⟩,RA2,g⟩:=q;obtain⟨r,w,y⟩:=h.its.get u;obtain⟨c,q,rfl,z,A⟩:=y;have L:=(nJ (RL.take i)).2.1;have M:=Sj i RL;refine P9 (x0:=some (.ref p)) g O ⟨c,q,rfl,z,A⟩ hz (by lia) (by have:=(dE (hd r)).1;have:=yz (f:=bL F) (RL:=RL) (i:=i) (k:=hd r);lia) rfl λN j g2=>⟨⟨_,rfl⟩,j,?_⟩;rw[<- jT,<- vm]at g2;rw[Ry,w];exact g2
 .obtain⟨⟨x,rfl⟩,RA2,g⟩:=q;rw[<- h.its.len,R8]at g;exact La h1 m n g hl dE rfl k
end
section
inductive CF(sP:Sp):Sp
 |mk {H:Hp} {RL:List Sp.Rule} {p l:Addr} {ws:List V} {Q:VK} {E:XK} {As:List Sp.Arr} (h:cV H RL p l ws) (hP:K7 sP H (.ref p) As) (hz:As.length<1000) (hl:RL.length<1000) (dE:JJ (cO (bL (aZ As)) RL)) (k:∀d Z LA H',JN H H' d RL (cO (bL (aZ As)) RL) Z LA->Q (.ref d) H'):CF sP [.ref p] H Q E
def Bc(h:CF sP vs H Q E):vs.length=1:=by cases h;rfl
def Qa(a:Sp):TS:=cL (bO yV [] E0 (aj (au 0) (aj (bO (yU a) [] E0 (aj (au 0) aE)) aE)))
def JN.base(h:JN H H' d RL L Z LA)(s:Same B H):JN B H' d RL L Z LA:=⟨⟨s.trans h.g.s,h.g.r,s.free h.g.na,λk c=>let ⟨a,b⟩:=h.g.v k c;⟨s.free a,b⟩,h.g.i,h.g.z⟩,h.s⟩
def EA(h:CF sP vs H Q E):Qa sP {nx:=λ_ H'=>Q .bz H',rt:=Q} (bp ["house"] vs) H:=by obtain @⟨H,RL,p,l,ws,Q,E,As,h,hP,hz,hl,dE,k⟩:=h;exact⟨_,rfl,_,rfl,.mk hP (by lia) λa ks RA H1 O=>.mk (h.same O.s) O (λk=>by have:=jq As k;lia) hl dE λd Z LA H' g=>k d Z LA H' (g.base O.s)⟩
end
end L4
namespace L2
open PySem PySem.Spec PySem.Calls PyProof.Rows ST
section
def RawD.at(m:RawD h d es ep)(k:∀o,h.get? d=some o->h'.get? d=some o):RawD h' d es ep:=let ⟨o,e,c⟩:=m;⟨o,k o e,c⟩
def yA(hh:A.handled=none)(hne:d≠I):Walks prog w A I [I,d] [I] es.size (λi v=>∃e,es[i]?=some e/\v=e.key) (λi h=>h.IsKeyIter I d i es.size ep/\RawD h d es ep) where
 sub:=λb hb=>by simp at hb;simp[hb]
 frame:=λ_ _ _ st hk=>⟨st.1.at λo e=>hk I (by simp) o e,st.2.at λo e=>hk d (by simp) o e⟩
 item:=λi s Q E hi st hQ=>gx st.1 st.2 (λe he h' st' sb=>hQ e.key h' s.toks ⟨e,he,rfl⟩ ⟨st',st.2.at λo x=>(sb.2 d hne).trans x⟩ λb o hb x=>(sb.2 b (λh=>hb (by simp[h]))).trans x) λz=>by rw[TF hi]at z;cases z
 done:=λs Q E st hQ=>gx st.1 st.2 (λe he=>by simp at he) λ_=>⟨hh,λh' eb=>hQ h' s.toks λb o hb x=>eb b o (λh=>hb (by simp[h])) x⟩
 self:=λ_ _ _ _ st hQ=>wpAny_pyIter_keyiter st.1 hQ
def wQ(lo:(d==sysModules)=false):PySem.W.KdlSrc prog w "dict" d d es.size (λi v=>∃e,es[i]?=some e/\v=e.key) (λh=>RawD h d es ep) where
 type:=λ_ hm=>hm.ty
 there:=λ_ hm=>let ⟨_,e,_⟩:=hm;⟨Rc e,Rc e⟩
 keep:=λ_ _ hm hk=>hm.at λo e=>hk d (.inl rfl) o e
 notList:=by decide
 notTuple:=by decide
 hint:=λ_ _ _ _ hm hq=>PySem.W.kdl_hint_dict hm.ty hq
 iter:=λ_ _ hh hm=>⟨_,_,(λ_ _ hq=>nE lo hm hq),yA hh (let ⟨_,e,_⟩:=hm;Rt (Rc e)),⟨⟨_,Rb _ rfl,rfl,rfl⟩,hm.at λo e=>QZ _ e⟩⟩
end
section
def Be(ok:HOk P w H h)(e:Rd H d (.dT kvs)):kvs.length<=sizeLine/\(d==sysModules)=false/\(kvs.map (·.1)).Nodup/\∃es ep,RawD h d es ep/\es.size=kvs.length/\∀(i:Nat) p,kvs[i]?=some p->∃x b,es[i]?=some x/\x.key=.ref b/\H b=some (.tup (p.1.map kV)):=by
 obtain⟨z,hd,xs,a,o,en,ep,k,hex,c,f,_,nd⟩:=i7 ok e;have g:=Ta a;have q:kvs.map (·.1)=xs.map (·.1):=by
  apply Ub
  intro i;rw[Rg,Rg];cases l:kvs[i]? with
  |none=>rw[Td (by rw[<- g];exact List.getElem?_eq_none_iff.mp l)];rfl
  |some p=>
   have m:i<xs.length:=by rw[<- g];exact(Q2.mp l).1
   obtain⟨e1,_⟩:=a.at i _ _ l (Q1 m);rw[Q1 m];exact Sy some e1
 refine⟨z,hd,by rw[q];exact nd,en,ep,⟨o,k,hex,c⟩,by rw[Vb f,g],λi p n=>?_⟩;have j:i<xs.length:=by rw[<- g];exact(Q2.mp n).1
 have j:xs[i]?=some xs[i]:=by simp[j]
 obtain⟨_,hb,r⟩:=a.at i _ _ n j;exact⟨_,_,by rw[entry_at f,j];rfl,rfl,hb⟩
def Bf:List V->Hp->VK->Prop:=λxs H Q=>∃d kvs,xs=[.ref d]/\(Rd H d (.dT kvs)\/(Rd H d (.dK [])/\kvs=[]))/\∀l (bs:List Addr),H l=none->bs.length=kvs.length->(∀(i:Nat) p b,kvs[i]?=some p->bs[i]?=some b->H b=some (.tup (p.1.map kV)))->Q (.ref l) (upd H l (.lst (bs.map V.ref)))
noncomputable def Bg:Option Vz->Addr
 |some (Value.ref b)=>b
 |_=>0
def pB{H:Hp}{kvs:List (List bW×V)}{es:Array DictEntry}{a:Array Vz}(q:es.size=kvs.length)(k:∀(i:Nat) p,kvs[i]?=some p->∃x b,es[i]?=some x/\x.key=.ref b/\H b=some (.tup (p.1.map kV)))(it:ItemsOf (λi v=>∃e,es[i]?=some e/\v=e.key) a es.size):∃bs:List Addr,a.toList=bs.map Value.ref/\bs.length=kvs.length/\∀(i:Nat) p b,kvs[i]?=some p->bs[i]?=some b->H b=some (.tup (p.1.map kV)):=by
 obtain⟨r,l⟩:=it;have d:∀i,i<kvs.length->∃b,a[i]?=some (.ref b)/\∀p,kvs[i]?=some p->H b=some (.tup (p.1.map kV)):=λi c=>by
  have ha:i<a.size:=by lia
  obtain⟨e,e1,e2⟩:=l i a[i] (TF ha);obtain⟨x,b,j,m,n⟩:=k i kvs[i] (Q1 c);rw[e1]at j;cases j;refine⟨b,by rw[TF ha,e2,m],λp g=>?_⟩;rw[Q1 c]at g;cases g;exact n
 refine⟨(List.range kvs.length).map λi=>Bg a[i]?,?_,by simp,λi p b g hb=>?_⟩
 .apply Ub
  intro i;rw[Sf,Rg,RH];by_cases c:i<kvs.length
  .obtain⟨b,hb,_⟩:=d i c;rw[hb,U_ c];show _=some (Value.ref (Bg a[i]?));rw[hb];rfl
  .rw[UF (by lia),Td (by simp;lia)];rfl
 .have c:=(Q2.mp g).1;rw[Rg,U_ c]at hb;obtain⟨o,h,f⟩:=d i c;have:o=b:=by have:Bg a[i]?=b:=R0 hb;rw[h]at this;exact this
  subst this;exact f p g
theorem nK:∀bs:List Addr,Vals (bs.map V.ref) (bs.map Value.ref)
 |[]=>.nil
 |_::bs=>.cons rfl (nK bs)
def vn(f:X.calm=true):CallR X (.type "list") Bf:=by
 intro ac s σ H xs us Q I r h;obtain⟨d,kvs,rfl,a,q⟩:=h;rcases a with a|⟨a,rfl⟩
 case inr=>exact uR f ac s σ H _ us Q I r ⟨d,[],_,rfl,.inl rfl,a,Rh _,λl c=>q l [] c rfl λi p b e=>by simp at e⟩
 obtain⟨w,rfl,j⟩:=dR r;cases j;obtain⟨z,hd,_,es,ep,m,c,k⟩:=Be I.aW a;refine PySem.W.kdl_call (wQ (es:=es) (ep:=ep) hd) (I.ok.hd f) m (by rw[c];exact z) λh' tk n g kp e it=>?_;obtain⟨bs,e1,e2,e3⟩:=pB c k it;have e:h'.get? s.heap.objs.size=some { cls:=.type "list",dict:=none,data:=.seq (bs.map Value.ref).toArray g,slots:=#[] }:=by rw[<- e1,Array.toArray_toList];exact e
 exact⟨.ref s.heap.objs.size,_,I.laid (t':=tk) kp (QY _) (show ObjOk X.prog X.w _ h' _ (.lst (bs.map V.ref))from⟨by rw[Q0,e2];exact z,_,g,nK bs,e⟩),rfl,q _ bs (I.aW.fresh (QY _)) e2 e3⟩
def Bh:List V->Hp->VK->Prop:=λxs H Q=>∃d kvs,∃ks:List (List Int),xs=[.ref d]/\Rd H d (.dT kvs)/\kvs.map (·.1)=ks.map iK/\(∀k∈ks,k≠[])/\ks.length<=63/\
 ∀(l:Addr)(a:List i_),H l=none->(∀y∈a,H y.2=some (.tup ((iK y.1).map kV)))->(∀k,k∈a.map (·.1)↔k∈ks)->a.length=ks.length->a.Pairwise (λx y=>dZ x.1 y.1=true)->Q (.ref l) (upd H l (.lst (a.map λy=>.ref y.2)))
def yB(J:X.calm=true):CallR X (.builtin "sorted") Bh:=by
 intro ac s σ H xs us Q I r h;obtain⟨d,kvs,ks,rfl,u,c,v,hz,q⟩:=h;obtain⟨w,rfl,K⟩:=dR r;cases K;obtain⟨z,hd,nd,es,ep,m,E,L⟩:=Be I.aW u;have A:kvs.length=ks.length:=by have:=Sy List.length c;simpa using this
 refine Calls.call_function_entry kind_sorted plain_sorted entry_sorted (args_sorted1 _) ?_;unfold Builtin.«sorted»;refine KE (m:=checkCount "sorted" 1 1 _) (QX (KE (rX (wQ (es:=es) (ep:=ep) hd) (I.ok.hd J) m (by rw[E];exact z) λh1 tk1 B g1 k1 it=>?_)));obtain⟨bs,e1,e2,e3⟩:=pB E L it;have M:B.toList=valsT (ks.zip bs):=by
  rw[e1];unfold valsT;have:(ks.zip bs).map (·.2)=bs:=List.map_snd_zip (by lia)
  conv=>lhs;rw[<- this]
  rw[Sf];rfl
 have n:(ks.zip bs).map (·.1)=ks:=List.map_fst_zip (by lia);have at':∀x∈ks.zip bs,H x.2=some (.tup ((iK x.1).map kV)):=λx f=>by
  obtain⟨i,N⟩:=Rl.mp f;obtain⟨F,O⟩:=Ui.mp N;have g:i<kvs.length:=by rw[A];exact(Q2.mp F).1
  have:=e3 i kvs[i] x.2 (Q1 g) O;have h2:(kvs.map (·.1))[i]?=some (iK x.1):=by rw[c,Rg,F];rfl
  rw[Rg,Q1 g]at h2;rw[<- R0 h2];exact this
 have C:ks.Nodup:=by rw[c]at nd;exact List.Pairwise.of_map iK (λ_ _ h e=>h (by rw[e])) nd
 rw[M];have j:(ks.zip bs).length=ks.length:=by have:=Sy List.length n;simpa using this
 refine KE (U4 ?_ (by show(valsT _).length<=_;simp only[valsT,Q0];rw[j,RB];lia));have l:(h1.push (seqObj "list" (valsT (ks.zip bs)).toArray 0)).get? h1.objs.size=some (seqObj "list" (valsT (ks.zip bs)).toArray 0):=Rb _ rfl;have G:∀b o,s.heap.get? b=some o->(h1.push (seqObj "list" (valsT (ks.zip bs)).toArray 0)).get? b=some o:=λb o e=>QZ _ (k1 b o e);have ge:s.heap.objs.size<=h1.objs.size:=SG g1;refine KE (Sk (R7 slot_list_sort ⟨_,l,rfl⟩ entry_list_sort ?body (args_list_sort _)))
 case body=>
  refine o7 (s:={ s with heap:=h1.push (seqObj "list" (valsT (ks.zip bs)).toArray 0),toks:=tk1 }) l ⟨λx f=>iD (dc I.aW (at' x f)) G,λx f=>v _ (by rw[<- n];exact Q3.mpr ⟨x,f,rfl⟩),by rw[n];exact C⟩ (by lia) λp h2 c2 t P D k2=>⟨_,rfl,?_⟩;have R:H h1.objs.size=none:=I.aW.fresh ge;refine QX ⟨_,rfl,.ref h1.objs.size,_,I.laid (a:=h1.objs.size) (o:=.lst (p.map λy=>.ref y.2)) (t':=tk1) (λb o e=>k2 b o (λz=>?_) (G b o e)) ge ?_,rfl,q h1.objs.size p R (λy S=>at' y (t.mem_iff.mp S)) (λk=>?_) (t.length_eq.trans j) P⟩
  .subst z;exact absurd (Rc e) (Nat.not_lt.mpr ge)
  .refine⟨by rw[Q0,RB,t.length_eq];lia,valsT p,c2,?_,D⟩;have:=nK (p.map (·.2));rw[Sf,Sf]at this;exact this
  .rw[(t.map (·.1)).mem_iff,n]
end
end L2
namespace L4
open PySem PySem.Spec PyProof.Rows L2 L3
section
variable{X:Cx}{scope:Scope}{tg elt:Expr}{ifs:List Expr}{tN capN:List Str}{caps:List Nat}{σ:L2.St}{H1:Hp}{Fin:Addr->List V->Hp->Prop}{J:L2.It}{n:Nat}{gt:TG}{tt:TT}{te:TE}
def kW(u:∀cl C e H3 fp,PG (aV X scope (tN++capN) cl C e H3 fp) tg gt)(v:∀cl C e H3 fp,za (aV X scope (tN++capN) cl C e H3 fp) ifs tt)(w:∀cl C e H3 fp,PE (aV X scope (tN++capN) cl C e H3 fp) elt te)(I:Addr->Nat->List V->Hp->Prop)(z:∀d,H1 d=none->I d 0 [] (upd H1 d (.lst [])))(B:∀{d i c H},I d i c H->H d=some (.lst c))
 (k:∀d i c H,I d i c H->i<n->J.go i H) (l:∀d c H,I d n c H->J.stop n H)
 (hb:∀d i c H x H' o,i<n->I d i c H->J.Cv i H x H'->o.length=tN.length->gt x (o++jP σ caps) H' λf D=>(∀j:Nat,tN.length<=j->f[j]?=(o++jP σ caps)[j]?)/\tt f D λb H3=>if b=true then te f H3 λy s=>s d=some (.lst c)/\c.length<sizeLine/\I d (i+1) (c++[y]) (upd s d (.lst (c++[y])))else I d (i+1) c H3)
 (q:∀d c H,H1 d=none->I d n c H->Fin d c H):ck X scope tg tN capN caps elt ifs σ Fin J H1:=by
 intro d h cl C e fp;refine⟨_,_,_,λi m c H'=>m=n-i/\i<=n/\I d i c H',u cl C e _ fp,v cl C e _ fp,w cl C e _ fp,⟨n,by simp,Rh _,z d h⟩,?_⟩;rintro i m c H' ⟨rfl,K,p⟩;refine⟨B p,?_⟩;by_cases g:i<n
 .refine .inr ⟨k d i c H' p g,λE r o y F=>?_⟩;have:=hb d i c H' E r o g p y F;have e2:∀{A:Prop},(∃t,t<n-i/\(t=n-(i+1)/\i+1<=n/\A))↔A:=⟨λ⟨_,_,_,_,a⟩=>a,λa=>⟨_,by lia,rfl,g,a⟩⟩;simp only[e2];exact this
 .have G:i=n:=by lia
  subst G;exact .inl ⟨l d c H' p,q d c H' h p⟩
end
def qB{a:aF}(h:CV a a):False:=by unfold CV at h;lia
def EB{a b:aF}(h:CV a b)(g:CV b a):False:=by unfold CV at h g;lia
theorem kX:∀{z d:List aF},z.Pairwise CV->d.Pairwise CV->(∀x,x∈z↔x∈d)->z=d
 |[],[],_,_,_=>rfl
 |[],b::_,_,_,h=>nomatch (h b).mpr Q5
 |a::_,[],_,_,h=>nomatch (h a).mp Q5
 |a::t,b::t',p,c,h=>by
  rw[Uz]at p c;have e:a=b:=by
   rcases Q_.mp ((h a).mp Q5)with e|m
   .exact e
   .rcases Q_.mp ((h b).mpr Q5)with e|m'
    .exact e.symm
    .exact(EB (p.1 b m') (c.1 a m)).elim
  subst e;rw[kX p.2 c.2 λx=>?_];have f:=h x;rw[Q_,Q_]at f;constructor
  .intro m;rcases f.mp (.inr m)with e|m'
   .subst e;exact(qB (p.1 x m)).elim
   .exact m'
  .intro m;rcases f.mpr (.inr m)with e|m'
   .subst e;exact(qB (c.1 x m)).elim
   .exact m'
noncomputable def pD(x:aF):D:=.tup [.int x.1,.int x.2]
section
variable{X:Cx}{K:Vx}{mg:Str->Option Vz}{H H':Hp}{a q p d:Addr}{ks:List aF}{RA:aF->Addr}{σ:L2.St}{k:aF}{vs:List V}{Q:VK}{m:Addr->Prop}
theorem Ob{x:aF}{v:V}(h:IsSet H x v):Is H m (pD x) v:=let ⟨p,e,h⟩:=h;⟨p,_,e,h,_,_,rfl,rfl,_,_,rfl,rfl,rfl⟩
theorem Lb{l:List aF}{vs:List V}(h:aL (IsSet H) l vs):IsAll H m (l.map pD) vs:=by
 induction h with
 |nil=>exact rfl
 |cons q _ b=>exact⟨_,_,rfl,Ob q,b⟩
theorem jU{n:Nat}:∀{ds:List D},(∀d∈ds,d.dep<=n)->D.fJ ds<=n
 |[],_=>Rh _
 |d::ds,h=>by have h1:=h d Q5;have h2:=jU λe b=>h e (Q7 _ b);show max d.dep (D.fJ ds)<=n;lia
def Lc(l:List aF):(D.lst (l.map pD)).dep<=50:=by
 have:D.fJ (l.map pD)<=2:=jU λd hd=>by obtain⟨x,_,rfl⟩:=Q3.mp hd;exact Tz rfl
 show D.fJ (l.map pD)+1<=50;lia
def Ld(K:Vx):List V->Hp->VK->Prop:=λxs H Q=>∃x T t b,xs=[x,.ty T]/\Nc K H x t/\kitOne K t (.type T)=some b/\Q (.bl b) H
def pC:CallR X (.builtin "isinstance") (Ld X.K):=sq
def HS(K:Vx)(T:String)(te:TE):TE:=fK (Ld K) (aj te (aj (tC (.ty T)) aE))
theorem Reads.Px{te:TE}{T:String}{x:V}{dd:D}(h:Reads te σ H x)(is:Nc K H x (.type dd.ty))(b:xX T):Reads (HS K T te) σ H (.bl (NJ T dd)):=λQ q=>h _ ⟨x,T,_,_,rfl,is,b K dd,q⟩
theorem Bi{F:List D->Res R}{n:Nat}{ds:List D}{ta:TA}(ha:ReadsA ta σ H vs)(b:vs.length=n)(is:IsAll H (λ_=>True) ds vs)(c:F ds=.ok (.val (.bl true) true []))(k:∀H',Same H H'->Q (.bl true) H'):bO (oh mg n F) [] E0 ta σ H Q:=by refine ha _ ⟨by rw[R_];exact b,ds,λ_=>True,by rw[R_];exact is,?_⟩;rw[c];intro v H' s r;obtain rfl:v=.bl true:=r;exact k H' s
theorem Reads.MX{ta tb:TE}{b:Addr}{v:V}(ha:Reads ta σ H (.ref a))(hb:Reads tb σ H (.ref b))(c:Rd H a (.dT (ks.map λk=>(k2 k,V.ref (RA k)))))(f:k∈ks)(e:H b=some (.tup ((k2 k).map kV))):Reads (jE ta tb) σ H (.ref (RA k)):=λQ q=>ha _ (hb _ ⟨a,_,rfl,.inr ⟨_,k2 k,b,c,rfl,e,by rw[fZ,Re f]⟩,q⟩)
def Le:TS:=cL (tC (.bl false))
end
noncomputable abbrev Rw:=Int×List Int
def HU(x:Rw):aF:=(x.1,x.2.head?.getD 0)
section
variable{K:Vx}{H:Hp}{p:Addr}{σ:L2.St}{k:aF}
theorem Reads.qS(ha:Reads ta σ H (.ref p))(h:Rd H p (.lst xs)):Reads (fK (fB K) (aj ta aE)) σ H (.int xs.length):=λ_ k=>ha _ ⟨p,xs,rfl,.inl (.inl h),k⟩
def Qb:R2:=ui λi j=>.bl (decide (j<=i))
end
def nL(K:Vx):List V->Hp->VK->Prop:=λxs H Q=>∃p a,xs=[.ref p]/\(SqL K H p a\/SqT K H p a)/\∀l,H l=none->Q (.ref l) (upd H l (.lst a))
def gz:CallR X (.type "list") (nL X.K):=pO
noncomputable def Lf(X:Cx)(scope:Scope)(tg a:Expr)(tN capN:List Str)(caps:List Nat)(i:Nat)(b:TI):TS:=λD σ H=>b σ H (ck X scope tg tN capN caps a [] σ λc _ H'=>D.nx (σ.set i (some (.ref c))) H')
section
variable{H:Hp}{k:aF}{D:Ends}
theorem HV{α:Type}{m:Addr->Prop}{f:α->V->Prop}{g:α->L3.D}{xs:List α}{l:List V}(h:aL f xs l):(∀x∈xs,∀v,f x v->Is H m (g x) v)->IsAll H m (xs.map g) l:=by
 induction h with
 |nil=>exact λ_=>rfl
 |cons a _ b=>exact λg=>⟨_,_,rfl,g _ Q5 _ a,b λk c=>g k (Q7 _ c)⟩
end
noncomputable abbrev CW:=List D->Res R
noncomputable abbrev Tr:Addr->Prop:=λ_=>True
def js(a signs:Int)(RL:List Sp.Rule):D:=.tup [.int a,.int signs,.lst (RL.map d4)]
def Ls(As:List Sp.Arr)(RL:List Sp.Rule):aF->List aF:=cO (bL (aZ As)) RL
structure QU where
 (Fp Fm Fc QW QV QP Fh Fb:CW)
section
variable{K:Vx}{H H':Hp}{p d rl:Addr}{σ:L2.St}{vs ws:List V}{Q:VK}{RL:List Sp.Rule}{rooms signs:Int}
theorem Lg(h:RetOk g H v r):Is H Tr r.d v:=by
 cases r with
 |val d fr al=>exact Is.mono (λ_ _ e _=>e) (λ_ _ _ _=>True.intro) h
 |new ds fr=>obtain⟨a,vs,rfl,e,_,b⟩:=h;exact⟨a,vs,rfl,.inl ⟨e,True.intro⟩,IsAll.mono (λ_ _ e _=>e) (λ_ _ _ _=>True.intro) b⟩
 |nX d=>exact Is.mono (λ_ _ e _=>e) (λ_ _ _ _=>True.intro) h
def Bj(a:vs.length=n)(is:IsAll H Tr ds vs)(b:F ds=.ok r)(k:∀v H',Same H H'->Is H' Tr r.d v->Q v H'):oh mg n F (vs++[]) H Q E0:=by refine⟨by rw[R_];exact a,ds,Tr,by rw[R_];exact is,?_⟩;rw[b];exact λv H' s h=>k v H' s (Lg h)
def HW{m:Addr->Prop}{dd:D}(h:Is H m dd v)(s:Same H H'):Is H' Tr dd v:=Is.mono (λc u e _=>s c u e) (λ_ _ _ _=>True.intro) h
def HX(mg:Str->Option Vz)(Fm Fc:CW)(i:Int):TE:=bO (oh mg 1 Fm) [] E0 (aj (bO (oh mg 2 Fc) [] E0 (aj (au 0) (aj (tC (.int i)) aE))) aE)
def Bk{sd:D}{i x y:Int}(h0:σ[0]?=some (some v0))(is:Is H Tr sd v0)(a:Fc [sd,.int i]=.ok (.val (.int x) true []))(hm:Fm [.int x]=.ok (.val (.int y) true []))(k:∀H',Same H H'->Q (.int y) H'):HX mg Fm Fc i σ H Q:=by refine⟨_,h0,Bj (ds:=[sd,.int i]) rfl ⟨_,_,rfl,is,_,_,rfl,rfl,rfl⟩ a λv H1 s1 e1=>Bj (ds:=[.int x]) rfl ⟨_,_,rfl,e1,rfl⟩ hm λw b s2 e2=>?_⟩;cases(show w=.int y from e2);exact k b (s1.trans s2)
structure tT(H:Hp) (rooms signs:Int) (RL:List Sp.Rule) (p l:Addr) (ws:List V):Prop where
 t:H p=some (.tup [.int rooms,.int signs,.ref l])
 l:H l=some (.lst ws)
 i:IsAll H Tr (RL.map d4) ws
def tT.is{l:Addr}(h:tT H rooms signs RL p l ws):Is H Tr (js rooms signs RL) (.ref p):=⟨p,_,rfl,h.t,_,_,rfl,rfl,_,_,rfl,rfl,_,_,rfl,⟨l,ws,rfl,.inl ⟨h.l,True.intro⟩,h.i⟩,rfl⟩
def tT.at{l:Addr}(h:tT H rooms signs RL p l ws):cV H RL p l ws:=⟨⟨_,_,h.t⟩,.inl h.l,wL (λx v=>AW) h.i⟩
def JK(h:IsAll H m ds vs)(s:Same H H'):IsAll H' Tr ds vs:=IsAll.mono (λc u e _=>s c u e) (λ_ _ _ _=>True.intro) h
def tT.more{l:Addr}(h:tT H rooms signs RL p l ws)(s:Same H H'):tT H' rooms signs RL p l ws:=⟨s _ _ h.t,s _ _ h.l,JK h.i s⟩
def HY(a:TE):TE:=cI (aj (au 2) (aj (au 3) (aj a aE)))
def Ph(a:TE)(σ:L2.St)(H:Hp)(RL:List Sp.Rule):Prop:=∀Q:VK,(∀l ws H1,Same H H1->H l=none->H1 l=some (.lst ws)->IsAll H1 Tr (RL.map d4) ws->Q (.ref l) H1)->a σ H Q
def HZ(h2:σ[2]?=some (some (.int rooms)))(h3:σ[3]?=some (some (.int signs)))(b:Ph tx σ H RL)(k:∀p l ws H',Same H H'->H p=none->H l=none->tT H' rooms signs RL p l ws->Q (.ref p) H'):HY tx σ H Q:=by refine⟨_,h2,_,h3,b _ λl ws H1 s1 nl c e=>⟨by show 3<=_;rw[RB];lia,λp a=>?_⟩⟩;have s2:=aw (o:=.tup [.int rooms,.int signs,.ref l]) a;exact k p l ws _ (s1.trans s2) (s1.free a) nl ⟨ag,s2 _ _ c,JK e s2⟩
def Pi(K:Vx):TE:=fK (nL K) (aj (au 5) aE)
def Lh(b:σ[5]?=some (some (.ref rl)))(c:Rd H rl (.lst ws))(e:IsAll H Tr (RL.map d4) ws):Ph (Pi K) σ H RL:=λQ q=>⟨_,b,rl,ws,rfl,.inl (.inl c),λl a=>q l ws _ (aw a) a ag (JK e (aw a))⟩
end
def Li(h:IsRule H r v):Is H m (d4 r) v:=by obtain⟨p,q,rfl,a,b⟩:=h;exact⟨p,_,rfl,a,_,_,rfl,rfl,_,_,rfl,rfl,_,_,rfl,rfl,_,_,rfl,⟨q,_,rfl,b,jk _⟩,rfl⟩
structure QS where
 (QT Fs Dj:Scope)
 (QR QJ Gf tL Gg tS:Expr)
 (QQ tN capN:List Str)
 (caps:List Nat)
section
def cR:R2:=rI (λ_ j=>0<j) λi j=>.int (i%j)
def jV:R2:=rI JW λi j=>.int (i/j)
end
structure xc(l z:List Int):Prop where
 m:∀x,x∈z↔x∈l
 p:z.Pairwise (·< ·)
inductive lb(F:aF->List Int) (room:Int):List Int->List Int->List aF->Prop
 |nil:lb F room [] [room] []
 |snoc {st rooms:List Int} {hs:List aF} {s:Int} {rooms':List Int} (h:lb F room st rooms hs) (so:xc (rooms.flatMap λr=>F (r,s)) rooms'):lb F room (st++[s]) rooms' (hs++rooms.map λr=>(r,s))
structure Cr(F:aF->List Int) (U:List Int):Prop where
 n:∀k,(F k).length<=7
 u:∀k,∀x∈F k,x∈U
 l:U.length<=7
def lb.dE{F:aF->List Int}(f:Cr F U)(e:room∈U){st a:List Int}{c:List aF}(h:lb F room st a c):a.length<=7/\c.length<=7*st.length:=by
 induction h with
 |nil=>exact⟨by show 1<=7;decide,QY _⟩
 |@snoc st a c s b h so g=>refine⟨Rx (Sp.nodup_sub (so.p.imp λh=>Int.ne_of_lt h) λx d=>?_) f.l,by simp;lia⟩;obtain⟨r,_,d⟩:=SE.mp ((so.m x).mp d);exact f.u _ x d
def Pj{F:aF->List Int}(h:∀k,(F k).length<=7):∀l:List aF,(l.flatMap F).length<=7*l.length:=by
 intro l;induction l with
 |nil=>exact QY _
 |cons x l a=>have:=h x;rw[SL,Q8,Rq];lia
section
variable{K:Vx}{B0 B H H':Hp}{a q p:Addr}{ks:List aF}{F:aF->List Int}{RA:aF->Addr}{D:Ends}{σ:L2.St}{vs tv:List V}{ts:List aF}
def Bl(X:Cx):List V->Hp->VK->Prop:=λvs H Q=>∃l xs,vs=[.ref l]/\Rd H l (.lst (xs.map V.int))/\xs.length<=300/\∀p es its,H p=none->its.map (·.1)=xs->d7 (eI X.prog X.w) es its->Q (.ref p) (upd H p (.ext λh=>SetAt X.w h p es))
def vp(b:X.calm=true):CallR X (.type "set") (Bl X):=uN b
def Bm(X:Cx):List V->Hp->VK->Prop:=λvs H Q=>∃p es its,vs=[.ref p]/\H p=some (.ext λh=>SetAt X.w h p es)/\d7 (eI X.prog X.w) es its/\its.length<=63/\
 ∀(l:Addr)(ks:List Int),H l=none->(∀k,k∈ks↔k∈its.map (·.1))->ks.Pairwise (·< ·)->Q (.ref l) (upd H l (.lst (ks.map V.int)))
def vq(b:X.calm=true):CallR X (.builtin "sorted") (Bm X):=oe b
theorem H_(h:Reads ta σ H (.ref l))(f:Rd H l (.lst (xs.map .int)))(hz:xs.length<=63)(k:∀b z H',Same H H'->H b=none->H' b=some (.lst (z.map .int))->xc xs z->Q (.ref b) H'):fK (Bm X) (aj (fK (Bl X) (aj ta aE)) aE) σ H Q:=by refine h _ ⟨l,xs,rfl,f,by lia,λp es its d e v=>⟨p,es,its,rfl,ag,v,?_,λb ks c hm pw=>k b ks _ ((aw d).trans (aw c)) ((aw d).free c) ag ⟨λx=>by rw[hm,e],pw⟩⟩⟩;have:=Sy List.length e;rw[Q0]at this;lia
def Lj(K:Vx):TS:=d9 (cu K (au 5)) (aA 7) (b8 (qZ K "list" jB (au 6) (aj (dG (au 0) (au 7) (dS aE)) aE)))
def Qc{m rl g gl:Addr}(O:Gr A4 B0 B a ks F RA)(E:Same B H)(y:H g=some (.lst tv))(al:aL (IsSet H) ts tv)(G:g≠gl)(I:B gl=none)(A:H gl=some (.lst []))(hz:ts.length<=7)(C:∀k,(F k).length<=7)(J:σ=[some (.ref a),some v1,some (.ref m),some (.ref rl),x4,some (.ref g),some (.ref gl),x7])
 (k:∀x7 H',Kp gl H H'->Same B H'->H' gl=some (.lst ((ts.flatMap F).map .int))->D.nx [some (.ref a),some v1,some (.ref m),some (.ref rl),x4,some (.ref g),some (.ref gl),x7] H'):Lj K D σ H:=by
 subst J;refine⟨_,rfl,g,rfl,⟨tv,SqL.of y⟩,cM (K:=K) (a:=g) (xs:=tv) (λi f H'=>(∃x7,f=[some (.ref a),some v1,some (.ref m),some (.ref rl),x4,some (.ref g),some (.ref gl),x7])/\Kp gl H H'/\Same B H'/\H' gl=some (.lst (((ts.take i).flatMap F).map .int))) ⟨⟨x7,rfl⟩,λc u e _=>e,E,A⟩ (λi f H' _ ⟨_,kp,_⟩=>SqL.of (kp _ _ y G)) (λi v f H' L ⟨⟨x7,s⟩,kp,l,d⟩=>?_) λf H' ⟨⟨x7,s⟩,kp,l,d⟩=>?_⟩
 .subst s;obtain⟨t,w,b,rfl,hb⟩:=al.get L;have M:b≠gl:=λz=>by rw[z,A]at hb;cases hb
  have hb:=kp _ _ hb M;have x:=O.more jS l;refine⟨_,rfl,.inl ⟨rfl,_,SqL.of d⟩,_,rfl,a,rfl,.inr ⟨_,.inl x.r⟩,_,rfl,Rh _,λq2 h=>?_⟩;have j:=aw (o:=.lst []) h;refine⟨_,DGet.t (k:=k2 t) (j _ _ x.r) (j _ _ hb),?_⟩;obtain⟨N,Q,e1,e2,e3⟩:=qA x h t;rw[isI e3]at e2;rw[e1];have h1:=Pj C (ts.take i);have h2:=C t;have h3:=Sj i ts;have P:ts.take (i+1)=ts.take i++[t]:=by rw[Ry,w];rfl
  refine⟨gl,N,_,_,rfl,rfl,j _ _ d,e2,SG (jx (by simp;simp at h1;lia)),⟨_,rfl⟩,λc u e n=>?_,λc u e=>?_,?_⟩
  .rw[ai n];exact j _ _ (kp _ _ e n)
  .rw[ai λz=>by rw[z,I]at e;cases e];exact j _ _ (l _ _ e)
  .rw[ag,P,To,RX,SL,List.flatMap_nil,R_]
 .subst s;rw[<- al.len,R8]at d;exact k x7 H' kp l d
inductive tM:Sp
 |mk {B0 H:Hp} {a p sl:Addr} {ks:List aF} {F:aF->List Int} {RA:aF->Addr} {room:Int} {bq U:List Int} {Q:VK} {E:XK} (O:Gr A4 B0 H a ks F RA) (hp:H p=some (.tup [.int room,.ref sl])) (hs:Rd H sl (.lst (bq.map .int))) (f:Cr F U) (hr:room∈U) (hz:bq.length<1000) (k:∀l vs hs rooms H',Same H H'->H l=none->H' l=some (.lst vs)->aL (IsSet H') hs vs->lb F room bq rooms hs->Q (.ref l) H'):tM [.ref a,.ref p] H Q E
def yC(h:tM vs H Q E):vs.length=2:=by cases h;rfl
def Oc(X:Cx):TS:=bb (fK (Bm X) (aj (fK (Bl X) (aj (au 6) aE)) aE)) (aA 3)
def Od(X:Cx):TS:=aK (bb (dS aE) (aA 6)) (aK (Lj X.K) (Oc X))
def Oe(X:Cx):TS:=aK (b8 (qZ X.K "list" jB (au 2) (aj (au 5) aE))) (Od X)
def Of(X:Cx)(scope:Scope)(tg b:Expr)(tN capN:List Str)(caps:List Nat):TS:=aK (Lf X scope tg b tN capN caps 5 (cu X.K (au 3))) (Oe X)
def Ll:TE:=cI (aj (au 0) (aj (au 1) aE))
def Og(X:Cx)(scope:Scope)(tg b:Expr)(tN capN:List Str)(caps:List Nat):TS:=aK (bb (dS aE) (aA 2)) (aK (bb (dS (aj (tI X.K 1 0) aE)) (aA 3)) (aK (d9 (cu X.K (tI X.K 1 1)) (aA 4) (Of X scope tg b tN capN caps)) (cL (au 2))))
theorem Bn{scope:Scope}{tg elt:Expr}{tN capN:List Str}{caps:List Nat}(h1:tN.length=1)(hc:caps=[4])(hg:∀cl C I H3 fp,PG (aV X scope (tN++capN) cl C I H3 fp) tg (aA 0)) (he:∀cl C I H3 fp,PE (aV X scope (tN++capN) cl C I H3 fp) elt Ll) (h:tM vs H Q E):Og X scope tg elt tN capN caps {nx:=λ_ H'=>Q .bz H',rt:=Q} (bp ["behind","standing","heads","rooms","sign","tops","gone","top"] vs) H:=by
 obtain @⟨B0,H,a,p,sl,ks,F,RA,room,bq,U,Q,E,O,hp,hs,f,hr,hz,k⟩:=h;refine⟨Rh _,λd hh=>?_⟩;have s1:=aw (o:=.lst []) hh;have J:upd H d (.lst []) d=some (.lst []):=ag;generalize upd H d (.lst [])=H1 at s1 J;refine Reads.ix (n:=0) (.va (i:=1) rfl) (s1 _ _ hp) (v:=.int room) rfl _ ⟨SG (jx (by show 1<15000000;decide)),λrl g=>?_⟩;have s2:=aw (o:=.lst [.int room]) g;have hr2:upd H1 rl (.lst [.int room]) rl=some (.lst ([room].map .int)):=ag;have nrl:H rl=none:=s1.free g;have L:d≠rl:=ax J g;generalize upd H1 rl (.lst [.int room])=H2 at s2 hr2;have M:=s1.trans s2;refine ff (Reads.ix (.va (i:=1) rfl) (M _ _ hp) (v:=.ref sl) rfl _ ⟨sl,rfl,⟨_,.inl (aT M hs)⟩,?_⟩);refine cM (K:=X.K) (a:=sl) (xs:=bq.map .int) (λi A H'=>∃rl b hs m,(∃x4 x5 x6 x7,A=[some (.ref a),some (.ref p),some (.ref d),some (.ref rl),x4,x5,x6,x7])/\Same H H'/\d≠rl/\H' d=some (.lst m)/\H' rl=some (.lst (b.map .int))/\aL (IsSet H') hs m/\lb F room (bq.take i) b hs) ⟨rl,[room],[],[],⟨none,none,none,none,rfl⟩,M,L,s2 _ _ J,hr2,.nil,.nil⟩ (λi A H' _ ⟨_,_,_,_,_,sm,_⟩=>.inl (aT sm hs)) (λi v A H' hi q=>?_) λA H' q=>?_
 .obtain⟨rl,b,N,m,⟨x4,x5,x6,x7,rfl⟩,sm,L,G,g,al,ow⟩:=q;rw[Rg]at hi;obtain⟨s,es,rfl⟩:=Ss.mp hi;obtain⟨f1,f2⟩:=ow.dE f hr;have et:bq.take (i+1)=bq.take i++[s]:=by rw[Ry,es];rfl
  have lt:=Sj i bq;refine⟨_,rfl,rl,rfl,⟨_,SqL.of g⟩,FZ (te:=Ll) (ws:=λu=>[.int u,.int s]) (cap:=[some (.int s)]) h1 (by rw[hc];rfl) hg he (λu H5 P=>.t (.c (.va rfl) (.c (.va rfl) .ni)) rfl) (.inl g) (by lia) λtl tv H3 nD I R al3=>?_⟩;have ntl:H tl=none:=sm.free nD;have x:=I _ _ G;have nth:tl≠d:=λz=>by rw[z,G]at nD;cases nD
  have S:aL (IsSet H3) (b.map λr=>(r,s)) tv:=by have:=al3.Fy (T:=IsSet H3) (λu=>(u,s)) id λu v ⟨p,e,hp⟩=>⟨p,e,hp⟩;rw[List.map_id]at this;exact this
  refine⟨_,rfl,.inl ⟨rfl,_,SqL.of x⟩,_,rfl,d,tl,_,_,rfl,rfl,x,R,SG (jx (by rw[<- al.len,<- S.len];simp;lia)),Rh _,λgl l=>?_⟩;have k4:Kp d H3 (upd H3 d (.lst (m++tv))):=λc u e n=>by rw[ai n];exact e
  have kt4:KT H3 (upd H3 d (.lst (m++tv))):=.upd x λ_ z=>(nomatch z);have j:upd H3 d (.lst (m++tv)) d=some (.lst (m++tv)):=ag;have V:Same H (upd H3 d (.lst (m++tv))):=λc u e=>by rw[ai λz=>by rw[z,hh]at e;cases e];exact I _ _ (sm _ _ e)
  generalize upd H3 d (.lst (m++tv))=H4 at k4 kt4 j V l;have P:=aw (o:=.lst []) l;have W:upd H4 gl (.lst []) gl=some (.lst []):=ag;have ngl:H gl=none:=V.free l;have ngt:tl≠gl:=λz=>by rw[<- z,k4 _ _ R nth]at l;cases l
  have ngh:d≠gl:=ax j l;generalize upd H4 gl (.lst [])=H5 at P W;have Y:KT H3 H5:=kt4.trans (.of P);refine Qc (B:=H) O (V.trans P) (P _ _ (k4 _ _ R nth)) (S.mono (a_ Y)) ngt ngl W (by simp;lia) f.n rfl λx7 H6 Z sm6 hg6=>?_;have kt6:KT H5 H6:=λc w e=>Z _ _ e λz=>by rw[z,W]at e;cases e
  have f3:=Pj f.n (b.map λr=>(r,s));rw[Q0]at f3;refine H_ (X:=X) (.va (i:=6) rfl) (.inl hg6) (by lia) λrl' z H7 s7 nl7 hl7 so=>?_;have hh7:=s7 _ _ (Z _ _ (P _ _ j) ngh);refine⟨rl',z,N++b.map (λr=>(r,s)),m++tv,⟨_,_,_,_,rfl⟩,sm6.trans s7,(λy=>by rw[<- y,Z _ _ (P _ _ j) ngh]at nl7;cases nl7),hh7,hl7,((al.mono (a_ ((KT.of I).trans (Y.trans (kt6.trans (.of s7)))))).app (S.mono (a_ (Y.trans (kt6.trans (.of s7)))))),?_⟩;rw[et];exact .snoc ow (by rw[List.flatMap_map]at so;exact so)
 .obtain⟨rl,b,N,m,⟨x4,x5,x6,x7,rfl⟩,sm,L,G,g,al,ow⟩:=q;rw[Q0,R8]at ow;exact⟨_,rfl,k d m N b H' sm hh G al ow⟩
end
inductive uc(Z:aF->List aF):Nat->List aF->List aF->List aF->Prop
 |done {n:Nat} {ks:List aF}:uc Z n ks [] ks
 |old {n:Nat} {ks bM ks':List aF} {h:aF} (hk:h∈ks) (r:uc Z n ks bM ks'):uc Z (n+1) ks (bM++[h]) ks'
 |new {n:Nat} {ks bM ks':List aF} {h:aF} (hk:h∉ks) (f1:bM.length+(Z h).length<100000) (f2:ks.length<1000) (r:uc Z n (ks++[h]) (bM++Z h) ks'):uc Z (n+1) ks (bM++[h]) ks'
structure Am(H:Hp) (d:Addr) (ks:List aF) (Z:aF->List aF) (AA:aF->Addr):Prop where
 r:H d=some (.dT (ks.map λk=>(k2 k,.ref (AA k))))
 v:∀k∈ks,∃vs,H (AA k)=some (.lst vs)/\aL (IsSet H) (Z k) vs
section
variable{K:Vx}{sP:Sp}{B0 B H H':Hp}{a a3 q p d dl:Addr}{ks ks3 ksF bM:List aF}{Z:aF->List aF}{RA LA AA:aF->Addr}{D:Ends}{σ:L2.St}{vs dv:List V}{Q:VK}{E:XK}
theorem Am.kp(h:Am H d ks Z AA)(k:Kp c H H')(kt:KT H H')(n:d≠c)(m:∀j∈ks,AA j≠c):Am H' d ks Z AA:=⟨k _ _ h.r n,λj b=>let ⟨vs,e,al⟩:=h.v j b;⟨vs,k _ _ e (m j b),al.mono (a_ kt)⟩⟩
theorem Am.more(h:Am H d ks Z AA)(s:Same H H'):Am H' d ks Z AA:=⟨s _ _ h.r,λj b=>let ⟨vs,e,al⟩:=h.v j b;⟨vs,s _ _ e,al.mono (a_ (.of s))⟩⟩
theorem Am.put(h:Am H d ks Z AA)(g:k∉ks)(f:H q=some (.lst ws))(al:aL (IsSet H) (Z k) ws):Am (upd H d (.dT ((ks.map λk=>(k2 k,V.ref (AA k)))++[(k2 k,.ref q)]))) d (ks++[k]) Z (jb AA k q):=by
 have kt:KT H (upd H d (.dT ((ks.map λk=>(k2 k,V.ref (AA k)))++[(k2 k,.ref q)]))):=.upd h.r λ_ z=>(nomatch z);have ne:∀j∈ks,j≠k:=λj hj z=>g (z▸hj);have nl:∀{c b},H c=some (.lst b)->c≠d:=λe z=>by rw[z,h.r]at e;cases e
 refine⟨?_,λj hj=>?_⟩
 .rw[ag,RX];congr 3
  .exact Sz λj hj=>by rw[cm (ne j hj)]
  .show _=[(k2 k,V.ref (jb AA k q k))];rw[cC]
 .rcases Rj.mp hj with hj|hj
  .obtain⟨vs,e,al⟩:=h.v j hj;rw[cm (ne j hj)];exact⟨vs,by rw[ai (nl e)];exact e,al.mono (a_ kt)⟩
  .rw[Q9.mp hj,cC];exact⟨ws,by rw[ai (nl f)];exact f,al.mono (a_ kt)⟩
def Oh(K:Vx):TS:=b8 (qZ K "list" jB (au 5) (aj (jE (au 4) (au 6)) aE))
def Lm(K:Vx):TS:=d8 (bI (bj (AC true) (au 6) (au 4))) (aK (oR (au 4) (au 6) (dG (au 3) (au 6) (dS aE))) (Oh K)) cq
def Lo(K:Vx):TS:=aK (bb (zC K "list" GH (au 5)) (aA 6)) (Lm K)
def EC(K:Vx)(t:TE):TT:=λσ H Q=>t σ H λx H'=>∃k,GA K x H' k/\Q k H'
def Lp(K:Vx):TS:=kA (EC K (au 5)) (Lo K)
structure Ju(B H:Hp) (d dl:Addr) (ks bM:List aF) (Z:aF->List aF) (AA:aF->Addr):Prop where
 a:Am H d ks Z AA
 s:Same B H
 n:∀j∈ks,AA j≠dl
 l:∃dv,H dl=some (.lst dv)/\aL (IsSet H) bM dv
def oq(v0 b v2:V)(a3 d dl:Addr)(x6:Option V):L2.St:=[some v0,some b,some v2,some (.ref a3),some (.ref d),some (.ref dl),x6]
def vt:cJ (ks.map λk=>(k2 k,V.ref (AA k))) (k2 k)=if k∈ks then some (.ref (AA k))else none:=fZ
theorem Qd{v0 i v2:V}{x6:Option V}(O:Gr IsSet B0 B a3 ks3 Z LA)(nd:B d=none)(nl:B dl=none)(S:Ju B H d dl ks bM Z AA)(lp:uc Z n ks bM ksF)(hs:σ=oq v0 i v2 a3 d dl x6)(k:∀x6 AA H',Ju B H' d dl ksF [] Z AA->D.nx (oq v0 i v2 a3 d dl x6) H'):Lp K D σ H:=by
 subst hs;refine⟨λm σ H=>∃x6 ks bM AA,σ=oq v0 i v2 a3 d dl x6/\Ju B H d dl ks bM Z AA/\uc Z m ks bM ksF,⟨n,x6,ks,bM,AA,rfl,S,lp⟩,?_⟩;clear S lp;rintro m σ H ⟨x6,ks,bM,AA,rfl,⟨A,sm,nn,dv,g,al⟩,lp⟩;refine⟨_,rfl,_,.inl ⟨_,SqL.of g,rfl⟩,?_⟩;have step:∀{bM h},aL (IsSet H) (bM++[h]) dv->(∃N:L2.St->Hp->Prop,(∀b H1,IsSet H1 h (.ref b)->∀zs,H1 dl=some (.lst zs)->aL (IsSet H1) bM zs->Am H1 d ks Z AA->Same B H1->Lm K {D with nx:=N,ct:=N,bk:=D.nx} (oq v0 i v2 a3 d dl (some (.ref b))) H1)/\∀f H',N f H'->∃L,L<m/\∃x6 ks bM AA,f=oq v0 i v2 a3 d dl x6/\Ju B H' d dl ks bM Z AA/\uc Z L ks bM ksF)->if(!dv.isEmpty)=true then ∃N:L2.St->Hp->Prop,(∀f H',N f H'->∃L,L<m/\∃x6 ks bM AA,f=oq v0 i v2 a3 d dl x6/\Ju B H' d dl ks bM Z AA/\uc Z L ks bM ksF)/\Lo K {D with nx:=N,ct:=N,bk:=D.nx} (oq v0 i v2 a3 d dl x6) H else D.nx (oq v0 i v2 a3 d dl x6) H:=λ{bM h} al ⟨N,h1,h2⟩=>by
  obtain⟨zs,_,rfl,al',b,rfl,hb⟩:=al.vN;rw[Re (by simp)];refine⟨N,h2,_,rfl,.inl ⟨rfl,_,SqL.of g⟩,dl,zs++[.ref b],.ref b,rfl,rfl,g,by simp,?_⟩;rw[List.dropLast_concat];have kt:KT H (upd H dl (.lst zs)):=.upd g λ_ z=>(nomatch z);have kp:Kp dl H (upd H dl (.lst zs)):=λc u e n=>by rw[ai n];exact e
  exact h1 b _ ⟨b,rfl,kt _ _ hb⟩ zs ag (al'.mono (a_ kt)) (A.kp kp kt (λz=>by rw[<- z,A.r]at g;cases g) nn) λc u e=>by rw[ai λz=>by rw[z,nl]at e;cases e];exact sm _ _ e
 cases lp with
 |done=>cases al;exact di (k x6 AA H ⟨A,sm,nn,[],g,.nil⟩)
 |@old m _ bM _ h J lp=>refine step al ⟨λf H'=>∃x6,f=oq v0 i v2 a3 d dl x6/\Ju B H' d dl ks bM Z AA,λb H1 ⟨b',e,hb⟩ zs hz C M s1=>?_,λf H' ⟨x6,e,s⟩=>⟨m,SQ _,x6,ks,bM,AA,e,s,lp⟩⟩;cases e;refine⟨_,rfl,_,rfl,d,_,rfl,.inl (DGet.t (k:=k2 h) M.r hb),⟨_,rfl,?_⟩⟩;rw[vt,Re J];exact di ⟨_,rfl,M,s1,nn,zs,hz,C⟩
 |@new m _ bM _ h J f1 f2 lp=>
  refine step al ⟨λf H'=>∃x6 AA,f=oq v0 i v2 a3 d dl x6/\Ju B H' d dl (ks++[h]) (bM++Z h) Z AA,λb H1 ⟨b',e,hb⟩ zs hz C M s1=>?_,λf H' ⟨x6,AA,e,s⟩=>⟨m,SQ _,x6,_,_,AA,e,s,lp⟩⟩;cases e;refine⟨_,rfl,_,rfl,d,_,rfl,.inl (DGet.t (k:=k2 h) M.r hb),⟨_,rfl,?_⟩⟩;rw[vt,Rf J];have O1:=O.more a_ s1;refine iT ⟨_,rfl,a3,rfl,.inr ⟨_,.inl O1.r⟩,_,rfl,Rh _,λq2 l=>?_⟩;have y:=aw (o:=.lst []) l;refine⟨_,DGet.t (k:=k2 h) (y _ _ O1.r) (y _ _ hb),?_⟩;obtain⟨F,ov,e1,e2,e3⟩:=qA O1 l h;have np:F≠dl:=λz=>by
   rw[fZ]at e1;by_cases m:h∈ks3
   .rw[Re m]at e1;cases e1;obtain⟨_,vs,e,_⟩:=O.v h m;rw[z,nl]at e;cases e
   .rw[Rf m]at e1;cases e1;rw[z,hz]at l;cases l
  rw[e1];have P:=M.more y;have e3:=e3.mono (a_ (.of y));have G:=y _ _ hb;have w:=y _ _ hz;have al2:=C.mono (a_ (.of y));have s2:=s1.trans y;generalize upd H1 q2 (.lst [])=R at e2 P e3 G w al2 s2;have A3:=P.put J e2 e3;have T:dl≠d:=λz=>by rw[z,P.r]at w;cases w
  have kt:KT R (upd R d (.dT ((ks.map λk=>(k2 k,V.ref (AA k)))++[(k2 h,.ref F)]))):=.upd P.r λ_ z=>(nomatch z);refine⟨_,rfl,_,rfl,d,_,rfl,DPut.t P.r (k:=k2 h) G (jx (by rw[Q0];lia)),?_⟩;rw[dX _ (by rw[vt,Rf J])];have U:Same B (upd R d (.dT ((ks.map λk=>(k2 k,V.ref (AA k)))++[(k2 h,.ref F)]))):=λc u e=>by rw[ai λz=>by rw[z,nd]at e;cases e];exact s2 _ _ e
  have x:upd R d (.dT ((ks.map λk=>(k2 k,V.ref (AA k)))++[(k2 h,.ref F)])) dl=some (.lst zs):=by rw[ai T];exact w
  have W:=kt _ _ G;have al3:=al2.mono (a_ kt);generalize upd R d (.dT ((ks.map λk=>(k2 k,V.ref (AA k)))++[(k2 h,.ref F)]))=H3 at A3 kt U x W al3;have mh:h∈ks++[h]:=RM _ Q5;obtain⟨ws,e5,X⟩:=A3.v h mh;refine⟨_,rfl,.inl ⟨rfl,_,SqL.of x⟩,Reads.MX (v:=.bz) (.va rfl) (.va rfl) (.inl A3.r) mh W _ ⟨dl,_,_,_,rfl,rfl,x,e5,SG (jx (by rw[<- al3.len,<- X.len];lia)),_,jb AA h F,rfl,?_⟩⟩;have I:KT H3 (upd H3 dl (.lst (zs++ws))):=.upd x λ_ z=>(nomatch z);have Y:∀j∈ks++[h],jb AA h F j≠dl:=λj hj=>by
   rcases Rj.mp hj with hj|hj
   .rw[cm λz:j=h=>J (z▸hj)];exact nn j hj
   .rw[Q9.mp hj,cC];exact np
  exact⟨A3.kp (c:=dl) (λc u e n=>by rw[ai n];exact e) I (Si T) Y,λc u e=>by rw[ai λz=>by rw[z,nl]at e;cases e];exact U _ _ e,Y,_,ag,(al3.mono (a_ I)).app (X.mono (a_ I))⟩
structure Ft(sP:Sp) (H:Hp) (RL:List Sp.Rule) (As:List Sp.Arr) (p sp q:Addr) (room:Int) (bq:List Int):Prop where
 h:∃l ws,cV H RL p l ws
 i:K7 sP H (.ref p) As
 a:As.length<1000
 n:RL.length<1000
 f:JJ (cO (bL (aZ As)) RL)
 u:∃U,Cr (aZ As) U/\room∈U
 p:H sp=some (.tup [.int room,.ref q])/\Rd H q (.lst (bq.map .int))
 z:bq.length<1000
structure yZ(RL:List Sp.Rule) (As:List Sp.Arr) (room:Int) (bq:List Int) (Z:aF->List aF) (ks:List aF):Prop where
 s:∀k,kc (cO (bL (aZ As)) RL k) (Z k)
 l:∃hs rooms n,lb (aZ As) room bq rooms hs/\uc Z n [] hs ks
def Bo(RL:List Sp.Rule)(As:List Sp.Arr)(c:Int)(bq:List Int):Prop:=∀Z e b,(∀k,kc (cO (bL (aZ As)) RL k) (Z k))->lb (aZ As) c bq b e->∃n ks,uc Z n [] e ks
inductive y_(sP:Sp):Sp
 |mk {H:Hp} {RL:List Sp.Rule} {As:List Sp.Arr} {p sp q:Addr} {room:Int} {bq:List Int} {Q:VK} {E:XK} (i:Ft sP H RL As p sp q room bq) (ok:Bo RL As room bq) (k:∀d Z AA ks H',Same H H'->H d=none->Am H' d ks Z AA->yZ RL As room bq Z ks->Q (.ref d) H'):y_ sP [.ref p,.ref sp] H Q E
def Bp(h:y_ sP vs H Q E):vs.length=2:=by cases h;rfl
def Oi(K:Vx):TS:=aK (bb (bO tM [] E0 (aj (au 2) (aj (au 1) aE))) (aA 5)) (aK (Lp K) (cL (au 4)))
def Qe(K:Vx)(sP:Sp):TS:=aK (bb (bO (yU sP) [] E0 (aj (au 0) aE)) (aA 2)) (aK (bb (bO yV [] E0 (aj (au 0) (aj (au 2) aE))) (aA 3)) (aK (bb fV (aA 4)) (Oi K)))
theorem ED(h:y_ sP vs H Q E):Qe K sP {nx:=λ_ H'=>Q .bz H',rt:=Q} (bp ["house","standing","behind","leading","among","due","head"] vs) H:=by obtain @⟨H,RL,As,p,sp,q,room,bq,Q,E,⟨⟨l,ws,h⟩,hP,ha,hl,dE,⟨U,fu,hr⟩,⟨hp,hq⟩,hz⟩,ok,k⟩:=h;refine⟨_,rfl,.mk hP (by lia) λa ks RA H1 O=>⟨_,rfl,_,rfl,.mk (h.same O.s) O (λk=>by have:=jq As k;lia) hl dE λa3 Z LA t g d hd=>?_⟩⟩;have i:=aw (o:=.dT []) hd;have c:upd t d (.dT []) d=some (.dT []):=ag;generalize upd t d (.dT [])=H3 at i c;have e:=g.g.s.trans i;have f:=O.s.trans e;refine⟨_,rfl,_,rfl,.mk (O.more jS e) (f _ _ hp) (aT f hq) fu hr hz λdl dv u b H4 v m r al ow=>?_⟩;obtain⟨n,ksF,lp⟩:=ok Z u b g.s ow;exact Qd (x6:=none) (ks:=[]) (AA:=λ_=>0) g.g hd (i.free m) ⟨⟨v _ _ c,λk w=>(nomatch w)⟩,i.trans v,λj x=>(nomatch x),dv,r,al⟩ lp rfl λx6 AA y S=>⟨_,rfl,k d Z AA ksF y (O.s.trans (g.g.s.trans S.s)) (O.s.free (g.g.s.free hd)) S.a ⟨g.s,u,b,n,ow,lp⟩⟩
theorem EE(h:Reads ta σ H (.ref d))(r:Rd H d (.dT (ks.map λk=>(k2 k,V.ref (LA k)))))(hz:ks.length<=63)
 (s:∀l c vs H',Same H H'->H l=none->H' l=some (.lst vs)->aL (IsSet H') c vs->(∀k,k∈c↔k∈ks)->c.length<=63->Q (.ref l) H'):fK Bh (aj ta aE) σ H Q:=by
 refine h _ ⟨d,_,ks.map pL,rfl,r,by rw[Sf,Sf];rfl,λk g=>?_,by rw[Q0];exact hz,λl f n t hm j pw=>?_⟩
 .obtain⟨x,_,rfl⟩:=Q3.mp g;exact λz=>nomatch z
 .have m:∀f:List (List Int×Addr),(∀y∈f,H y.2=some (.tup ((iK y.1).map kV)))->(∀k∈f.map (·.1),k∈ks.map pL)->∃c:List aF,c.map pL=f.map (·.1)/\aL (IsSet H) c (f.map λy=>.ref y.2):=λf=>by
   induction f with
   |nil=>exact λ_ _=>⟨[],rfl,.nil⟩
   |cons y f u=>intro a b;obtain⟨c,e1,e4⟩:=u (λz hz=>a z (Q7 _ hz)) (λk g=>b k (by rw[Rn];exact Q7 _ g));obtain⟨x,i,e⟩:=Q3.mp (b y.1 (by rw[Rn];exact Q5));exact⟨x::c,by rw[Rn,Rn,e1,e],.cons ⟨y.2,rfl,by rw[a y Q5,<- e];rfl⟩ e4⟩
  obtain⟨c,e1,e4⟩:=m f t λk g=>(hm k).mp g;have s1:=aw (o:=.lst (f.map λy=>V.ref y.2)) n;have ln:c.length=ks.length:=by have:=Sy List.length e1;rw[Q0,Q0,j,Q0]at this;exact this
  refine s l c _ _ s1 n ag (e4.mono (a_ (.of s1))) (λk=>⟨λg=>?_,λg=>?_⟩) (by lia)
  .have:pL k∈f.map (·.1):=by rw[<- e1];exact Q3.mpr ⟨k,g,rfl⟩
   obtain⟨x,i,e⟩:=Q3.mp ((hm _).mp this);rw[<- nG e];exact i
  .have:pL k∈c.map pL:=by rw[e1];exact(hm _).mpr (Q3.mpr ⟨k,g,rfl⟩)
   obtain⟨x,i,e⟩:=Q3.mp this;rw[<- nG e];exact i
inductive Co(sP:Sp):Sp
 |mk {H:Hp} {RL:List Sp.Rule} {As:List Sp.Arr} {p sp q:Addr} {room:Int} {bq:List Int} {Q:VK} {E:XK} (i:Ft sP H RL As p sp q room bq) (ok:Bo RL As room bq) (dE:∀Z ks,yZ RL As room bq Z ks->ks.length<=63) (k:∀l vs Z ks ks2 H',Same H H'->H l=none->H' l=some (.lst vs)->aL (IsSet H') ks2 vs->(∀x,x∈ks2↔x∈ks)->ks2.length<=63->yZ RL As room bq Z ks->Q (.ref l) H'):Co sP [.ref p,.ref sp] H Q E
def Bq(h:Co sP vs H Q E):vs.length=2:=by cases h;rfl
def Qf(sP:Sp):TS:=cL (fK Bh (aj (bO (y_ sP) [] E0 (aj (au 0) (aj (au 1) aE))) aE))
theorem EF(h:Co sP vs H Q E):Qf sP {nx:=λ_ H'=>Q .bz H',rt:=Q} (bp ["house","standing"] vs) H:=by obtain @⟨H,RL,As,p,sp,q,room,bq,Q,E,i,ok,dE,k⟩:=h;exact⟨_,rfl,_,rfl,.mk i ok λd Z AA ks H1 s1 nd A g=>EE (ta:=tC (.ref d)) (σ:=[]) .k (.inl A.r) (dE Z ks g) λl b vs c s2 nl e al m z=>k l vs Z ks b c (s1.trans s2) (s1.free nl) e al m z g⟩
end
section
variable{H H':Hp}{a q p d tl:Addr}{ks es:List aF}{f:aF->V}{σ:L2.St}{vs tv:List V}{v:V}{k:aF}{Q:VK}
def sU:cJ (ks.map λk=>(k2 k,f k)) (k2 k)=if k∈ks then some (f k)else none:=by
 induction ks with
 |nil=>rfl
 |cons x r b=>
  rw[Rn];by_cases h:x=k
  .rw[fj (by rw[h]),Re (by rw[h];exact Q5),h]
  .rw[fq λz=>h (jp _ _ z),b];simp[Si h]
def Lq(b:k∈ks):bY (ks.map λk=>(k2 k,f k)) (k2 k) v=ks.map λj=>(k2 j,jb f k v j):=by
 unfold bY;rw[Re,Sf]
 .refine Sz λj _=>?_;show(if k2 j=k2 k then(k2 j,v)else(k2 j,f j))=_;by_cases e:j=k
  .rw[Re (by rw[e]),e,cC]
  .rw[Rf λz=>e (jp _ _ z),cm e]
 .rw[List.any_map,Vn];exact⟨k,b,Rm rfl⟩
theorem Br:∀(ks b:List aF),(b++ks).Nodup->eh (b.map λk=>(k2 k,f k)) (ks.map λk=>(k2 k,f k))=(b++ks).map λk=>(k2 k,f k):=by
 intro ks;induction ks with
 |nil=>intro b _;rw[R_];rfl
 |cons k ks c=>intro b nd;have nk:k∉b:=λz=>(RC.mp nd).2.2 k z k Q5 rfl;have:=c (b++[k]) (by rw[RO];exact nd);rw[RO,RX]at this;show eh (bY _ (k2 k) (f k)) _=_;rw[dX _ (by rw[sU,Rf nk])];exact this
theorem Reads.CI(ha:Reads ta σ H (.ref a))(hb:Reads tb σ H (.ref b))(c:Rd H a (.dT (ks.map λk=>(k2 k,f k))))(g:k∈ks)(e:H b=some (.tup ((k2 k).map kV))):Reads (jE ta tb) σ H (f k):=λQ q=>ha _ (hb _ ⟨a,_,rfl,.inr ⟨_,k2 k,b,c,rfl,e,by rw[sU,Re g]⟩,q⟩)
def Pk(H:Hp)(w:V)(k:aF)(v:V):Prop:=∃p b,v=.ref p/\H p=some (.tup [.ref b,w])/\H b=some (.tup ((k2 k).map kV))
theorem Pk.keep(kt:KT H H')(h:Pk H w k v):Pk H' w k v:=let ⟨p,b,e,e1,e2⟩:=h;⟨p,b,e,kt _ _ e1,kt _ _ e2⟩
theorem Bs(h:aL (λk v=>Pk H (f k) k v) ks vs):iE H vs (ks.map λk=>(k2 k,f k)):=by
 induction h with
 |nil=>exact .nil
 |cons h _ c=>obtain⟨p,b,e,g,t2⟩:=h;exact .cons ⟨p,b,e,g,t2⟩ c
def sV(b:H Dl=some (.lst vs))(al:aL (λk v=>Pk H (f k) k v) ks vs)(nd:ks.Nodup)(c:∀p,H p=none->Q (.ref p) (upd H p (.dT (ks.map λk=>(k2 k,f k))))):jr [.ref Dl] H Q:=by have e:=Br (f:=f) ks [] nd;rw[TR,T7]at e;refine⟨Dl,vs,_,rfl,.inl b,Bs al,?_⟩;rw[e];exact c
inductive Cq:Sp
 |mk {H:Hp} {tl:Addr} {tv:List V} {es:List aF} {Q:VK} {E:XK} (hl:Rd H tl (.lst tv)) (al:aL (IsSet H) es tv) (nd:es.Nodup) (hz:es.length<1000) (k:∀d H',Same H H'->H d=none->H' d=some (.dT (es.map λk=>(k2 k,V.bl true)))->Q (.ref d) H'):Cq [.ref tl] H Q E
def Bt(h:Cq vs H Q E):vs.length=1:=by cases h;rfl
def Oj:TE:=cI (aj (au 0) (aj (tC (.bl true)) aE))
def Qg(X:Cx)(scope:Scope)(tg b:Expr)(tN:List Str):TS:=cL (fK jr (aj (ja X scope tg tN [] [] b [] (cu X.K (au 0))) aE))
theorem EG(h1:tN.length=1)(J:∀cl C x H3 fp,PG (aV X scope (tN++[]) cl C x H3 fp) tg (aA 0)) (K:∀cl C x H3 fp,PE (aV X scope (tN++[]) cl C x H3 fp) elt Oj) (h:Cq vs H Q E):Qg X scope tg elt tN {nx:=λ_ H'=>Q .bz H',rt:=Q} (bp ["things"] vs) H:=by
 obtain @⟨H,tl,tv,es,Q,E,hl,al,nd,hz,k⟩:=h;have ln:=al.len;refine⟨_,rfl,tl,rfl,⟨_,.inl hl⟩,?_⟩;refine kW (n:=es.length) J (λ_ _ _ _ _=>gs) K (λm i g H'=>Same H H'/\H' m=some (.lst g)/\aL (λk v=>Pk H' (.bl true) k v) (es.take i) g/\H m=none) (λm s=>⟨aw s,ag,.nil,s⟩) (λh=>h.2.1) (λm i g H' ⟨l,_⟩ L=>⟨tv,tv[i]'(by lia),.inl (aT l hl),Q1 _⟩) (λm g H' ⟨l,_⟩=>⟨tv,.inl (aT l hl),by lia⟩) (λm i g H' N r o L ⟨l,s,w,D⟩ y F=>?_) λm g H' s ⟨l,A,w,_⟩=>?_
 .obtain⟨rfl,y⟩:=y;have M:=y _ (.inl (aT l hl));obtain⟨t,B,b,rfl,hb⟩:=al.get M;rw[h1]at F;obtain⟨O,rfl⟩:=Tq.mp F;refine⟨λj G=>?_,iT (oo (ws:=[.ref b,.bl true]) (.c (.va rfl) (.c .k .ni)) rfl λp I=>?_)⟩
  .rw[h1]at G;obtain⟨j,rfl⟩:=Sg G;rfl
  .have np:m≠p:=ax s I;have s2:Same r (upd r p (.tup [.ref b,.bl true])):=aw I;have k3:KT r (upd (upd r p (.tup [.ref b,.bl true])) m (.lst (g++[.ref p]))):=(KT.of s2).trans (.upd (s2 _ _ s) λ_ z=>(nomatch z));refine⟨s2 _ _ s,jx (by rw[<- w.len,Sa];lia),λc u e=>?_,ag,?_,D⟩
   .rw[ai (ax e D)];exact s2 _ _ (l _ _ e)
   .rw[Ry,B];exact(w.mono λk v h=>h.keep k3).snoc ⟨p,b,rfl,by rw[ai (Si np),ag],k3 _ _ (l _ _ hb)⟩
 .rw[R8]at w;exact sV A w nd λd hd=>k d _ (l.trans (aw hd)) (l.free hd) ag
end
noncomputable def lL(Z:aF->List aF)(k:aF):Int:=((Z k).length:Nat)
noncomputable def jy(Z:aF->List aF)(ks:List aF):List (aF×aF):=ks.flatMap λh=>(Z h).map λo=>(h,o)
noncomputable def iN(es:List (aF×aF))(k:aF):List aF:=(es.filter λe=>decide (e.2=k)).map (·.1)
def Bu(es:List (aF×aF))(e:aF×aF):iN (es++[e])=jb (iN es) e.2 (iN es e.2++[e.1]):=by
 funext k;unfold iN jb;by_cases h:k=e.2
 .rw[Re h,h,R4];simp
 .rw[Rf h,R4];simp[Si h]
def wR(es:List (aF×aF))(k:aF):(iN es k).length<=es.length:=by unfold iN;rw[Q0];exact SS ..
def sW(Z:aF->List aF)(ks:List aF)(k:aF):jy Z (ks++[k])=jy Z ks++(Z k).map λo=>(k,o):=by unfold jy;rw[To];simp
def wU(h:∀k,(Z k).length<=63)(ks:List aF):(jy Z ks).length<=63*ks.length:=by
 unfold jy;induction ks with
 |nil=>exact QY _
 |cons x l a=>have:=h x;rw[SL,Q8,Rq,Q0];lia
section
variable{X:Cx}{K:Vx}{B H H':Hp}{a am q p l bd:Addr}{ks bks:List aF}{Z F:aF->List aF}{AA BA:aF->Addr}{f:aF->V}{D:Ends}{σ:L2.St}{vs tv:List V}{k:aF}{Q:VK}
def iO(e:H am=some u)(s:Same (upd H am (.bw o u)) H1):Same H (upd H1 am u):=λc w h=>by
 by_cases z:c=am
 .rw[z,ag,<- e,<- z];exact h
 .rw[ai z];exact s _ _ (by rw[ai z];exact h)
def F0(K:Vx):TE:=cI (aj (au 0) (aj (fK (fB K) (aj (au 1) aE)) aE))
def Lr(X:Cx)(scope:Scope)(tg b:Expr)(tN:List Str):TS:=λD σ H=>bb (fK jr (aj (ja X scope tg tN [] [] b [] (Ac X (au 0))) aE)) (aA 1) (GM X D) σ H
theorem Qh(h1:tN.length=2)(W:∀cl C w H3 fp,PG (aV X scope (tN++[]) cl C w H3 fp) tg (dQ X.K 2 (aX (aA 0) (aX (aA 1) dP))))(Y:∀cl C w H3 fp,PE (aV X scope (tN++[]) cl C w H3 fp) elt (F0 X.K))
 (A:Am H am ks Z AA) (nd:ks.Nodup) (hz:ks.length<1000) (h0:σ[0]?=some (some (.ref am))) (k:∀l H',Same H H'->H l=none->H' l=some (.dT (ks.map λk=>(k2 k,V.int (lL Z k))))->D.nx (σ.set 1 (some (.ref l))) H'):Lr X scope tg elt tN D σ H:=by
 refine⟨_,h0,am,_,_,rfl,.inl rfl,.inr ⟨A.r,λo ho=>?_⟩⟩;have kt:KT H (upd H am (.bw o (.dT (ks.map λk=>(k2 k,V.ref (AA k)))))):=.upd A.r λ_ z=>(nomatch z);have I:upd H am (.bw o (.dT (ks.map λk=>(k2 k,V.ref (AA k))))) am=some (.bw o (.dT (ks.map λk=>(k2 k,V.ref (AA k))))):=ag;have kp:Kp am H (upd H am (.bw o (.dT (ks.map λk=>(k2 k,V.ref (AA k)))))):=λc u e n=>by rw[ai n];exact e
 have back:∀{H1},Same (upd H am (.bw o (.dT (ks.map λk=>(k2 k,V.ref (AA k)))))) H1->Same H (upd H1 am (.dT (ks.map λk=>(k2 k,V.ref (AA k))))):=λs=>iO A.r s;generalize upd H am (.bw o (.dT (ks.map λk=>(k2 k,V.ref (AA k)))))=H1 at kt I kp back;refine kW (n:=ks.length) W (λ_ _ _ _ _=>gs) Y (λm i d H'=>Same H1 H'/\H' m=some (.lst d)/\aL (λk v=>Pk H' (.int (lL Z k)) k v) (ks.take i) d/\H1 m=none) (λm J=>⟨aw J,ag,.nil,J⟩) (λh=>h.2.1) (λm i d H' ⟨g,_⟩ P=>⟨g _ _ I,by rw[Q0];exact P⟩) (λm d H' ⟨g,_⟩=>⟨g _ _ I,by rw[Q0];exact QY _⟩) (λm i d H' xv H'' S P ⟨g,J,L,T⟩ y M=>?_) λm d H' J ⟨g,R,L,_⟩=>?_
 .obtain⟨p,b,kk,v,hp,rfl,hb,rfl,e⟩:=y;have N:ks[i]?=some ks[i]:=Q1 P;rw[Rg,N]at e;generalize ks[i]=ki at N e;cases e;rw[h1]at M;obtain⟨u0,u1,rfl⟩ : ∃x y,S=[x,y]:=by
   match S,M with
   |[x,y],_=>exact⟨x,y,rfl⟩
  obtain⟨ws,e1,al⟩:=A.v ki (RE N);have s2:Same H' (upd H' p (.tup [.ref b,.ref (AA ki)])):=aw hp;have ea:=s2 _ _ (g _ _ (kp _ _ e1 λz=>by rw[z,A.r]at e1;cases e1));refine AK ag ⟨λj U=>?_,iT (oo (ws:=[.ref b,.int ws.length]) (.c (.va rfl) (.c (.qS (.va rfl) (.inl ea)) .ni)) rfl λp2 E=>?_)⟩
  .rw[h1]at U;obtain⟨j,rfl⟩:=Sg U;rfl
  .have t:=s2 _ _ J;generalize upd H' p (.tup [.ref b,.ref (AA ki)])=O at s2 E t;have np:m≠p2:=ax t E;have w:Same O (upd O p2 (.tup [.ref b,.int ws.length])):=aw E;have k3:KT O (upd (upd O p2 (.tup [.ref b,.int ws.length])) m (.lst (d++[.ref p2]))):=(KT.of w).trans (.upd (w _ _ t) λ_ z=>(nomatch z));refine⟨w _ _ t,jx (by rw[<- L.len,Sa];lia),λc u e=>?_,ag,?_,T⟩
   .rw[ai (ax e T)];exact w _ _ (s2 _ _ (g _ _ e))
   .rw[Ry,N];refine(L.mono λk v h=>h.keep ((KT.of s2).trans k3)).snoc ⟨p2,b,rfl,?_,k3 _ _ (s2 _ _ hb)⟩;rw[ai (Si np),ag];unfold lL;rw[al.len]
 .rw[R8]at L;refine(sV (Q:=λx H1=>aA 1 x σ H1 (GM X D).nx) (f:=λk=>.int (lL Z k)) R L nd λl G=>.inr ⟨am,o,_,aw G _ _ (g _ _ I),True.intro,ho,?_⟩ : jr [V.ref m] H' _);have s4:=g.trans (aw (o:=.dT (ks.map λk=>(k2 k,V.int (lL Z k)))) G);have nl:l≠am:=λz=>by rw[z,g _ _ I]at G;cases G
  have sB:=back s4;refine k l _ sB ?_ (by rw[ai nl,ag]);cases e:H l with
  |none=>rfl
  |some u=>rw[g _ _ (kp _ _ e nl)]at G;cases G
theorem Ia(h:Gr IsSet B H bd bks F BA)(hz:bks.length<15000000)(m:σ[i]?=some (some (.ref bd)))(o:Reads tk σ H (.ref b))(hb:H b=some (.tup ((k2 k).map kV)))
 (d:∀H' g,Kp bd H H'->KT H H'->Gr IsSet B H' bd (gV bks k) F g->k∈gV bks k->Q (.ref (g k)) H'):K3 K i tk σ H Q:=by
 refine⟨_,m,.inr (.inr (.inl ⟨rfl,.inr ⟨_,h.r⟩⟩)),o _ ⟨Rh _,λq j=>?_⟩⟩;have s2:Same H (upd H q (.lst [])):=aw j;refine⟨bd,b,k2 k,.ref q,_,rfl,rfl,s2 _ _ hb,.inl (s2 _ _ h.r),jx (by rw[Q0];exact hz),?_⟩;rw[fZ];unfold gV at d;by_cases e:k∈bks
 .rw[Re e]at d ⊢;exact .inl ⟨_,rfl,d _ _ (.of s2) (.of s2) (h.more a_ s2) e⟩
 .rw[Rf e]at d ⊢;refine .inr ⟨rfl,?_⟩;rw[dX _ (by rw[fZ,Rf e])];have:=d _ _ (λc u e n=>by rw[ai n];exact s2 _ _ e) ((KT.of s2).trans (.upd (s2 _ _ h.r) λ_ z=>(nomatch z))) (h.new a_ e j) (RM _ Q5);rw[cC]at this;exact this
def Lu(K:Vx):TS:=d9 (cu K (au 4)) (aA 5) (b8 (qZ K "list" cT (K3 K 2 (au 5)) (aj (au 3) aE)))
noncomputable def yD(am l bd:Addr)(x3 x4 x5:Option V):L2.St:=[some (.ref am),some (.ref l),some (.ref bd),x3,x4,x5,none,none,none]
theorem Qi(G:Gr IsSet B H bd bks (iN es) BA)(g:bks.length<=es.length)(hz:es.length+zs.length<1000000)(y:B al=some (.lst tv))(n:aL (IsSet B) zs tv)(h:H hb=some (.tup ((k2 ki).map kV)))(C:σ=yD am l bd (some (.ref hb)) (some (.ref al)) x5)
 (k:∀x5 H' c d,Gr IsSet B H' bd c (iN (es++zs.map λo=>(ki,o))) d->c.length<=es.length+zs.length->D.nx (yD am l bd (some (.ref hb)) (some (.ref al)) x5) H'):Lu K D σ H:=by
 subst C;refine⟨_,rfl,al,rfl,⟨tv,SqL.of (G.s _ _ y)⟩,cM (K:=K) (a:=al) (xs:=tv) (λi e H'=>∃x5 c d,e=yD am l bd (some (.ref hb)) (some (.ref al)) x5/\Gr IsSet B H' bd c (iN (es++(zs.take i).map λo=>(ki,o))) d/\c.length<=es.length+i/\H' hb=some (.tup ((k2 ki).map kV))) ⟨x5,bks,BA,rfl,(by rw[List.take_zero,TR,R_];exact G),g,h⟩ (λi e H' _ ⟨_,_,_,_,G,_⟩=>SqL.of (G.s _ _ y)) (λi v e H' E ⟨x5,c,d,r,G,g,h⟩=>?_) λe H' ⟨x5,c,d,r,G,g,h⟩=>?_⟩
 .subst r;obtain⟨t,j,b,rfl,u⟩:=n.get E;have I:=(Q2.mp j).1;have bl:=wR (es++(zs.take i).map λo=>(ki,o)) t;rw[Q8,Q0,Sa]at bl;refine Ia (i:=2) (k:=t) (b:=b) G (by lia) rfl (.va rfl) (G.s _ _ u) λH1 w kp kt A m=>?_;obtain⟨n1,ws,e1,x⟩:=A.v t m;refine⟨.inl ⟨rfl,_,SqL.of e1⟩,_,rfl,_,_,_,rfl,rfl,e1,jx (by rw[<- x.len];lia),_,gV c t,w,rfl,?_,(by have:=nI c t;lia),KT.upd e1 (λ_ z=>(nomatch z)) _ _ (kt _ _ h)⟩;have:=A.ext a_ m e1 (zs:=[ki]) (ws:=[.ref hb]) (.cons ⟨hb,rfl,kt _ _ h⟩ .nil);have e2:es++(zs.take (i+1)).map (λo=>(ki,o))=(es++(zs.take i).map λo=>(ki,o))++[(ki,t)]:=by rw[Ry,j,RX,RO];rfl
  rw[e2,Bu];exact this
 .subst r;rw[<- n.len,R8]at G;exact k x5 H' c d G (by rw[<- n.len]at g;exact g)
def Lw(X:Cx):TS:=λD σ H=>d9 (Ac X (au 0)) (dQ X.K 2 (aX (aA 3) (aX (aA 4) dP))) (Lu X.K) (GM X D) σ H
theorem Qj(A:Am B am ks Z AA)(hz:ks.length<1000)(R:∀k,(Z k).length<=63)(hb:B bd=none)(G:Gr IsSet B H bd [] (iN []) BA)(W:σ=yD am l bd none none none)
 (k:∀x3 x4 x5 H' d g,Gr IsSet B H' bd d (iN (jy Z ks)) g->D.nx (yD am l bd x3 x4 x5) H'):Lw X D σ H:=by
 subst W;have er:=G.s _ _ A.r;refine⟨_,rfl,am,_,_,rfl,.inl rfl,.inr ⟨er,λo Y=>?_⟩⟩;have w:bd≠am:=λz=>by rw[z,A.r]at hb;cases hb
 have E:KT B (upd B am (.bw o (.dT (ks.map λk=>(k2 k,V.ref (AA k)))))):=.upd A.r λ_ z=>(nomatch z);have t:upd B am (.bw o (.dT (ks.map λk=>(k2 k,V.ref (AA k))))) am=some (.bw o (.dT (ks.map λk=>(k2 k,V.ref (AA k))))):=ag;have C:Kp am B (upd B am (.bw o (.dT (ks.map λk=>(k2 k,V.ref (AA k)))))):=λc u e n=>by rw[ai n];exact e
 have back:∀{H1},Same (upd B am (.bw o (.dT (ks.map λk=>(k2 k,V.ref (AA k)))))) H1->Same B (upd H1 am (.dT (ks.map λk=>(k2 k,V.ref (AA k))))):=λs=>iO A.r s;have S:upd B am (.bw o (.dT (ks.map λk=>(k2 k,V.ref (AA k))))) bd=none:=by rw[ai w];exact hb
 have M:Gr IsSet (upd B am (.bw o (.dT (ks.map λk=>(k2 k,V.ref (AA k)))))) (upd H am (.bw o (.dT (ks.map λk=>(k2 k,V.ref (AA k)))))) bd [] (iN (jy Z (ks.take 0))) BA:=⟨λc u e=>by
  by_cases z:c=am
  .rw[z,ag]at e ⊢;exact e
  .rw[ai z]at e ⊢;exact G.s _ _ e,by rw[ai w];exact G.r,S,λk h=>(nomatch h),λk h=>(nomatch h),λk _=>rfl⟩
 generalize upd B am (.bw o (.dT (ks.map λk=>(k2 k,V.ref (AA k)))))=B1 at E t C back S M;generalize upd H am (.bw o (.dT (ks.map λk=>(k2 k,V.ref (AA k)))))=H1 at M;refine kU (n:=(ks.map λk=>(k2 k,V.ref (AA k))).length) (λi m H'=>∃x3 x4 x5 d g,m=yD am l bd x3 x4 x5/\Gr IsSet B1 H' bd d (iN (jy Z (ks.take i))) g/\d.length<=(jy Z (ks.take i)).length) ⟨none,none,none,[],BA,rfl,M,QY _⟩ (λi m H' ⟨_,_,_,_,_,_,G,_⟩ J=>⟨G.s _ _ t,J⟩) (λm H' ⟨_,_,_,_,_,_,G,_⟩=>⟨G.s _ _ t,QY _⟩) (λi m H' x H'' D' J q y k'=>?_) λm H' q=>?_
 .obtain⟨x3,x4,x5,d,g,rfl,G,T⟩:=q;obtain⟨p,b,kk,v,hp,rfl,N,rfl,e⟩:=y;rw[Q0]at J;have L:ks[i]?=some ks[i]:=Q1 J;rw[Rg,L]at e;generalize ks[i]=ki at L e;cases e;obtain⟨ws,e1,al⟩:=A.v ki (RE L);have e1:=C _ _ e1 λz=>by rw[z,A.r]at e1;cases e1
  have al:=al.mono (a_ E);have s2:=aw (o:=.tup [.ref b,.ref (AA ki)]) hp;have el:=wU R (ks.take i);have lt:=Sj i ks;have z:=R ki;have U:ks.take (i+1)=ks.take i++[ki]:=by rw[Ry,L];rfl
  refine AK ag (Qi (l:=l) (am:=am) (x5:=x5) (ki:=ki) (es:=jy Z (ks.take i)) (zs:=Z ki) (G.more a_ s2) T (by lia) e1 al (s2 _ _ N) rfl λx5 H3 I O G3 h3=>k' _ _ ⟨_,_,_,I,O,rfl,(by rw[U,sW];exact G3),by rw[U,sW,Q8,Q0];exact h3⟩)
 .obtain⟨x3,x4,x5,d,g,rfl,G,T⟩:=q;rw[Q0,R8]at G;have P:=G.s _ _ t;have nl:∀{c b},H' c=some (.lst b)->c≠am:=λe z=>by rw[z,P]at e;cases e
  refine .inr ⟨am,o,_,P,True.intro,Y,k _ _ _ _ d g ⟨back G.s,by rw[ai w];exact G.r,hb,λj hj=>?_,G.i,G.z⟩⟩;obtain⟨n1,vs,e1,al⟩:=G.v j hj;refine⟨?_,vs,by rw[ai (nl e1)];exact e1,al.mono (a_ (.upd P λ_ z=>(nomatch z)))⟩;cases e:B (g j)with
  |none=>rfl
  |some u=>rw[C _ _ e (nl e1)]at n1;cases n1
end
structure KS where
 N:aF->Int
 ended:List aF
 bM:List aF
def fC(S:KS)(h:aF):KS:=⟨jb S.N h (S.N h-1),if S.N h-1=0 then S.ended++[h]else S.ended,if S.N h-1=0 then S.bM++[h]else S.bM⟩
inductive KL(bf:aF->List aF):Nat->KS->KS->Prop
 |done {n:Nat} {S:KS} (h:S.bM=[]):KL bf n S S
 |step {n:Nat} {N:aF->Int} {ended bM:List aF} {last:aF} {S':KS} (f1:ended.length+(bf last).length<100000) (f2:bM.length+(bf last).length<100000) (r:KL bf n ((bf last).foldl fC ⟨N,ended,bM⟩) S'):KL bf (n+1) ⟨N,ended,bM++[last]⟩ S'
def Bv(S:KS)(h:aF):(fC S h).ended.length<=S.ended.length+1/\(fC S h).bM.length<=S.bM.length+1:=by unfold fC;dsimp only;split<;>simp
def Bw:∀(l:List aF)(S:KS),(l.foldl fC S).ended.length<=S.ended.length+l.length/\(l.foldl fC S).bM.length<=S.bM.length+l.length:=by
 intro l;induction l with
 |nil=>exact λS=>⟨QY _,QY _⟩
 |cons x l a=>intro S;have h1:=Bv S x;have h2:=a (fC S x);rw[Tf,Rq];lia
section
variable{X:Cx}{K:Vx}{H H':Hp}{am q d l bd el dl:Addr}{ks bks:List aF}{Z bf:aF->List aF}{AA BA:aF->Addr}{N:aF->Int}{f:aF->V}{D:Ends}{σ:L2.St}{k:aF}{Q:VK}{S:KS}
noncomputable def qC(X:Cx)(scope:Scope)(tg a:Expr)(tN capN:List Str)(caps:List Nat)(b:List Expr)(i:Nat)(c:TI):TS:=λD σ H=>c σ H (ck X scope tg tN capN caps a b σ λe _ H'=>D.nx (σ.set i (some (.ref e))) H')
def F1:TT:=bI (bj oK (jE (au 1) (au 0)) (tC (.int 0)))
def Lx(X:Cx)(scope:Scope)(tg a:Expr)(tN capN:List Str)(caps:List Nat)(b:List Expr):TS:=λD σ H=>qC X scope tg a tN capN caps b 6 (wN X (au 0)) (GM X D) σ H
theorem wV{P:aF->Bool}{Fin:Addr->List V->Hp->Prop}(h1:tN.length=1)(t:jP σ caps=cap)(J:∀cl C v H3 fp,PG (aV X scope (tN++capN) cl C v H3 fp) tg (aA 0))(L:∀cl C v H3 fp,za (aV X scope (tN++capN) cl C v H3 fp) ifs tt)(M:∀cl C v H3 fp,PE (aV X scope (tN++capN) cl C v H3 fp) elt (au 0))
 (F:H1 am=some (.bw o u)) (hz:ks.length<1000) (O:∀k∈ks,∀b H',Same H1 H'->H' b=some (.tup ((k2 k).map kV))->∀Q:Bool->Hp->Prop,Q (P k) H'->tt (some (.ref b)::cap) H' Q)
 (k:∀g a H',H1 g=none->Same H1 H'->H' g=some (.lst a)->aL (IsSet H') (ks.filter P) a->Fin g a H'):ck X scope tg tN capN caps elt ifs σ Fin (N5 am o u (ks.map λk=>(k2 k,f k))) H1:=by
 refine kW (n:=ks.length) J L M (λg i a H'=>Same H1 H'/\H' g=some (.lst a)/\aL (IsSet H') ((ks.take i).filter P) a/\H1 g=none) (λg p=>⟨aw p,ag,.nil,p⟩) (λh=>h.2.1) (λg i a H' ⟨m,_⟩ A=>⟨m _ _ F,by rw[Q0];exact A⟩) (λg a H' ⟨m,_⟩=>⟨m _ _ F,by rw[Q0];exact QY _⟩) (λg i a H' R r T A ⟨m,p,s,B⟩ y w=>?_) λg a H' p ⟨m,E,s,_⟩=>k g a H' p m E (by rw[R8]at s;exact s);obtain⟨rfl,b,U,W,e,rfl,hb⟩:=y;have x:ks[i]?=some ks[i]:=Q1 A;rw[Rg,x]at e;generalize ks[i]=ki at x e;cases e;rw[h1]at w;obtain⟨Y,rfl⟩:=Tq.mp w;rw[t];have G:ks.take (i+1)=ks.take i++[ki]:=by rw[Ry,x];rfl
 have fl:=SS P (ks.take i);have lt:=Sj i ks;refine⟨λj I=>?_,O ki (RE x) b r m hb _ (nZ (λc=>⟨_,rfl,p,jx (by rw[<- s.len];lia),λc u e=>?_,ag,?_,B⟩) λc=>⟨m,p,?_,B⟩)⟩
 .rw[h1]at I;obtain⟨j,rfl⟩:=Sg I;rfl
 .rw[ai (ax e B)];exact m _ _ e
 .have kt:KT r (upd r g (.lst (a++[.ref b]))):=.upd p λ_ z=>(nomatch z);rw[G,R4,SB,Re c];exact(s.mono (a_ kt)).snoc ⟨b,rfl,kt _ _ hb⟩
 .rw[G,R4,SB,Rf c,List.filter_nil,R_];exact s
theorem Qk{scope:Scope}{tg a:Expr}(h1:tN.length=1)(x:caps=[1])(y:∀cl C g H3 fp,PG (aV X scope (tN++capN) cl C g H3 fp) tg (aA 0))(B:∀cl C g H3 fp,za (aV X scope (tN++capN) cl C g H3 fp) ifs F1)(E:∀cl C g H3 fp,PE (aV X scope (tN++capN) cl C g H3 fp) a (au 0))
 (A:Am H am ks Z AA) (hz:ks.length<1000) (F:H l=some (.dT (ks.map λk=>(k2 k,V.int (N k))))) (nl:l≠am) (h0:σ[0]?=some (some (.ref am))) (p:σ[1]?=some (some (.ref l))) (k:∀e w H',Same H H'->H e=none->H' e=some (.lst w)->aL (IsSet H') (ks.filter λk=>decide (N k=0)) w->D.nx (σ.set 6 (some (.ref e))) H'):Lx X scope tg a tN capN caps ifs D σ H:=by
 refine⟨_,h0,am,_,_,rfl,.inl rfl,A.r,λo G=>?_⟩;have h:upd H am (.bw o (.dT (ks.map λk=>(k2 k,V.ref (AA k))))) am=some (.bw o (.dT (ks.map λk=>(k2 k,V.ref (AA k))))):=ag;have kp:Kp am H (upd H am (.bw o (.dT (ks.map λk=>(k2 k,V.ref (AA k)))))):=λc u e n=>by rw[ai n];exact e
 have back:∀{H1},Same (upd H am (.bw o (.dT (ks.map λk=>(k2 k,V.ref (AA k)))))) H1->Same H (upd H1 am (.dT (ks.map λk=>(k2 k,V.ref (AA k))))):=λs=>iO A.r s;generalize upd H am (.bw o (.dT (ks.map λk=>(k2 k,V.ref (AA k)))))=H1 at h kp back;refine wV (cap:=[some (.ref l)]) h1 (by rw[x];show[σ[1]?.join]=_;rw[p];rfl) y B E h hz (P:=λk=>decide (N k=0)) (λk I b H' i hb Q q=>Reads.vG (.CI (f:=λk=>.int (N k)) (.va rfl) (.va rfl) (.inl (i _ _ (kp _ _ F nl))) I hb) .k _ ⟨_,rfl,q⟩) λt v H' m i J al=>.inr ⟨am,o,_,i _ _ h,True.intro,G,?_⟩;have j:t≠am:=λz=>by rw[z,h]at m;cases m
 refine k t v _ (back i) ?_ (by rw[ai j];exact J) (al.mono (a_ (.upd (i _ _ h) λ_ z=>(nomatch z))));cases e:H t with
 |none=>rfl
 |some u=>rw[kp _ _ e j]at m;cases m
structure ua(HM H:Hp) (l el dl:Addr) (ks:List aF) (S:KS):Prop where
 f:∀c u,HM c=some u->c≠l->c≠el->c≠dl->H c=some u
 l:H l=some (.dT (ks.map λk=>(k2 k,V.int (S.N k))))
 e:∃ev,H el=some (.lst ev)/\aL (IsSet H) S.ended ev
 d:∃dv,H dl=some (.lst dv)/\aL (IsSet H) S.bM dv
structure MW(HM:Hp) (am l bd el dl:Addr) (ks bks:List aF) (bf:aF->List aF) (BA:aF->Addr):Prop where
 b:HM bd=some (.dT (bks.map λk=>(k2 k,.ref (BA k))))
 v:∀k∈bks,∃vs,HM (BA k)=some (.lst vs)/\aL (IsSet HM) (bf k) vs/\BA k≠el/\BA k≠dl
 z:∀k,k∉bks->bf k=[]
 i:∀k,∀h∈bf k,h∈ks
 n1:bd≠l
 n2:el≠dl
 kt:∀c w,HM c=some (.tup w)->c≠l/\c≠el/\c≠dl
 d:∃x,HM l=some (.dT x)
 e:∃x,HM el=some (.lst x)
 q:∃x,HM dl=some (.lst x)
noncomputable def ou(am l bd el dl:Addr)(x3 x4 x5 x8:Option V):L2.St:=[some (.ref am),some (.ref l),some (.ref bd),x3,x4,x5,some (.ref el),some (.ref dl),x8]
def F2:R2:=ui λi j=>.int (i-j)
def Ol(K:Vx):TS:=d8 (bI (bj oK (jE (au 1) (au 3)) (tC (.int 0)))) (aK (b8 (qZ K "list" cT (au 6) (aj (au 3) aE))) (b8 (qZ K "list" cT (au 7) (aj (au 3) aE)))) cq
def Ly(K:Vx):TS:=aK (oR (au 1) (au 3) (bj F2 (jE (au 1) (au 3)) (tC (.int 1)))) (Ol K)
theorem Ql(M:MW HM am l bd el dl ks bks bf BA)(C:ua HM H l el dl ks S)(E:h∈ks)(hb:HM b=some (.tup ((k2 h).map kV)))(hz:ks.length<1000)(J:S.ended.length<200000)(L:S.bM.length<200000)(F:σ=ou am l bd el dl (some (.ref b)) x4 x5 x8)(k:∀H',ua HM H' l el dl ks (fC S h)->D.nx (ou am l bd el dl (some (.ref b)) x4 x5 x8) H'):Ly K D σ H:=by
 subst F;obtain⟨fr,s,⟨w,i,r⟩,⟨dv,hd,ad⟩⟩:=C;obtain⟨G,t2,I⟩:=M.kt _ _ hb;have a:=fr _ _ hb G t2 I;have x:el≠l:=λz=>by rw[z,s]at i;cases i
 have y:dl≠l:=λz=>by rw[z,s]at hd;cases hd
 refine Reads.op (z:=.int (S.N h-1)) (.CI (f:=λk=>.int (S.N k)) (.va rfl) (.va rfl) (.inl s) E a) .k (λ_ q=>⟨_,_,rfl,rfl,q⟩) _ ⟨_,rfl,_,rfl,l,_,rfl,DPut.t s (k:=k2 h) a (jx (by rw[Q0];lia)),?_⟩;rw[Lq E];have e0:(ks.map λj=>(k2 j,jb (λk=>V.int (S.N k)) h (.int (S.N h-1)) j))=ks.map λj=>(k2 j,V.int (jb S.N h (S.N h-1) j)):=Sz λj _=>by
  by_cases e:j=h
  .rw[e,cC,cC]
  .rw[cm e,cm e]
 rw[e0];have kt:KT H (upd H l (.dT (ks.map λj=>(k2 j,V.int (jb S.N h (S.N h-1) j))))):=.upd s λ_ z=>(nomatch z);have o:upd H l (.dT (ks.map λj=>(k2 j,V.int (jb S.N h (S.N h-1) j)))) l=some (.dT (ks.map λj=>(k2 j,V.int (jb S.N h (S.N h-1) j)))):=ag;have kp:Kp l H (upd H l (.dT (ks.map λj=>(k2 j,V.int (jb S.N h (S.N h-1) j))))):=λc u e n=>by rw[ai n];exact e
 have i:=kp _ _ i x;have hd:=kp _ _ hd y;have r:=r.mono (a_ kt);have ad:=ad.mono (a_ kt);have a:=kt _ _ a;have fr:∀c u,HM c=some u->c≠l->c≠el->c≠dl->upd H l (.dT (ks.map λj=>(k2 j,V.int (jb S.N h (S.N h-1) j)))) c=some u:=λc u e n1 n2 B=>kp _ _ (fr c u e n1 n2 B) n1;generalize upd H l (.dT (ks.map λj=>(k2 j,V.int (jb S.N h (S.N h-1) j))))=H1 at o i hd r ad a fr;refine gR (.vG (m:=S.N h-1) (n:=0) (λQ q=>Reads.CI (f:=λk=>.int (jb S.N h (S.N h-1) k)) (.va rfl) (.va rfl) (.inl o) E a Q (by rw[cC];exact q)) .k) (λc=>?_) λc=>?_
 .have c:=Rr c;refine⟨_,rfl,.inl ⟨rfl,_,SqL.of i⟩,_,rfl,el,w,_,rfl,rfl,i,jx (by rw[<- r.len];lia),?_⟩;have A:KT H1 (upd H1 el (.lst (w++[.ref b]))):=.upd i λ_ z=>(nomatch z);have p:upd H1 el (.lst (w++[.ref b])) dl=some (.lst dv):=by rw[ai (Si M.n2)];exact hd
  refine⟨_,rfl,.inl ⟨rfl,_,SqL.of p⟩,_,rfl,dl,dv,_,rfl,rfl,p,jx (by rw[<- ad.len];lia),k _ ⟨λc u e n1 n2 B=>?_,?_,⟨w++[.ref b],?_,?_⟩,⟨dv++[.ref b],ag,?_⟩⟩⟩
  .rw[ai B,ai n2];exact fr c u e n1 n2 B
  .rw[ai (Si y),ai (Si x)];exact o
  .rw[ai M.n2,ag]
  .have g:=A.trans (KT.upd (v:=.lst (dv++[.ref b])) p λ_ z=>(nomatch z));unfold fC;dsimp only;rw[Re c];exact(r.mono (a_ g)).snoc ⟨b,rfl,g _ _ a⟩
  .have g:=A.trans (KT.upd (v:=.lst (dv++[.ref b])) p λ_ z=>(nomatch z));unfold fC;dsimp only;rw[Re c];exact(ad.mono (a_ g)).snoc ⟨b,rfl,g _ _ a⟩
 .have c:¬S.N h-1=0:=λz=>c (Rm z);refine k _ ⟨fr,o,⟨w,i,?_⟩,⟨dv,hd,?_⟩⟩
  .unfold fC;dsimp only;rw[Rf c];exact r
  .unfold fC;dsimp only;rw[Rf c];exact ad
end
def By(m:h∈iN (jy Z ks) k):h∈ks:=by obtain⟨e,a,rfl⟩:=Q3.mp m;obtain⟨x,b,a⟩:=SE.mp (Ru.mp a).1;obtain⟨o,_,rfl⟩:=Q3.mp a;exact b
section
variable{K:Vx}{H H' HM:Hp}{a am q d l bd el dl:Addr}{ks bks:List aF}{Z bf:aF->List aF}{AA BA:aF->Addr}{N:aF->Int}{f:aF->V}{D:Ends}{σ:L2.St}{S S':KS}
def Lz(K:Vx):TS:=d9 (cu K (dG (au 2) (au 8) (dS aE))) (aA 3) (Ly K)
theorem ua.QM(M:MW HM am l bd el dl ks bks bf BA)(C:ua HM H l el dl ks S):H bd=some (.dT (bks.map λk=>(k2 k,.ref (BA k)))):=by obtain⟨_,e⟩:=M.e;obtain⟨_,q⟩:=M.q;exact C.f _ _ M.b M.n1 (λz=>by rw[<- z,M.b]at e;cases e) λz=>by rw[<- z,M.b]at q;cases q
def ua.more(C:ua HM H l el dl ks S)(s:Same H H'):ua HM H' l el dl ks S:=⟨λc u e n1 n2 b=>s _ _ (C.f c u e n1 n2 b),s _ _ C.l,let ⟨v,e,al⟩:=C.e;⟨v,s _ _ e,al.mono (a_ (.of s))⟩,let ⟨v,e,al⟩:=C.d;⟨v,s _ _ e,al.mono (a_ (.of s))⟩⟩
theorem Qm(M:MW HM am l bd el dl ks bks bf BA)(C:ua HM H l el dl ks S)(hb:H b=some (.tup ((k2 last).map kV)))(hz:ks.length<1000)(B:S.ended.length+(bf last).length<100000)(E:S.bM.length+(bf last).length<100000)(w:σ=ou am l bd el dl x3 x4 x5 (some (.ref b)))
 (k:∀x3 H',ua HM H' l el dl ks ((bf last).foldl fC S)->D.nx (ou am l bd el dl x3 x4 x5 (some (.ref b))) H'):Lz K D σ H:=by
 subst w;have r:=C.QM M;refine ff ?_;refine⟨_,rfl,bd,rfl,.inr ⟨_,.inl r⟩,_,rfl,Rh _,λq x=>?_⟩;have s1:=aw (o:=.lst []) x;refine⟨_,DGet.t (k:=k2 last) (s1 _ _ r) (s1 _ _ hb),?_⟩;rw[fZ];have j:=C.more s1;have g:upd H q (.lst []) q=some (.lst []):=ag;generalize upd H q (.lst [])=H1 at j g;by_cases m:last∈bks
 .rw[Re m];obtain⟨ws,e1,al,n1,n2⟩:=M.v last m;have nl:BA last≠l:=λz=>by obtain⟨_,e⟩:=M.d;rw[z,e]at e1;cases e1
  have s:∀{H' S},ua HM H' l el dl ks S->H' (BA last)=some (.lst ws):=λC=>C.f _ _ e1 nl n1 n2;refine⟨BA last,rfl,⟨ws,SqL.of (s j)⟩,cM (K:=K) (a:=BA last) (xs:=ws) (λi c H'=>∃x3,c=ou am l bd el dl x3 x4 x5 (some (.ref b))/\ua HM H' l el dl ks (((bf last).take i).foldl fC S)) ⟨x3,rfl,j⟩ (λi c H' _ ⟨_,_,C⟩=>SqL.of (s C)) (λi v c H' n ⟨x3,e3,C⟩=>?_) λc H' ⟨x3,e3,C⟩=>?_⟩
  .subst e3;obtain⟨t,u,F,rfl,p⟩:=al.get n;have dl:=Bw ((bf last).take i) S;have lt:=Sj i (bf last);refine Ql (h:=t) M C (M.i last t (RE u)) p hz (by lia) (by lia) rfl λG y=>⟨_,rfl,?_⟩;rw[Ry,u,S8];exact y
  .subst e3;rw[<- al.len,R8]at C;exact k x3 H' C
 .rw[Rf m];refine⟨q,rfl,⟨_,SqL.of g⟩,cM (K:=K) (a:=q) (xs:=[]) (λi c H'=>c=ou am l bd el dl x3 x4 x5 (some (.ref b))/\H'=H1) ⟨rfl,rfl⟩ (λi c H' _ ⟨_,e⟩=>by subst e;exact SqL.of g) (λi v c H' n=>by simp at n) λc H' ⟨e,A⟩=>?_⟩;subst e;subst A;rw[M.z last m]at k;exact k x3 H' j
def LB(K:Vx):TS:=kA (EC K (au 7)) (aK (bb (zC K "list" GH (au 7)) (aA 8)) (Lz K))
theorem Qn(M:MW HM am l bd el dl ks bks bf BA)(C:ua HM H l el dl ks S)(hz:ks.length<1000)(lp:KL bf n S S')(p:σ=ou am l bd el dl x3 x4 x5 x8)(k:∀x3 x8 H',ua HM H' l el dl ks S'->D.nx (ou am l bd el dl x3 x4 x5 x8) H'):LB K D σ H:=by
 subst p;refine⟨λm σ H=>∃x3 x8 S,σ=ou am l bd el dl x3 x4 x5 x8/\ua HM H l el dl ks S/\KL bf m S S',⟨n,x3,x8,S,rfl,C,lp⟩,?_⟩;clear C lp;rintro m σ H ⟨x3,x8,S,rfl,C,lp⟩;obtain⟨dv,g,al⟩:=id C.d;refine⟨_,rfl,_,.inl ⟨_,SqL.of g,rfl⟩,?_⟩;cases lp with
 |done e=>rw[e]at al;cases al;exact di (k x3 x8 H C)
 |@step m N ended bM last _ r s lp=>
  obtain⟨zs,_,rfl,i,b,rfl,hb⟩:=(show aL (IsSet H) (bM++[last]) dv from al).vN;rw[Re (by simp)];refine⟨λh H'=>∃x3 x8,h=ou am l bd el dl x3 x4 x5 x8/\ua HM H' l el dl ks ((bf last).foldl fC ⟨N,ended,bM⟩),λh H' ⟨x3,x8,e,C⟩=>⟨m,SQ _,x3,x8,_,e,C,lp⟩,_,rfl,.inl ⟨rfl,_,SqL.of g⟩,dl,zs++[.ref b],.ref b,rfl,rfl,g,by simp,?_⟩;rw[List.dropLast_concat];have kt:KT H (upd H dl (.lst zs)):=.upd g λ_ z=>(nomatch z);have j:l≠dl:=λz=>by rw[<- z,C.l]at g;cases g
  have t:ua HM (upd H dl (.lst zs)) l el dl ks ⟨N,ended,bM⟩:=⟨λc u e n1 n2 o=>by rw[ai o];exact C.f c u e n1 n2 o,by rw[ai j];exact C.l,let ⟨v,e,al⟩:=C.e;⟨v,by rw[ai M.n2];exact e,al.mono (a_ kt)⟩,⟨zs,ag,i.mono (a_ kt)⟩⟩;exact Qm M t (kt _ _ hb) hz r s rfl λx3 x w=>⟨x3,_,rfl,w⟩
def CY(Z:aF->List aF)(ks:List aF):KS:=⟨lL Z,ks.filter λk=>decide (lL Z k=0),ks.filter λk=>decide (lL Z k=0)⟩
inductive CB:Sp
 |mk {H:Hp} {am:Addr} {ks:List aF} {Z:aF->List aF} {AA:aF->Addr} {n:Nat} {S':KS} {Q:VK} {E:XK} (A:Am H am ks Z AA) (nd:ks.Nodup) (hz:ks.length<1000) (hZ:∀k,(Z k).length<=63) (lp:KL (iN (jy Z ks)) n (CY Z ks) S') (ne:S'.ended.Nodup) (le:S'.ended.length<1000) (k:∀d H',Same H H'->H d=none->H' d=some (.dT (S'.ended.map λk=>(k2 k,V.bl true)))->Q (.ref d) H'):CB [.ref am] H Q E
def Bz(h:CB vs H Q E):vs.length=1:=by cases h;rfl
structure QO(X:Cx) (Fs Dj:Scope) (Gf tL Gg tS:Expr) (tN1 tN2 capN:List Str) (caps:List Nat) (ifs:List Expr):Prop where
 h1:tN1.length=2
 g1:∀cl C s3 H3 fp,PG (aV X Fs (tN1++[]) cl C s3 H3 fp) Gf (dQ X.K 2 (aX (aA 0) (aX (aA 1) dP)))
 e1:∀cl C s3 H3 fp,PE (aV X Fs (tN1++[]) cl C s3 H3 fp) tL (F0 X.K)
 h2:tN2.length=1
 c2:caps=[1]
 g2:∀cl C s3 H3 fp,PG (aV X Dj (tN2++capN) cl C s3 H3 fp) Gg (aA 0)
 t2:∀cl C s3 H3 fp,za (aV X Dj (tN2++capN) cl C s3 H3 fp) ifs F1
 e2:∀cl C s3 H3 fp,PE (aV X Dj (tN2++capN) cl C s3 H3 fp) tS (au 0)
def Om(K:Vx):TS:=aK (bb (fK (nL K) (aj (au 6) aE)) (aA 7)) (aK (LB K) (cL (bO Cq [] E0 (aj (au 6) aE))))
def Qo(X:Cx)(Fs Dj:Scope)(Gf tL Gg tS:Expr)(b c capN:List Str)(caps:List Nat)(e:List Expr):TS:=aK (Lr X Fs Gf tL b) (aK (bb fV (aA 2)) (aK (Lw X) (aK (Lx X Dj Gg tS c capN caps e) (Om X.K))))
theorem EH(c:QO X Fs Dj Gf tL Gg tS tN1 tN2 capN caps ifs)(h:CB vs H Q E):Qo X Fs Dj Gf tL Gg tS tN1 tN2 capN caps ifs {nx:=λ_ H'=>Q .bz H',rt:=Q} (bp ["among","left","before","head","ahead","other","ended","due","last"] vs) H:=by
 obtain @⟨H,am,ks,Z,AA,n,S',Q,E,A,nd,hz,hZ,lp,ne,le,k⟩:=h;refine Qh c.h1 c.g1 c.e1 A nd hz rfl λl H1 s1 nl J bd i=>?_;have G0:Gr IsSet H1 (upd H1 bd (.dT [])) bd [] (iN []) (λ_=>0):=⟨aw i,ag,i,λk h=>(nomatch h),λk h=>(nomatch h),λk _=>rfl⟩;refine Qj (l:=l) (A.more s1) hz hZ i G0 rfl λx3 x4 x5 H3 bks BA G=>?_;have L:l≠am:=λz=>by rw[z,A.r]at nl;cases nl
 refine Qk c.h2 c.c2 c.g2 c.t2 c.e2 ((A.more s1).more G.s) hz (G.s _ _ J) L rfl rfl λel p H4 O y t P=>⟨_,rfl,el,p,rfl,.inl (SqL.of t),λdl j=>?_⟩;have I:=aw (o:=.lst p) j;have b:upd H4 dl (.lst p) dl=some (.lst p):=ag;have g:=I _ _ t;have R:el≠dl:=ax t j;generalize upd H4 dl (.lst p)=H5 at I b g;have m:=O.trans I;have T:=s1.trans (G.s.trans m);have x:=m _ _ (G.s _ _ J);have Y:∀{c},H3 c=none->H c=none:=λh=>s1.free (G.s.free h);have U:H dl=none:=Y (O.free j);have M:MW H5 am l bd el dl ks bks (iN (jy Z ks)) BA:=⟨m _ _ G.r,λk hk=>let ⟨_,vs,e,al⟩:=G.v k hk;⟨vs,m _ _ e,al.mono (a_ (.of m)),λz=>(by rw[z,y]at e;cases e),λz=>by rw[<- z,O _ _ e]at j;cases j⟩,G.z,λ_ _ h=>By h,λz=>(by rw[z,J]at i;cases i),R,λc w e=>⟨λz=>(by rw[z,x]at e;cases e),λz=>(by rw[z,g]at e;cases e),λz=>(by rw[z,b]at e;cases e)⟩,⟨_,x⟩,⟨_,g⟩,⟨_,b⟩⟩;have B:=P.mono (a_ (.of I));refine Qn (x3:=x3) (x4:=x4) (x5:=x5) (x8:=none) (S:=CY Z ks) M ⟨λc u e _ _ _=>e,x,⟨p,g,B⟩,⟨p,b,B⟩⟩ hz lp rfl λx3 x8 H6 C=>?_;obtain⟨ev',V,W⟩:=C.e;have F:Same H H6:=λc u e=>C.f _ _ (T _ _ e) (λz=>by rw[z,nl]at e;cases e) (λz=>by rw[z,Y y]at e;cases e) λz=>by rw[z,U]at e;cases e
 exact⟨_,rfl,.mk (.inl V) W ne le λd H7 s7 nd hd=>k d H7 (F.trans s7) (F.free nd) hd⟩
end
noncomputable def iU(es:List aF)(k:aF):Bool:=!decide (k∈es)
inductive zd(Z:aF->List aF) (es ks:List aF):Nat->List aF->aF->List aF->aF->Prop
 |done {n:Nat} {w:List aF} {h:aF} (hm:h∈w):zd Z es ks n w h w h
 |step {n:Nat} {w w':List aF} {h h' hF:aF} (hm:h∉w) (hk:h∈ks) (f:w.length<1000) (hx:((Z h).filter (iU es)).head?=some h') (r:zd Z es ks n (w++[h]) h' w' hF):zd Z es ks (n+1) w h w' hF
def zd.last(r:zd Z es ks n w h w' hF)(a:w.length<=1000):hF∈w'/\w'.length<=1000:=by
 induction r with
 |done hm=>exact⟨hm,a⟩
 |step _ _ f _ _ b=>exact b (by simp;lia)
section
variable{X:Cx}{H H' HM:Hp}{a am q p l ed wd ll b:Addr}{ks es w w':List aF}{Z:aF->List aF}{AA:aF->Addr}{D:Ends}{σ:L2.St}{vs tv:List V}{k h hF:aF}{Q:VK}{E:XK}{sP:Sp}
theorem BB{Q:Bool->Hp->Prop}(c:H ed=some (.dT (es.map λk=>(k2 k,V.bl true))))(hb:H b=some (.tup ((k2 k).map kV)))(q:Q (iU es k) H):bI (bj (AC true) (au 0) (au 1)) (some (.ref b)::some (.ref ed)::cap) H Q:=by
 refine⟨_,rfl,_,rfl,ed,_,rfl,.inl (DGet.t (k:=k2 k) c hb),⟨_,rfl,?_⟩⟩;rw[sU];unfold iU at q;by_cases m:k∈es
 .rw[Re m];rw[Rm m]at q;exact q
 .rw[Rf m];rw[RK m]at q;exact q
theorem EI{P:aF->Bool}{Fin:Addr->List V->Hp->Prop}(h1:tN.length=1)(s:jP σ caps=cap)(I:∀cl C t H3 fp,PG (aV X scope (tN++capN) cl C t H3 fp) tg (aA 0))(J:∀cl C t H3 fp,za (aV X scope (tN++capN) cl C t H3 fp) ifs tt)(L:∀cl C t H3 fp,PE (aV X scope (tN++capN) cl C t H3 fp) elt (au 0))
 (x:H1 l=some (.lst tv)) (al:aL (IsSet H1) zs tv) (hz:zs.length<1000) (M:∀k b H',Same H1 H'->H' b=some (.tup ((k2 k).map kV))->∀Q:Bool->Hp->Prop,Q (P k) H'->tt (some (.ref b)::cap) H' Q)
 (k:∀f d H',H1 f=none->Same H1 H'->H' f=some (.lst d)->aL (IsSet H') (zs.filter P) d->Fin f d H'):ck X scope tg tN capN caps elt ifs σ Fin (CO X.K l) H1:=by
 have ln:=al.len;refine kW (n:=zs.length) I J L (λf i d H'=>Same H1 H'/\H' f=some (.lst d)/\aL (IsSet H') ((zs.take i).filter P) d/\H1 f=none) (λf m=>⟨aw m,ag,.nil,m⟩) (λh=>h.2.1) (λf i d H' ⟨g,_⟩ N=>⟨tv,tv[i]'(by lia),SqL.of (g _ _ x),Q1 _⟩) (λf d H' ⟨g,_⟩=>⟨tv,SqL.of (g _ _ x),by lia⟩) (λf i d H' R o S N ⟨g,m,r,A⟩ y v=>?_) λf d H' m ⟨g,B,r,_⟩=>k f d H' m g B (by rw[R8]at r;exact r);obtain⟨rfl,y⟩:=y;obtain⟨ki,O,b,rfl,hb⟩:=al.get (y _ (SqL.of (g _ _ x)));have hb:=g _ _ hb;rw[h1]at v;obtain⟨T,rfl⟩:=Tq.mp v;rw[s];have F:zs.take (i+1)=zs.take i++[ki]:=by rw[Ry,O];rfl
 have fl:=SS P (zs.take i);have lt:=Sj i zs;refine⟨λj G=>?_,M ki b o g hb _ (nZ (λc=>⟨_,rfl,m,jx (by rw[<- r.len];lia),λc u e=>?_,ag,?_,A⟩) λc=>⟨g,m,?_,A⟩)⟩
 .rw[h1]at G;obtain⟨j,rfl⟩:=Sg G;rfl
 .rw[ai (ax e A)];exact g _ _ e
 .have kt:KT o (upd o f (.lst (d++[.ref b]))):=.upd m λ_ z=>(nomatch z);rw[F,R4,SB,Re c];exact(r.mono (a_ kt)).snoc ⟨b,rfl,kt _ _ hb⟩
 .rw[F,R4,SB,Rf c,List.filter_nil,R_];exact r
def On:TT:=bI (bj (AC true) (au 0) (au 1))
noncomputable def EJ(v0 c:V)(am ed ll wd:Addr)(b:Addr):L2.St:=[some v0,some c,some (.ref am),some (.ref ed),some (.ref ll),some (.ref wd),some (.ref b),none]
def LC(X:Cx)(scope:Scope)(tg c:Expr)(tN capN:List Str)(caps:List Nat)(d:List Expr):TS:=bb (bj (kE X.K) (ja X scope tg tN capN caps c d (cu X.K (jE (au 2) (au 6)))) (tC (.int 0))) (aA 6)
def LD(t:TS):TS:=kA (bI (bj (AC true) (au 6) (au 5))) (aK (oR (au 5) (au 6) (tC (.bl true))) t)
structure Nm(X:Cx) (scope:Scope) (tg elt:Expr) (tN capN:List Str) (caps:List Nat) (ifs:List Expr):Prop where
 h:tN.length=1
 c:caps=[3]
 g:∀cl C s3 H3 fp,PG (aV X scope (tN++capN) cl C s3 H3 fp) tg (aA 0)
 t:∀cl C s3 H3 fp,za (aV X scope (tN++capN) cl C s3 H3 fp) ifs On
 e:∀cl C s3 H3 fp,PE (aV X scope (tN++capN) cl C s3 H3 fp) elt (au 0)
theorem Qp{scope:Scope}{tg o:Expr}{tN capN:List Str}(c:Nm X scope tg o tN capN caps ifs)(A:Am HM am ks Z AA)(M:∀k,(Z k).length<=63)(N:HM ed=some (.dT (es.map λk=>(k2 k,V.bl true))))(F:am≠wd)(G:ed≠wd)(I:∀k∈ks,AA k≠wd)(O:∃x,HM wd=some (.dT x))(kp:Kp wd HM H)(f:H wd=some (.dT (w.map λk=>(k2 k,V.bl true))))(hb:H b=some (.tup ((k2 h).map kV)))(lp:zd Z es ks n w h w' hF)(R:σ=EJ v0 v1 am ed ll wd b)
 (k:∀b H',Kp wd HM H'->H' wd=some (.dT (w'.map λk=>(k2 k,V.bl true)))->H' b=some (.tup ((k2 hF).map kV))->D.nx (EJ v0 v1 am ed ll wd b) H'):LD (LC X scope tg o tN capN caps ifs) D σ H:=by
 subst R;refine⟨λm σ H=>∃b w h,σ=EJ v0 v1 am ed ll wd b/\Kp wd HM H/\H wd=some (.dT (w.map λk=>(k2 k,V.bl true)))/\H b=some (.tup ((k2 h).map kV))/\zd Z es ks m w h w' hF,⟨n,b,w,h,rfl,kp,f,hb,lp⟩,?_⟩;clear kp f hb lp;rintro m σ H ⟨b,w,h,rfl,kp,f,hb,lp⟩;refine⟨_,rfl,_,rfl,wd,_,rfl,.inl (DGet.t (k:=k2 h) f hb),⟨_,rfl,?_⟩⟩;rw[sU];cases lp with
 |done hm=>rw[Re hm];exact di (k b H kp f hb)
 |@step m _ _ _ h' _ hm J fz i lp=>
  rw[Rf hm];refine iT ⟨λs H'=>∃b,s=EJ v0 v1 am ed ll wd b/\Kp wd HM H'/\H' wd=some (.dT ((w++[h]).map λk=>(k2 k,V.bl true)))/\H' b=some (.tup ((k2 h').map kV)),λs H' ⟨b,e,kp,f,hb⟩=>⟨m,SQ _,b,_,_,e,kp,f,hb,lp⟩,_,rfl,_,rfl,wd,_,rfl,DPut.t f (k:=k2 h) hb (jx (by rw[Q0];lia)),?_⟩;rw[dX _ (by rw[sU,Rf hm])];have e0:(w.map λk=>(k2 k,V.bl true))++[(k2 h,V.bl true)]=(w++[h]).map λk=>(k2 k,V.bl true):=by rw[RX];rfl
  rw[e0];have kt:KT H (upd H wd (.dT ((w++[h]).map λk=>(k2 k,V.bl true)))):=.upd f λ_ z=>(nomatch z);have d:Kp wd HM (upd H wd (.dT ((w++[h]).map λk=>(k2 k,V.bl true)))):=λc u e n=>by rw[ai n];exact kp _ _ e n
  have y:upd H wd (.dT ((w++[h]).map λk=>(k2 k,V.bl true))) wd=some (.dT ((w++[h]).map λk=>(k2 k,V.bl true))):=ag;have B:=kt _ _ hb;generalize upd H wd (.dT ((w++[h]).map λk=>(k2 k,V.bl true)))=H1 at d y B;obtain⟨ws,e1,al⟩:=A.v h J;have K:KT HM H1:=λc x e=>d _ _ e λz=>by obtain⟨_,h⟩:=O;rw[z,h]at e;cases e
  have e1:=d _ _ e1 (I h J);refine Reads.MX (v:=.bz) (.va rfl) (.va rfl) (.inl (d _ _ A.r F)) J B _ ⟨AA h,rfl,⟨ws,SqL.of e1⟩,EI (cap:=[some (.ref ed)]) (P:=iU es) (zs:=Z h) c.h (by rw[c.c];rfl) c.g c.t c.e e1 (al.mono (a_ K)) (by have:=M h;lia) (λk b H' S hb Q q=>BB (S _ _ (d _ _ N G)) hb q) λT U H2 nD s2 W al2=>?_⟩;cases C:(Z h).filter (iU es)with
  |nil=>rw[C]at i;cases i
  |cons x r=>
   rw[C]at i al2;cases i;cases al2 with
   |cons i _=>obtain⟨Y,rfl,L⟩:=i;exact⟨T,_,0,_,rfl,rfl,SqL.of W,ce (j:=0) rfl,Y,rfl,λc u e n=>s2 _ _ (d _ _ e n),s2 _ _ y,L⟩
def Ib(RL:List Sp.Rule)(As:List Sp.Arr)(c:Int)(bq:List Int):Prop:=∀Z ks,yZ RL As c bq Z ks->ks.Nodup/\ks.length<1000/\(∀k,(Z k).length<=63)/\∃n d,KL (iN (jy Z ks)) n (CY Z ks) d/\d.ended.Nodup/\d.ended.length<1000/\∀h0 r,ks.filter (iU d.ended)=h0::r->∃n w hF,zd Z d.ended ks n [] h0 w hF
inductive vL(RL:List Sp.Rule) (As:List Sp.Arr) (room:Int) (bq:List Int):Option (List aF)->Prop
 |no {Z:aF->List aF} {ks:List aF} {n:Nat} {S':KS} (g:yZ RL As room bq Z ks) (l:KL (iN (jy Z ks)) n (CY Z ks) S') (e:ks.filter (iU S'.ended)=[]):vL RL As room bq none
 |yes {Z:aF->List aF} {ks r w:List aF} {n m j:Nat} {S':KS} {h0 hF:aF} (g:yZ RL As room bq Z ks) (l:KL (iN (jy Z ks)) n (CY Z ks) S') (e:ks.filter (iU S'.ended)=h0::r) (q:zd Z S'.ended ks m [] h0 w hF) (x:w[j]?=some hF):vL RL As room bq (some (w.drop j))
noncomputable def Qq(H H':Hp):Option (List aF)->V->Prop
 |none,v=>v=.bz
 |some zs,v=>∃l vs,v=.ref l/\H l=none/\H' l=some (.lst vs)/\aL (IsSet H') zs vs
inductive CJ(sP:Sp):Sp
 |mk {H:Hp} {RL:List Sp.Rule} {As:List Sp.Arr} {p sp q:Addr} {room:Int} {bq:List Int} {Q:VK} {E:XK} (i:Ft sP H RL As p sp q room bq) (ok:Bo RL As room bq) (rg:Ib RL As room bq) (k:∀o v H',Same H H'->Qq H H' o v->vL RL As room bq o->Q v H'):CJ sP [.ref p,.ref sp] H Q E
theorem BC(h:CJ sP vs H Q E):vs.length=2:=by cases h;rfl
def Oo(K:Vx):TS:=cL (GD (zA K) (au 7) (lq (qZ K "list" Ko (au 7) (aj (au 6) aE))) lR)
def Oq(K:Vx)(t:TS):TS:=aK (LD t) (aK (bb (fK Bf (aj (au 5) aE)) (aA 7)) (Oo K))
def Os(K:Vx)(t:TS):TS:=aK (d8 (rn (EC K (au 4))) (cL (tC .bz)) cq) (aK (bb fV (aA 5)) (aK (bb (bj (kE K) (au 4) (tC (.int 0))) (aA 6)) (Oq K t)))
def LF(X:Cx)(scope:Scope)(tg c:Expr)(tN capN:List Str)(caps:List Nat)(d:List Expr):TS:=λD σ H=>qC X scope tg c tN capN caps d 4 (wN X (au 2)) (GM X D) σ H
def Qr(X:Cx)(sP:Sp)(c d:TS):TS:=aK (bb (bO (y_ sP) [] E0 (aj (au 0) (aj (au 1) aE))) (aA 2)) (aK (bb (bO CB [] E0 (aj (au 2) aE)) (aA 3)) (aK c (Os X.K d)))
theorem Qs(c:Nm X scope tg elt tN capN caps ifs)(A:Am H am ks Z AA)(hz:ks.length<1000)(y:H ed=some (.dT (es.map λk=>(k2 k,V.bl true))))(na:ed≠am)(h2:σ[2]?=some (some (.ref am)))(h3:σ[3]?=some (some (.ref ed)))(k:∀e x H',Same H H'->H e=none->H' e=some (.lst x)->aL (IsSet H') (ks.filter (iU es)) x->D.nx (σ.set 4 (some (.ref e))) H'):LF X scope tg elt tN capN caps ifs D σ H:=by
 refine⟨_,h2,am,_,_,rfl,.inl rfl,A.r,λo B=>?_⟩;have d:upd H am (.bw o (.dT (ks.map λk=>(k2 k,V.ref (AA k))))) am=some (.bw o (.dT (ks.map λk=>(k2 k,V.ref (AA k))))):=ag;have kp:Kp am H (upd H am (.bw o (.dT (ks.map λk=>(k2 k,V.ref (AA k)))))):=λc u e n=>by rw[ai n];exact e
 have back:∀{H1},Same (upd H am (.bw o (.dT (ks.map λk=>(k2 k,V.ref (AA k)))))) H1->Same H (upd H1 am (.dT (ks.map λk=>(k2 k,V.ref (AA k))))):=λs=>iO A.r s;generalize upd H am (.bw o (.dT (ks.map λk=>(k2 k,V.ref (AA k)))))=H1 at d kp back;refine wV (cap:=[some (.ref ed)]) c.h (by rw[c.c];show[σ[3]?.join]=_;rw[h3];rfl) c.g c.t c.e d hz (P:=iU es) (λk F b H' f hb Q q=>BB (f _ _ (kp _ _ y na)) hb q) λm v H' j f C al=>.inr ⟨am,o,_,f _ _ d,True.intro,B,?_⟩;have i:m≠am:=λz=>by rw[z,d]at j;cases j
 refine k m v _ (back f) ?_ (by rw[ai i];exact C) (al.mono (a_ (.upd (f _ _ d) λ_ z=>(nomatch z))));cases e:H m with
 |none=>rfl
 |some u=>rw[kp _ _ e i]at j;cases j
def Ot(x y:aF):gZ (pD x) (pD y)=decide (x=y):=by
 show(x.1==y.1&&(x.2==y.2&&true))=_;rw[Bool.and_true];by_cases e:x=y
 .rw[e,Rm rfl,BEq.rfl,BEq.rfl];rfl
 .rw[RK e,Bool.and_eq_false_iff];by_cases e1:x.1=y.1
  .exact .inr (S6.mpr λe2=>e (U2 e1 e2))
  .exact .inl (S6.mpr e1)
theorem kY(xs:List V)(j:Nat):dU xs (some (j:Nat)) none=xs.drop j:=by
 unfold dU;have h1:HT.sIx xs.length 0 (some ((j:Nat):Int))=min j xs.length:=HT.sIx_nat xs.length 0 j;have h2:HT.sIx xs.length xs.length none=xs.length:=rfl;rw[h1,h2];by_cases h:j<=xs.length
 .rw[Nat.min_eq_left h,Su (by simp)]
 .rw[Nat.min_eq_right (by lia),List.drop_eq_nil_of_le (by lia),List.drop_eq_nil_of_le (by lia),List.take_nil]
theorem aL.drop{α c:Type}{R:α->c->Prop}{xs:List α}{d:List c}(h:aL R xs d):∀j,aL R (xs.drop j) (d.drop j):=by
 induction h with
 |nil=>intro j;rw[List.drop_nil,List.drop_nil];exact .nil
 |cons a t e=>
  intro j;cases j with
  |zero=>exact .cons a t
  |succ j=>exact e j
theorem EK(c1:Nm X Fs Gf tL tN1 capN1 caps1 ifs1)(c2:Nm X Dj Gg tS tN2 capN2 caps2 ifs2)(h:CJ sP vs H Q E):Qr X sP (LF X Fs Gf tL tN1 capN1 caps1 ifs1) (LC X Dj Gg tS tN2 capN2 caps2 ifs2) {nx:=λ_ H'=>Q .bz H',rt:=Q} (bp ["house","standing","among","ended","left","walk","head","heads"] vs) H:=by
 obtain @⟨H,RL,As,p,sp,q,room,bq,Q,E,i,ok,rg,k⟩:=h;refine⟨_,rfl,_,rfl,.mk i ok λam Z AA ks H1 s1 nam A g=>?_⟩;obtain⟨nd,hz,hZ,n,S',lp,ne,le,wk⟩:=rg Z ks g;refine⟨_,rfl,.mk A nd hz hZ lp ne le λed H2 s2 J he=>?_⟩;have A2:=A.more s2;have S:ed≠am:=λz=>by rw[z,A.r]at J;cases J
 refine Qs c1 A2 hz he S rfl rfl λll ev H3 T nll K al=>?_;have B:=s1.trans (s2.trans T);refine⟨_,rfl,_,.inl ⟨_,SqL.of K,rfl⟩,?_⟩;cases d:ks.filter (iU S'.ended)with
 |nil=>rw[d]at al;cases al;exact iT (k none .bz H3 B rfl (.no g lp d))
 |cons h0 r=>
  rw[d]at al;cases al with
  |@cons _ v0 _ ev hv al=>
   obtain⟨b0,rfl,U⟩:=hv;refine di λwd f=>?_;have G:=aw (o:=.dT []) f;have La:upd H3 wd (.dT []) wd=some (.dT (([]:List aF).map λk=>(k2 k,V.bl true))):=ag;obtain⟨m,w,hF,rl⟩:=wk h0 r d;have W:=A2.more T;have L:=T _ _ he;have n1:am≠wd:=ax W.r f;have n2:ed≠wd:=ax L f;have n3:∀k∈ks,AA k≠wd:=λk hk=>let ⟨_,e,_⟩:=W.v k hk;ax e f;generalize upd H3 wd (.dT [])=H4 at G La;refine⟨_,rfl,ll,_,0,_,rfl,rfl,SqL.of (G _ _ K),ce (j:=0) rfl,?_⟩;refine Qp (HM:=H4) c2 (W.more G) hZ (G _ _ L) n1 n2 n3 ⟨_,La⟩ (λc u e _=>e) La (G _ _ U) rl rfl λb M kp N Y=>?_;have O:Same H M:=λc u e=>kp _ _ (G _ _ (B _ _ e)) λz=>by rw[z,B.free f]at e;cases e
   refine⟨_,rfl,wd,_,rfl,.inl (.inl N),λC bs hhl s P=>?_⟩;have I:=aw (o:=.lst (bs.map V.ref)) hhl;have F:aL (IsSet (upd M C (.lst (bs.map V.ref)))) w (bs.map V.ref):=by
    generalize upd M C (.lst (bs.map V.ref))=H6 at I;rw[Q0]at s;clear rl N;induction w generalizing bs with
    |nil=>cases bs with
     |nil=>exact .nil
     |cons _ _=>cases s
    |cons x w ih=>cases bs with
     |nil=>cases s
     |cons y bs=>refine .cons ⟨y,rfl,I _ _ (P 0 _ y rfl rfl)⟩ (ih bs (by simpa using s) λi p b e1 e2=>P (i+1) p b (by simpa using e1) (by simpa using e2))
   have t:upd M C (.lst (bs.map V.ref)) C=some (.lst (bs.map V.ref)):=ag;obtain⟨hm,lw⟩:=rl.last (Rh _);obtain⟨j,hj⟩ : ∃j,(w.map pD).findIdx? (λe=>gZ e (pD hF))=some j:=by
    cases e:(w.map pD).findIdx? (λe=>gZ e (pD hF))with
    |some j=>exact⟨j,rfl⟩
    |none=>have:=List.findIdx?_eq_none_iff.mp e (pD hF) (Q3.mpr ⟨hF,hm,rfl⟩);rw[Ot,Rm rfl]at this;cases this
   have hw:w[j]?=some hF:=by obtain⟨g1,g2,_⟩:=Tv.mp hj;rw[List.getElem_map,Ot]at g2;rw[Q0]at g1;rw[Q1 g1,Rr g2]
   generalize upd M C (.lst (bs.map V.ref))=H6 at I F t;have dp:=Lc w;have dp:D.fJ (w.map pD)+1<=50:=dp;refine⟨_,rfl,_,rfl,.inl ⟨rfl,_,SqL.of t⟩,_,rfl,C,_,w.map pD,pD hF,λ_=>True,λ_=>True,.ref b,j,rfl,rfl,.inl t,Lb F,Ob ⟨b,rfl,I _ _ Y⟩,⟨by lia,Tz rfl⟩,hj,_,rfl,C,_,rfl,SqL.of t,λl R=>?_⟩;have s7:=aw (o:=.lst (dU (bs.map V.ref) (some (j:Nat)) none)) R;refine k (some (w.drop j)) _ _ (O.trans (I.trans s7)) ⟨l,_,rfl,(O.trans I).free R,ag,?_⟩ (.yes g lp d rl hw);rw[kY];rw[kY]at s7;exact(F.mono (a_ (.of s7))).drop j
end
end L4
namespace L4
open PySem PySem.Spec PySem.Calls PyProof.Rows L2 L3 ST
def BD(X:Cx):List V->Hp->VK->Prop:=λxs H Q=>∃p es its,xs=[.ref p]/\H p=some (.ext λh=>SetAt X.w h p es)/\d7 (eT X.prog X.w) es its/\(∀x∈its,H x.2=some (.tup ((iK x.1).map kV)))/\(its.map (·.1)).Nodup/\its.length<=300/\Q (.int its.length) H
def yE:CallR X (.builtin "len") (BD X):=by
 intro ac s σ H vs us Q I r h;obtain⟨p,es,its,rfl,c,v,d,nd,hz,q⟩:=h;obtain⟨u,rfl,ru⟩:=dR r;obtain rfl:u=Value.ref p:=ru;obtain⟨⟨o,ep,t,f,hex,hd,T,sp,_⟩,_,_⟩:=(show ObjOk X.prog X.w H s.heap p (.ext λh=>SetAt X.w h p es)from I.aW p _ c);have a:=λx b=>dc I.aW (d x b);obtain⟨zs,m,g,n,al,_⟩:=v.own (DO a);have e1:its.length<=zs.length:=by
  have:=Sp.nodup_sub (l:=its.map (·.1)) (U:=zs.map (·.1)) nd λk i=>by obtain⟨x,b,rfl⟩:=Q3.mp i;obtain⟨y,j,e⟩:=al x b;exact Q3.mpr ⟨y,j,e⟩
  simpa using this
 have e2:=v.sz;have e:es.size=its.length:=by lia
 refine call_len_set f hex hd (md.fits T (fw sp)) (by lia) ⟨.int its.length,H,I.tok _,⟨_,by rw[e]⟩,q⟩
section
variable{X:Cx}{K:Vx}{mg:Str->Option Vz}{Fw:List L3.D->Res R}{B H H':Hp}{a q p d l fl hl b:Addr}{ks zs hs:List aF}{Z:aF->List aF}{LA:aF->Addr}{D:Ends}{σ:L2.St}{vs:List V}{k:aF}{Q:VK}{E:XK}
theorem yF(h:Reads ta σ H (.ref l))(hl:Rd H l (.lst vs))(a:aL (IsSet H) zs vs)(nd:zs.Nodup)(hz:zs.length<=300)(k:∀H',Same H H'->Q (.int zs.length) H'):fK (BD X) (aj (fK (sR X) (aj ta aE)) aE) σ H Q:=by
 obtain⟨its,f,t2⟩:=wO a;have c:=pj f;have ln:its.length=zs.length:=by have:=Sy List.length t2;simpa using this
 refine h _ ⟨l,vs,its,rfl,hl,f,by rw[<- a.len];exact hz,λb es hb v=>?_⟩;have s1:=aw (o:=.ext λh=>SetAt X.w h b es) hb;refine⟨b,es,its,rfl,ag,v,λx g=>s1 _ _ (c x g),?_,by lia,by rw[ln];exact k _ s1⟩;rw[t2];unfold List.Nodup;rw[Sw];exact nd.imp λh e=>h (nG e)
structure qO(zs hs:List aF) (Z:aF->List aF):Prop where
 n:zs.Nodup
 e:zs≠[]
 l:zs.length<=63
 h:∀x∈zs,x∈hs
 f:∀(i:Nat) x y,zs[i]?=some x->zs[i+1]?=some y->y∈Z x
 b:∀x y,zs.getLast?=some x->zs.head?=some y->y∈Z x
inductive CA:Sp
 |mk {B H:Hp} {fl hl d:Addr} {fv hv:List V} {zs hs ks:List aF} {Z:aF->List aF} {LA:aF->Addr} {Q:VK} {E:XK} (hf:H fl=some (.lst fv)) (af:aL (IsSet H) zs fv) (hh:H hl=some (.lst hv)) (ah:aL (IsSet H) hs hv) (g:Gr IsSet B H d ks Z LA) (r:qO zs hs Z) (k:∀H',Same H H'->Q (.bl true) H'):CA [.ref fl,.ref hl,.ref d] H Q E
def BE(h:CA vs H Q E):vs.length=3:=by cases h;rfl
def Ou(K:Vx):TT:=FC (bI (bj (Ea true K) (au 4) (au 1))) (bI (bj (Ea true K) (au 4) (dG (au 2) (bj (kE K) (au 0) (bj F2 (au 3) (tC (.int 1)))) (dS aE))))
def LG(mg:Str->Option Vz)(Fw:List L3.D->Res R)(K:Vx)(j:Int):TE:=bO (oh mg 1 Fw) [] E0 (aj (bj (kF K) (au 4) (tC (.int j))) aE)
def Ov(mg:Str->Option Vz)(Fw:List L3.D->Res R)(K:Vx):TT:=FC (rn (tB (LG mg Fw K 0))) (rn (tB (LG mg Fw K 1)))
def Ow(K:Vx):TT:=FC (rn (tB (HS K "tuple" (au 4)))) (bI (bj Nx (fK (fB K) (aj (au 4) aE)) (tC (.int 2))))
def Ox(mg:Str->Option Vz)(Fw:List L3.D->Res R)(K:Vx):TS:=aK (bb (bj (kE K) (au 0) (au 3)) (aA 4)) (aK (d8 (Ow K) Le cq) (aK (d8 (Ov mg Fw K) Le cq) (d8 (Ou K) Le cq)))
def Oy(X:Cx):TT:=FC (rn (tB (HS X.K "list" (au 0)))) (FC (bI (bj oK (fK (fB X.K) (aj (au 0) aE)) (tC (.int 0)))) (bI (bj Nx (fK (BD X) (aj (fK (sR X) (aj (au 0) aE)) aE)) (fK (fB X.K) (aj (au 0) aE)))))
def Qu(X:Cx)(mg:Str->Option Vz)(Fw:List L3.D->Res R):TS:=aK (d8 (Oy X) Le cq) (aK (d9 (rp (aj (fK (fB X.K) (aj (au 0) aE)) aE)) (aA 3) (Ox mg Fw X.K)) (cL (tC (.bl true))))
def LH(Fw:List L3.D->Res R):Prop:=∀x:Int,Fw [.int x]=.ok (.val (.bl true) true [])
def Oz(h:x∈hs):((hs.map pD).any λe=>gZ e (pD x))=true:=by rw[Vn];exact⟨_,Q3.mpr ⟨x,h,rfl⟩,by rw[Ot,Rm rfl]⟩
theorem Reads.Nl(ha:Reads ta σ H (.ref p))(hb:Reads tb σ H (.int i))(h:H p=some (.lst xs))(e:f_ xs i=some v):Reads (bj (kE K) ta tb) σ H v:=ha.op hb λ_ q=>⟨p,xs,i,v,rfl,rfl,SqL.of h,e,q⟩
theorem BF(l:List V)(v:V):f_ (l++[v]) (-1)=some v:=by
 unfold f_ zy;rw[Rf (by lia),Re (by simp;lia)];have:((-1:Int)+((l++[v]).length:Nat)).toNat=l.length:=by simp;lia
 show(l++[v])[((-1:Int)+((l++[v]).length:Nat)).toNat]?=some v;rw[this];simp
theorem BH{Q:Bool->Hp->Prop}(ha:Reads ta σ H (.ref b))(hb:H b=some (.tup ((k2 x).map kV)))(c:∀Q:VK,(∀l vs hs H',Same H H'->H' l=some (.lst vs)->aL (IsSet H') hs vs->x∈hs->Q (.ref l) H')->tb σ H Q)(k:∀H',Same H H'->Q false H'):bI (bj (Ea true K) ta tb) σ H Q:=by
 refine ha _ (c _ λl vs hs H' s hl al m=>⟨l,hs.map pD,vs,pD x,λ_=>True,λ_=>True,rfl,.inl (SqL.of hl),Lb al,Ob ⟨b,rfl,s _ _ hb⟩,⟨?_,Tz rfl⟩,_,rfl,?_⟩)
 .have:D.fJ (hs.map pD)+1<=50:=Lc hs;lia
 .rw[Oz m];exact k H' s
theorem EL(W:LH Fw)(h:CA vs H Q E):Qu X mg Fw {nx:=λ_ H'=>Q .bz H',rt:=Q} (bp ["_law_found","_law_heads","_law_led","_law_k","_law_head"] vs) H:=by
 obtain @⟨B,H,fl,hl,d,fv,hv,zs,hs,ks,Z,LA,Q,E,hf,af,hh,ah,g,r,k⟩:=h;have ln:=af.len;have lz:=r.l;have nz:zs.length≠0:=λz=>r.e (RJ.mp z);refine Reads.Px (dd:=.lst []) (.va rfl) (.inl (.lst hf)) xZ _ ⟨_,rfl,di ?_⟩;refine Reads.vG (.qS (.va rfl) (.inl hf)) .k _ ⟨_,rfl,?_⟩;rw[RK (by lia)];refine di (yF (X:=X) (.va rfl) (.inl hf) af r.n (by lia) λH1 s1=>?_);refine Reads.qS (.va rfl) (.inl (s1 _ _ hf)) _ ⟨rfl,_,rfl,?_⟩;rw[Rm (by rw[ln])];refine di ?_;refine Reads.qS (.va rfl) (.inl (s1 _ _ hf)) _ ⟨(fv.length:Int),rfl,by lia,by lia,?_⟩;refine kU (n:=(fv.length:Int).toNat) (λi m H'=>(∃x y,m=[some (.ref fl),some (.ref hl),some (.ref d),x,y])/\Same H H') ⟨⟨none,none,rfl⟩,s1⟩ (λi m H' p L=>L) (λm H' p=>QY _) (λi m H' x C D' L p y k'=>?_) λm H' p=>k H' p.2;obtain⟨⟨x3,x4,rfl⟩,s⟩:=p;obtain⟨rfl,rfl⟩:=y;rw[Vu];have L:i<zs.length:=by lia
 have ex:zs[i]?=some zs[i]:=Q1 L;generalize zs[i]=x at ex;have w:fv[i]?=some (fv[i]'(by lia)):=Q1 (by lia);obtain⟨x',F,b,eb,hb⟩:=af.get w;rw[ex]at F;cases F;rw[eb]at w;have hx:=RE ex;have G:∃(z:aF)(c:Addr),f_ fv ((i:Nat)-1:Int)=some (.ref c)/\H c=some (.tup ((k2 z).map kV))/\x∈Z z:=by
  cases i with
  |zero=>obtain⟨zs',z,O⟩ : ∃l z,zs=l++[z]:=⟨zs.dropLast,zs.getLast r.e,(Tj _).symm⟩;rw[O]at af;obtain⟨fv',v,rfl,_,c,rfl,I⟩:=af.vN;exact⟨z,c,BF _ _,I,r.b z x (by rw[O];simp) (by rw[<- ex];cases zs<;>rfl)⟩
  |succ i=>have O:zs[i]?=some zs[i]:=Q1 (by lia);have w:fv[i]?=some (fv[i]'(by lia)):=Q1 (by lia);obtain⟨Y,P,c,R,I⟩:=af.get w;rw[R]at w;exact⟨Y,c,by rw[show(((i+1:Nat):Int)-1)=((i:Nat):Int) by lia];exact ce w,I,r.f i Y x P ex⟩
 obtain⟨z,c,R,I,mz⟩:=G;have S:∀{H3},Same C H3->D'.nx [some (.ref fl),some (.ref hl),some (.ref d),some (.int (i:Nat)),some (.ref b)] H3:=λM=>k' _ _ ⟨⟨_,_,rfl⟩,s.trans M⟩;have j:=s _ _ hb;refine Reads.Nl (.va rfl) (.va rfl) (s _ _ hf) (ce w) _ ?_;show aK _ _ D' [some (.ref fl),some (.ref hl),some (.ref d),some (.int (i:Nat)),some (.ref b)] C;refine Reads.Px (dd:=.tup []) (.va rfl) (.inl (.tup j)) uY _ ⟨_,rfl,di (Reads.len (.va rfl) j _ ⟨rfl,_,rfl,di ?_⟩)⟩;refine Bi (ds:=[.int x.1]) (.c (.ix (.va rfl) j rfl) .ni) rfl ⟨_,_,rfl,rfl,rfl⟩ (W _) λH3 M=>⟨_,rfl,di ?_⟩;refine Bi (ds:=[.int x.2]) (.c (.ix (.va rfl) (M _ _ j) rfl) .ni) rfl ⟨_,_,rfl,rfl,rfl⟩ (W _) λH4 s4=>⟨_,rfl,di ?_⟩;have u:=M.trans s4;have T:=s.trans u;refine BH (x:=x) (.va rfl) (u _ _ j) (λQ q=>⟨_,rfl,q hl hv hs H4 (λ_ _ e=>e) (T _ _ hh) (ah.mono (a_ (.of T))) (r.h x hx)⟩) λH5 U=>di ?_;have A:=T.trans U;have V:=g.more a_ A;refine BH (x:=x) (.va rfl) (U _ _ (u _ _ j)) (λQ q=>⟨_,rfl,d,rfl,.inr ⟨_,.inl V.r⟩,Reads.Nl (.va rfl) (Reads.op (z:=.int ((i:Nat)-1)) (.va rfl) .k λ_ q=>⟨_,_,rfl,rfl,q⟩) (A _ _ hf) R _ ⟨Rh _,λq2 J=>?_⟩⟩) λH6 s6=>di (S ((u.trans U).trans s6));have N:=aw (o:=.lst []) J;obtain⟨pp,ov,e1,e2,e3⟩:=qA V J z;refine⟨_,DGet.t (k:=k2 z) (N _ _ V.r) (N _ _ (A _ _ I)),?_⟩;rw[e1];exact q pp ov (Z z) _ N e2 (e3.mono (a_ (.of N))) mz
end
end L4
namespace L4
open PySem PySem.Spec PyProof.Rows L2 L3
structure JS(ro sg:Int) (r:Sp.Rule):Prop where
 a:0<=r.1/\r.1<ro
 s:0<=r.2.1/\r.2.1<sg
 t:0<=r.2.2.1/\r.2.2.1<ro
 p:r.2.2.2.length<=2
 q:∀x∈r.2.2.2,0<=x/\x<sg
def LI(K:Vx):V->Option Int->Option Int->Hp->VK->Prop:=λx lo b H Q=>∃a xs,x=.ref a/\SqT K H a xs/\(HT.sIx xs.length 0 lo=0->HT.sIx xs.length xs.length b=xs.length->Q x H)/\∀p,H p=none->Q (.ref p) (upd H p (.tup (dU xs lo b)))
section
variable{K:Vx}{H H':Hp}{D:Ends}{σ:L2.St}{vs:List V}{Q:VK}{E:XK}{ro sg:Int}
theorem EM:J0 X (LI X.K):=by
 intro ac s σ H x v c d lo b sl Q I f g pl i h;obtain⟨a,xs,e,j,h1,h2⟩:=h;by_cases w:HT.sIx xs.length 0 lo=0/\HT.sIx xs.length xs.length b=xs.length
 .exact D_ ac s σ H x v c d lo b sl Q I f g pl i ⟨a,xs,e,j,w,h1 w.1 w.2⟩
 .exact GE ac s σ H x v c d lo b sl Q I f g pl i ⟨a,xs,e,j,w,h2⟩
def em{a b:Int}(h:0<b):0<=a%b/\a%b<b:=⟨Int.emod_nonneg _ (by lia),Int.emod_lt_of_pos _ h⟩
def Reads.mod(ha:Reads ta σ H (.int i))(hb:Reads tb σ H (.int j))(h:0<j):Reads (bj cR ta tb) σ H (.int (i%j)):=ha.op hb λ_ q=>⟨_,_,rfl,rfl,h,q⟩
def Reads.dv(ha:Reads ta σ H (.int i))(hb:Reads tb σ H (.int j))(h:0<j/\j<1073741824):Reads (bj jV ta tb) σ H (.int (i/j)):=ha.op hb λ_ q=>⟨_,_,rfl,rfl,h,q⟩
def jW:R2:=rI CMul λi j=>.int (i*j)
def Reads.mul(ha:Reads ta σ H (.int i))(hb:Reads tb σ H (.int j))(h:-(2^64)<j/\j<2^64):Reads (bj jW ta tb) σ H (.int (i*j)):=ha.op hb λ_ q=>⟨_,_,rfl,rfl,.inr h,q⟩
def Reads.ad(ha:Reads ta σ H (.int i))(hb:Reads tb σ H (.int j)):Reads (bj dw ta tb) σ H (.int (i+j)):=ha.op hb λ_ q=>⟨_,_,rfl,rfl,q⟩
def d6(h:Reads t σ H v)(k:D.nx (σ.set i (some v)) H):bb t (aA i) D σ H:=h _ k
def LJ(h:te σ H λx H1=>tl σ H1 λl a=>th σ a λu H3=>r x l u H3 Q):GD r te tl th σ H Q:=h
theorem LK{Q:List V->Hp->Prop}(h:te σ H λv H1=>tr σ H1 λvs a=>Q (v::vs) a):aj te tr σ H Q:=h
inductive CN:Sp
 |mk {H:Hp} {c ro sg:Int} {b:Bool} {Q:VK} {E:XK} (h1:0<ro/\ro<1073741824) (h2:0<sg/\sg<1073741824) (k:∀p r H',Same H H'->IsRule H' r (.ref p)->JS ro sg r->Q (.ref p) H'):CN [.int c,.int ro,.int sg,.bl b] H Q E
def BI(h:CN vs H Q E):vs.length=4:=by cases h;rfl
def Pl(te:TE):TS:=cL (cI (aj (au 4) (aj (au 5) (aj (au 6) (aj te aE)))))
def OA(K:Vx):TS:=Pl (GD (LI K) (cI (aj (bj cR (au 0) (au 8)) (aj (bj cR (bj jV (au 0) (au 8)) (au 8)) aE))) lR (lq (au 7)))
def LL(K:Vx):TS:=aK (d8 (bI (bj oK (au 8) (tC (.int 0)))) (Pl (cI aE)) cq) (OA K)
def OB(K:Vx):TS:=aK (d8 (EC K (au 3)) (bb (au 5) (aA 8)) cq) (LL K)
def Nj(i j:Nat):TE:=bj cR (au i) (au j)
def Nk(i j:Nat):TE:=bj jV (au i) (au j)
def OC(K:Vx):TS:=aK (bb (bj cR (au 0) (tC (.int 3))) (aA 7)) (aK (bb (bj jV (au 0) (tC (.int 3))) (aA 0)) (aK (bb (au 2) (aA 8)) (OB K)))
def Qw(K:Vx):TS:=aK (bb (Nj 0 1) (aA 4)) (aK (bb (Nk 0 1) (aA 0)) (aK (bb (Nj 0 2) (aA 5)) (aK (bb (Nk 0 2) (aA 0)) (aK (bb (Nj 0 1) (aA 6)) (aK (bb (Nk 0 1) (aA 0)) (OC K))))))
def Pn{n a s t z w:Int}(ha:0<=a/\a<ro)(u:0<=s/\s<sg)(v:0<=t/\t<ro)(A:0<=w/\w<=sg)(h2:sg<1073741824)(k:∀p r H',Same H H'->IsRule H' r (.ref p)->JS ro sg r->Q (.ref p) H'):LL K {nx:=λ_ H'=>Q .bz H',rt:=Q} [some (.int n),some (.int ro),some (.int sg),some b,some (.int a),some (.int s),some (.int t),some (.int z),some (.int w)] H:=by
 have d:∀{H1:Hp}{q:Addr}{put:List Int},Same H H1->H1 q=some (.tup (put.map .int))->put.length<=2->(∀x∈put,0<=x/\x<sg)->∀p,H1 p=none->Q (.ref p) (upd H1 p (.tup [.int a,.int s,.int t,.ref q])):=λ{H1 q put} s1 g h3 y p m=>k p (a,s,t,put) _ (s1.trans (aw m)) ⟨p,q,rfl,ag,aw m _ _ g⟩ ⟨ha,u,v,h3,y⟩;refine gR (.vG (.va rfl) .k) (λc=>?_) λc=>?_
 .refine⟨_,rfl,_,rfl,_,rfl,Rh _,λq g=>⟨by show 4<=_;rw[RB];lia,d (put:=[]) (aw g) ag (Rh _) λ_ h=>nomatch h⟩⟩
 .have i:0<w:=by have:¬w=0:=λz=>c (Rm z);lia
  have B:=em (a:=n) i;have m2:=em (a:=n/w) i;have rd:ReadsA (aj (Nj 0 8) (aj (bj cR (Nk 0 8) (au 8)) aE)) [some (.int n),some (.int ro),some (.int sg),some b,some (.int a),some (.int s),some (.int t),some (.int z),some (.int w)] H [.int (n%w),.int (n/w%w)]:=.c (.mod (.va rfl) (.va rfl) i) (.c (.mod (.dv (.va rfl) (.va rfl) ⟨i,by lia⟩) (.va rfl) i) .ni);refine⟨_,rfl,_,rfl,_,rfl,LK (LJ (oo rd rfl λq g=>?_))⟩;have s1:=aw (o:=.tup [.int (n%w),.int (n/w%w)]) g;have f:upd H q (.tup [.int (n%w),.int (n/w%w)]) q=some (.tup ([n%w,n/w%w].map .int)):=ag;generalize upd H q (.tup [.int (n%w),.int (n/w%w)])=H1 at s1 f;have mem:∀x∈[n%w,n/w%w],0<=x/\x<sg:=λx j=>by
   rcases Q_.mp j with e|e
   .rw[e];lia
   .rw[Q9.mp e];lia
  refine⟨_,rfl,_,rfl,q,_,rfl,SqT.of f,λ_ _=>⟨by show 4<=_;rw[RB];lia,d s1 f (QY _) mem⟩,λq2 l=>⟨by show 4<=_;rw[RB];lia,d (put:=([n%w,n/w%w].drop (HT.sIx 2 0 none)).take (HT.sIx 2 2 (some z)-HT.sIx 2 0 none)) (s1.trans (aw l)) ?_ ?_ λx j=>mem x (Ug (SM j))⟩⟩
  .rw[ag];unfold dU;rw[List.map_take,List.map_drop];rfl
  .rw[Sa,Um];simp;lia
theorem EN(h:CN vs H Q E):Qw K {nx:=λ_ H'=>Q .bz H',rt:=Q} (bp ["_law_number","_law_rooms","_law_signs","_law_falls","_law_room","_law_sign","_law_to","_law_size","_law_below"] vs) H:=by
 obtain @⟨H,c,ro,sg,b,Q,E,h1,h2,k⟩:=h;refine d6 (.mod (.va rfl) (.va rfl) h1.1) (d6 (.dv (.va rfl) (.va rfl) h1) (d6 (.mod (.va rfl) (.va rfl) h2.1) (d6 (.dv (.va rfl) (.va rfl) h2) (d6 (.mod (.va rfl) (.va rfl) h1.1) (d6 (.dv (.va rfl) (.va rfl) h1) (d6 (.mod (.va rfl) .k (by decide)) (d6 (.dv (.va rfl) .k ⟨by decide,by decide⟩) (d6 (.va rfl) ?_))))))));refine⟨_,rfl,b,rfl,?_⟩;have d:=em (a:=c/ro) h2.1;cases b with
 |true=>exact iT (d6 (.va rfl) (Pn (em h1.1) d (em h1.1) (by lia) h2.2 k))
 |false=>exact di (Pn (em h1.1) d (em h1.1) (by lia) h2.2 k)
end
section
variable{K:Vx}{mg:Str->Option Vz}{Fm Fc:CW}{H H':Hp}{D:Ends}{σ:L2.St}{vs ws:List V}{Q:VK}{E:XK}{ro sg many:Int}{RL:List Sp.Rule}
inductive CC:Sp
 |mk {H:Hp} {c sg:Int} {Q:VK} {E:XK} (hs:0<sg) (k:∀l (bq:List Int) H',Same H H'->H l=none->H' l=some (.lst (bq.map .int))->bq.length<=5->(∀x∈bq,0<=x/\x<sg)->Q (.ref l) H'):CC [.int c,.int sg] H Q E
def BJ(h:CC vs H Q E):vs.length=2:=by cases h;rfl
def OD(K:Vx):TS:=aK (bb (bj cR (bj dw (bj dw (bj jW (au 2) (tC (.int 48271))) (bj jW (au 4) (au 4))) (tC (.int 11))) (tC (.int 2147483647))) (aA 2)) (b8 (qZ K "list" cT (au 3) (aj (bj cR (bj jV (au 2) (tC (.int 7))) (au 1)) aE)))
def Qx(K:Vx):TS:=aK (bb (bj cR (bj jV (au 0) (tC (.int 6))) (tC (.int 2147483647))) (aA 2)) (aK (bb (dS aE) (aA 3)) (aK (d9 (rp (aj (bj cR (au 0) (tC (.int 6))) aE)) (aA 4) (OD K)) (cL (au 3))))
theorem EO(h:CC vs H Q E):Qx K {nx:=λ_ H'=>Q .bz H',rt:=Q} (bp ["_law_cell","_law_signs","_law_number","_law_stack_here","_law_k"] vs) H:=by
 obtain @⟨H,c,sg,Q,E,hs,k⟩:=h;refine d6 (.mod (.dv (.va rfl) .k ⟨by decide,by decide⟩) .k (by decide)) ⟨Rh _,λl g=>?_⟩;have q:=em (a:=c) (b:=6) (by decide);refine Reads.mod (.va rfl) .k (by decide) _ ⟨_,rfl,by lia,by lia,?_⟩;refine kU (n:=(c%6).toNat) (λi d H'=>∃(num:Int)(bq:List Int)(x4:Option V),d=[some (.int c),some (.int sg),some (.int num),some (.ref l),x4]/\Same H H'/\H' l=some (.lst (bq.map .int))/\bq.length=i/\∀x∈bq,0<=x/\x<sg) ⟨_,[],none,rfl,aw g,ag,rfl,λ_ h=>nomatch h⟩ (λi d H' p j=>j) (λd H' p=>QY _) (λi d H' x m D' j p y o=>?_) λd H' p=>?_
 .obtain⟨num,bq,x4,rfl,s,f,ln,hb⟩:=p;obtain⟨rfl,rfl⟩:=y;rw[Vu];refine d6 (.mod (.ad (.ad (.mul (.va rfl) .k ⟨by decide,by decide⟩) (.mul (.va (v:=.int (i:Nat)) rfl) (.va rfl) ⟨by lia,by lia⟩)) .k) .k (by decide)) ⟨_,rfl,.inl ⟨rfl,_,SqL.of f⟩,Reads.mod (.dv (.va rfl) .k ⟨by decide,by decide⟩) (.va rfl) hs _ ⟨l,_,_,rfl,rfl,f,jx (by rw[Q0];lia),o _ _ ⟨_,bq++[_],_,rfl,λc u e=>?_,by rw[ag,RX];rfl,by rw[Q8,ln];rfl,λx hx=>?_⟩⟩⟩
  .rw[ai λz=>by rw[z,g]at e;cases e];exact s _ _ e
  .rcases Rj.mp hx with hx|hx
   .exact hb x hx
   .rw[Q9.mp hx];exact em hs
 .obtain⟨num,bq,x4,rfl,s,f,ln,hb⟩:=p;exact⟨_,rfl,k l bq H' s g f (by lia) hb⟩
structure Fz(B H:Hp) (l:Addr) (ro sg:Int) (n:Nat) (RL:List Sp.Rule):Prop where
 s:Same B H
 l:∃ws,H l=some (.lst ws)/\aL (IsRule H) RL ws
 a:∀r∈RL,JS ro sg r
 n:RL.length<=n
def Fz.up{l:Addr}{n m:Nat}(h:Fz B H l ro sg n RL)(hm:n<=m):Fz B H l ro sg m RL:=⟨h.s,h.l,h.a,Rx h.n hm⟩
def Ic(K:Vx)(tn tb:TE):TS:=b8 (qZ K "list" cT (au 6) (aj (bO CN [] E0 (aj tn (aj (au 1) (aj (au 2) (aj tb aE))))) aE))
theorem Po(A:Fz B H l ro sg n RL)(nl:B l=none)(hz:n<1000)(h1:0<ro/\ro<1073741824)(h2:0<sg/\sg<1073741824)(f:σ[6]?=some (some (.ref l)))(e1:σ[1]?=some (some (.int ro)))(e2:σ[2]?=some (some (.int sg)))(g:Reads tn σ H (.int i))(hb:Reads tb σ H (.bl b))(k:∀H' r,Kp l H H'->Fz B H' l ro sg (n+1) (RL++[r])->D.nx σ H'):Ic K tn tb D σ H:=by
 obtain⟨s,⟨ws,d,al⟩,a,h⟩:=A;refine⟨_,f,.inl ⟨rfl,_,SqL.of d⟩,g _ ⟨_,e1,_,e2,hb _ (.mk h1 h2 λp r H1 s1 j m=>?_)⟩⟩;have kt:KT H1 (upd H1 l (.lst (ws++[.ref p]))):=.upd (s1 _ _ d) λ_ z=>(nomatch z);refine⟨l,ws,_,rfl,rfl,s1 _ _ d,jx (by rw[<- al.len];lia),k _ r (λc u e n=>by rw[ai n];exact s1 _ _ e) ⟨λc u e=>?_,⟨_,ag,(al.mono (IsRule.keep ((KT.of s1).trans kt))).snoc (IsRule.keep kt _ _ j)⟩,λx hx=>?_,by rw[Q8,RN];lia⟩⟩
 .rw[ai λz=>by rw[z,nl]at e;cases e];exact s1 _ _ (s _ _ e)
 .rcases Rj.mp hx with hx|hx
  .exact a x hx
  .rw[Q9.mp hx];exact m
inductive Ct(Fm Fc:CW):Sp
 |mk {H:Hp} {v0:V} {sc:List Int} {ro sg many x0 x1 y0:Int} {Q:VK} {E:XK} (is:Is H Tr (.lst (sc.map .int)) v0) (h1:0<ro/\ro<=8) (h2:0<sg/\sg<=14) (h3:ro*sg<=28) (hm:0<=many/\many<=12) (c0:Fc [.lst (sc.map .int),.int 0]=.ok (.val (.int x0) true [])) (m0:Fm [.int x0]=.ok (.val (.int y0) true [])) (c1:Fc [.lst (sc.map .int),.int 1]=.ok (.val (.int x1) true [])) (k:∀l ws RL H',Same H H'->H l=none->H' l=some (.lst ws)->aL (IsRule H') RL ws->(∀r∈RL,JS ro sg r)->(RL.length:Int)<=ro*sg+12->Q (.ref l) H'):Ct Fm Fc [v0,.int ro,.int sg,.int many] H Q E
def BK(h:Ct Fm Fc vs H Q E):vs.length=4:=by cases h;rfl
def LM:TE:=JT (bj oK (au 4) (tC (.int 0))) (FD (bj oK (au 4) (tC (.int 3))) (bj HD (bj cR (au 8) (tC (.int 5))) (tC (.int 2))))
def OE(K:Vx):TS:=aK (bb LM (aA 9)) (Ic K (bj cR (bj jW (bj dw (bj cR (au 8) (tC (.int 2147483647))) (tC (.int 5))) (tC (.int 69621))) (tC (.int 2147483647))) (zi (au 9)))
def OF(K:Vx):TS:=aK (bb (bj cR (bj dw (bj dw (bj jW (au 5) (au 5)) (bj jW (tC (.int 48271)) (au 5))) (au 7)) (tC (.int 2147483647))) (aA 5)) (d8 (bI (bj HD (bj cR (au 5) (tC (.int 4))) (tC (.int 3)))) (Ic K (bj dw (bj jW (bj jW (bj jV (au 5) (tC (.int 4))) (au 1)) (au 2)) (au 7)) (bj JH (au 4) (tC (.int 0)))) cq)
def LN(K:Vx):TS:=aK (d9 (rp (aj (bj jW (au 1) (au 2)) aE)) (aA 7) (OF K)) (aK (d9 (cu K (GD (zA K) (au 0) (lq (tC (.int 4))) (lq (bj dw (tC (.int 4)) (au 3))))) (aA 8) (OE K)) (cL (au 6)))
def Qy(K:Vx)(mg:Str->Option Vz)(Fm Fc:CW):TS:=aK (bb (bj cR (bj jV (HX mg Fm Fc 0) (tC (.int 12))) (tC (.int 4))) (aA 4)) (aK (bb (bj dw (bj cR (bO (oh mg 2 Fc) [] E0 (aj (au 0) (aj (tC (.int 1)) aE))) (tC (.int 2147483647))) (tC (.int 48271))) (aA 5)) (aK (bb (dS aE) (aA 6)) (LN K)))
noncomputable def sX(v0:V)(ro sg many kind num:Int)(l:Addr)(x7 x8 x9:Option V):L2.St:=[some v0,some (.int ro),some (.int sg),some (.int many),some (.int kind),some (.int num),some (.ref l),x7,x8,x9]
def Reads.QK:∃b,Reads LM (sX v0 ro sg many kind num l x7 (some (.int c)) x9) H (.bl b):=by
 have a:Reads (bj oK (au 4) (tC (.int 0))) (sX v0 ro sg many kind num l x7 (some (.int c)) x9) H (.bl (decide (kind=0))):=.vG (.va rfl) .k;have d:Reads (bj oK (au 4) (tC (.int 3))) (sX v0 ro sg many kind num l x7 (some (.int c)) x9) H (.bl (decide (kind=3))):=.vG (.va rfl) .k;have e:Reads (bj HD (bj cR (au 8) (tC (.int 5))) (tC (.int 2))) (sX v0 ro sg many kind num l x7 (some (.int c)) x9) H (.bl (decide (c%5<2))):=Reads.op (.mod (.va rfl) .k (by decide)) .k λ_ q=>⟨_,_,rfl,rfl,q⟩;by_cases h0:kind=0
 .exact⟨true,λQ q=>a _ ⟨_,rfl,by rw[Rm h0];exact iT q⟩⟩
 .by_cases h3:kind=3
  .exact⟨_,λQ q=>a _ ⟨_,rfl,by rw[RK h0];exact di (d _ ⟨_,rfl,by rw[Rm h3];exact iT (e _ q)⟩)⟩⟩
  .exact⟨false,λQ q=>a _ ⟨_,rfl,by rw[RK h0];exact di (d _ ⟨_,rfl,by rw[RK h3];exact di q⟩)⟩⟩
def BL(xs:List V)(a b:Int)(ha:0<=a)(hb:0<=b):(dU xs (some a) (some (a+b))).length<=b.toNat:=by
 unfold dU;rw[Sa,Um];have e1:HT.sIx xs.length 0 (some a)=min a.toNat xs.length:=by have:=HT.sIx_nat xs.length 0 a.toNat;rw[Vc ha]at this;exact this
 have e2:HT.sIx xs.length xs.length (some (a+b))=min (a+b).toNat xs.length:=by have:=HT.sIx_nat xs.length xs.length (a+b).toNat;rw[Vc (by lia)]at this;exact this
 rw[e1,e2];refine Rx (Nat.min_le_left _ _) ?_;generalize xs.length=n;lia
theorem EQ(h:Ct Fm Fc vs H Q E):Qy K mg Fm Fc {nx:=λ_ H'=>Q .bz H',rt:=Q} (bp ["_law_script","_law_rooms","_law_signs","_law_many","_law_kind","_law_number","_law_rules_here","_law_k","_law_cell","_law_free"] vs) H:=by
 obtain @⟨H,v0,sc,ro,sg,many,x0,x1,y0,Q,E,is,h1,h2,h3,hm,c0,m0,c1,k⟩:=h;have hp:0<ro*sg:=Int.mul_pos h1.1 h2.1;have L:0<ro/\ro<1073741824:=⟨h1.1,by lia⟩;have M:0<sg/\sg<1073741824:=⟨h2.1,by lia⟩;refine Bk (sd:=.lst (sc.map .int)) rfl is c0 m0 λH1 N=>⟨_,_,rfl,rfl,⟨by decide,by decide⟩,_,_,rfl,rfl,(by show(0:Int)<4;decide),?_⟩;refine⟨_,rfl,Bj (ds:=[.lst (sc.map .int),.int 1]) rfl ⟨_,_,rfl,HW is N,_,_,rfl,rfl,rfl⟩ c1 λv O t2 e=>?_⟩;obtain rfl:v=.int x1:=e;refine⟨_,_,rfl,rfl,(by show(0:Int)<2147483647;decide),_,_,rfl,rfl,Rh _,λl P=>?_⟩;have s2:=N.trans t2;have nl:H l=none:=s2.free P;have R:Fz H (upd O l (.lst [])) l ro sg 0 []:=⟨s2.trans (aw P),⟨[],ag,.nil⟩,(λ_ h=>nomatch h),QY _⟩;generalize upd O l (.lst [])=H3 at R;show LN K _ (sX v0 ro sg many (y0/12%4) (x1%2147483647+48271) l none none none) H3;have b1:=em (a:=x1) (b:=2147483647) (by decide);refine Reads.mul (.va rfl) (.va rfl) ⟨by lia,by lia⟩ _ ⟨_,rfl,by lia,by lia,?_⟩;refine kU (n:=(ro*sg).toNat) (λi d H'=>∃num RL x7,d=sX v0 ro sg many (y0/12%4) num l x7 none none/\Fz H H' l ro sg i RL/\0<=num/\num<4294967296) ⟨_,[],none,rfl,R,by lia,by lia⟩ (λi d H' p m=>m) (λd H' p=>QY _) (λi d H' x W D' m p y S=>?_) λd H' p=>?_
 .obtain⟨num,RL,x7,rfl,A,X,n1⟩:=p;obtain⟨rfl,rfl⟩:=y;rw[Vu];have Y:=em (a:=num*num+48271*num+(i:Nat)) (b:=2147483647) (by decide);refine d6 (.mod (.ad (.ad (.mul (.va rfl) (.va rfl) ⟨by lia,by lia⟩) (.mul .k (.va rfl) ⟨by lia,by lia⟩)) (.va (v:=.int (i:Nat)) rfl)) .k (by decide)) ?_;generalize(num*num+48271*num+(i:Nat))%2147483647=u at Y;refine gR (te:=bj HD (bj cR (au 5) (tC (.int 4))) (tC (.int 3))) (c:=decide (u%4<3)) (Reads.op (.mod (.va rfl) .k (by decide)) .k λ_ q=>⟨_,_,rfl,rfl,q⟩) (λ_=>?_) λ_=>S _ _ ⟨u,RL,_,rfl,A.up (Vj _),by lia,by lia⟩;exact Po (i:=u/4*ro*sg+(i:Nat)) A nl (by lia) L M rfl rfl rfl (.ad (.mul (.mul (.dv (.va rfl) .k ⟨by decide,by decide⟩) (.va rfl) ⟨by lia,by lia⟩) (.va rfl) ⟨by lia,by lia⟩) (.va rfl)) (Reads.op (z:=.bl (decide (0<y0/12%4))) (.va rfl) .k λ_ q=>⟨_,_,rfl,rfl,q⟩) λZ r _ B=>S _ _ ⟨u,_,_,rfl,B,by lia,by lia⟩
 .obtain⟨num,RL,x7,rfl,A,X,n1⟩:=p;obtain⟨la,j,e0,C,ia⟩:=wM (HW is A.s);refine⟨_,rfl,_,rfl,_,rfl,_,_,rfl,rfl,_,rfl,la,j,e0,.inl C,λg t=>?_⟩;have w:=aw (o:=.lst (dU j (some 4) (some (4+many)))) t;have f:upd H' g (.lst (dU j (some 4) (some (4+many)))) g=some (.lst (dU j (some 4) (some (4+many)))):=ag;have dE:=BL j 4 many (by decide) hm.1;have F:g≠l:=λz=>by obtain⟨ws,e,_⟩:=A.l;rw[<- z,t]at e;cases e
  have T:Fz H (upd H' g (.lst (dU j (some 4) (some (4+many))))) l ro sg (ro*sg).toNat RL:=⟨A.s.trans w,let ⟨ws,e,al⟩:=A.l;⟨ws,w _ _ e,al.mono (IsRule.keep (.of w))⟩,A.a,A.n⟩;have G:=JK (ia.cut (some 4) (some (4+many))) w;generalize upd H' g (.lst (dU j (some 4) (some (4+many))))=H9 at f T G;have I:qe (sc.map L3.D.int) (some 4) (some (4+many))=(qe sc (some 4) (some (4+many))).map L3.D.int:=by unfold qe;rw[Q0,List.map_take,List.map_drop]
  rw[I]at G;have ei:=nC G;rw[ei]at f dE;generalize qe sc (some 4) (some (4+many))=U at f dE;have hn:=A.n;refine⟨g,rfl,⟨_,SqL.of f⟩,cM (K:=K) (a:=g) (xs:=U.map .int) (λi d H'=>∃RL x8 x9,d=sX v0 ro sg many (y0/12%4) num l x7 x8 x9/\Fz H H' l ro sg ((ro*sg).toNat+i) RL/\H' g=some (.lst (U.map .int))) ⟨RL,none,none,rfl,T,f⟩ (λi d H' _ ⟨_,_,_,_,_,h⟩=>SqL.of h) (λi v d H' m ⟨RL,x8,x9,J,A,V⟩=>?_) λd H' ⟨RL,x8,x9,J,A,V⟩=>?_⟩
  .subst J;rw[Rg]at m;obtain⟨c,I,rfl⟩:=Ss.mp m;have il:=(Q2.mp I).1;rw[Q0]at dE;obtain⟨b,rb⟩:=Reads.QK (H:=H') (ro:=ro) (sg:=sg) (many:=many) (kind:=y0/12%4) (c:=c) (v0:=v0) (num:=num) (l:=l) (x7:=x7) (x9:=x9);refine rb _ ?_;refine Po (σ:=sX v0 ro sg many (y0/12%4) num l x7 (some (.int c)) (some (.bl b))) A nl (by lia) L M rfl rfl rfl (.mod (.mul (.ad (.mod (.va rfl) .k (by decide)) .k) .k ⟨by decide,by decide⟩) .k (by decide)) (λQ q=>⟨_,rfl,_,rfl,q⟩) λZ r kp B=>⟨_,_,_,rfl,B,kp _ _ V F⟩
  .subst J;obtain⟨ws,e,al⟩:=A.l;have h5:=A.n;rw[Q0]at dE h5;exact⟨_,rfl,k l ws RL H' A.s nl e al A.a (by lia)⟩
end
def LO(RL:List Sp.Rule)(x y:Rw):Prop:=∃r∈RL,∃w,x=(r.1,r.2.1::w)/\y=(r.2.2.1,r.2.2.2++w)
def BM(RL:List Sp.Rule)(a:List Rw):Prop:=∀(k:Nat) x y,a[k]?=some x->a[k+1]?=some y->LO RL x y
def BN(h:BM RL (RW++[x]))(d:LO RL x y):BM RL (RW++[x]++[y]):=by
 intro k a b ha hb;have e:k+1<(RW++[x]++[y]).length:=(Q2.mp hb).1;simp only[Q8,RN]at e;by_cases c:k+1<(RW++[x]).length
 .rw[RT (by lia)]at ha;rw[RT c]at hb;exact h k a b ha hb
 .simp only[Q8,RN]at c;obtain rfl:k=RW.length:=by lia
  simp at ha hb;subst ha;subst hb;exact d
def wW(a:∀r∈RL,r.2.2.2.length<=2)(h:LO RL x y):y.2.length<=x.2.length+1/\x.2.length<=y.2.length+1/\x.2≠[]:=by obtain⟨r,b,w,rfl,rfl⟩:=h;have:=a r b;refine⟨?_,?_,λz=>nomatch z⟩<;>simp<;>lia
def ER(a:List Rw):Prop:=∀(k j:Nat) x y,k<j->a[k]?=some x->a[j]?=some y->x.2≠[]->(∀l z,k<l->l<=j->a[l]?=some z->x.2.length<=z.2.length)->HU x≠HU y
def IsRw(r:Addr)(H:Hp)(x:Rw)(v:V):Prop:=∃p l,v=.ref p/\H p=some (.tup [.int x.1,.ref l])/\l≠r/\Rd H l (.lst (x.2.map .int))
section
variable{X:Cx}{K:Vx}{B H H':Hp}{r:Addr}{D:Ends}{σ:L2.St}{vs ws rv:List V}{Q:VK}{E:XK}{RL:List Sp.Rule}{RW:List Rw}
def IsRw.kp(h:IsRw r H x v)(k:Kp r H H')(kt:KT H H'):IsRw r H' x v:=let ⟨p,l,e,e1,n,e2⟩:=h;⟨p,l,e,kt _ _ e1,n,e2.imp (λe=>k _ _ e n) λ⟨o,e⟩=>⟨o,k _ _ e n⟩⟩
def LP(K:Vx):TT:=Dw (bI (bj oK (tI K 0 0) (au 1))) (bI (bj oK (tI K 0 1) (bj (kE K) (au 2) (tC (.int 0)))))
def ES{Fin:Addr->List V->Hp->Prop}(h1:tN.length=1)(p:jP σ caps=[some (.int room),some (.ref sl)])(M:∀cl C t H3 fp,PG (aV X scope (tN++capN) cl C t H3 fp) tg (aA 0))(N:∀cl C t H3 fp,za (aV X scope (tN++capN) cl C t H3 fp) ifs (LP X.K))(O:∀cl C t H3 fp,PE (aV X scope (tN++capN) cl C t H3 fp) elt (au 0))
 (F:Rd H1 l (.lst ws)) (al:aL (IsRule H1) RL ws) (P:Rd H1 sl (.lst ((s::w).map .int))) (hz:RL.length<1000) (k:∀d a H',Same H1 H'->H1 d=none->H' d=some (.lst a)->aL (IsRule H') (RL.filter λr=>r.1==room&&r.2.1==s) a->Fin d a H'):ck X scope tg tN capN caps elt ifs σ Fin (CO X.K l) H1:=by
 have ln:=al.len;refine kW (n:=RL.length) M N O (λd i a H'=>Same H1 H'/\H' d=some (.lst a)/\aL (IsRule H') ((RL.take i).filter λr=>r.1==room&&r.2.1==s) a/\H1 d=none) (λd m=>⟨aw m,ag,.nil,m⟩) (λh=>h.2.1) (λd i a H' ⟨f,_⟩ R=>⟨ws,ws[i]'(by lia),.inl (aT f F),Q1 _⟩) (λd a H' ⟨f,_⟩=>⟨ws,.inl (aT f F),by lia⟩) (λd i a H' T g U R ⟨f,m,o,G⟩ y x=>?_) λd a H' m ⟨f,I,o,_⟩=>k d a H' f m I (by rw[R8]at o;exact o);obtain⟨rfl,y⟩:=y;obtain⟨r,S,A⟩:=al.get (y _ (.inl (aT f F)));have A:=IsRule.keep (.of f) _ _ A;obtain⟨b,q,rfl,hb,W⟩:=id A;rw[h1]at x;obtain⟨Y,rfl⟩:=Tq.mp x;rw[p];have J:RL.take (i+1)=RL.take i++[r]:=by rw[Ry,S];rfl
 have lt:=Sj i RL;have no:(r.1==room&&r.2.1==s)=false->Same H1 g/\g d=some (.lst a)/\aL (IsRule g) ((RL.take (i+1)).filter λr=>r.1==room&&r.2.1==s) a/\H1 d=none:=λc=>⟨f,m,by rw[J,R4,SB,Rf (by rw[c];decide),List.filter_nil,R_];exact o,G⟩;refine⟨λj L=>?_,Reads.vG (.ix (.va rfl) hb (v:=.int r.1) rfl) (.va (v:=.int room) rfl) _ ⟨_,rfl,nZ (λc1=>?_) λc1=>di (no ?_)⟩⟩
 .rw[h1]at L;obtain⟨j,rfl⟩:=Sg L;rfl
 .have c1:=Rr c1;refine Reads.vG (.ix (.va rfl) hb (v:=.int r.2.1) rfl) (Reads.op (z:=.int s) (.va rfl) .k λ_ q=>⟨sl,_,0,_,rfl,rfl,.inl (aT f P),ce (j:=0) rfl,q⟩) _ ⟨_,rfl,nZ (λc2=>?_) λc2=>no ?_⟩
  .have c2:=Rr c2;have kt:KT g (upd g d (.lst (a++[.ref b]))):=.upd m λ_ z=>(nomatch z);refine⟨_,rfl,m,jx (by rw[<- o.len];exact Sm (SS _ _) (by lia)),λc u e=>?_,ag,?_,G⟩
   .rw[ai (ax e G)];exact f _ _ e
   .rw[J,R4,SB,Re (by rw[c1,c2,BEq.rfl,BEq.rfl];rfl)];exact(o.mono (IsRule.keep kt)).snoc (IsRule.keep kt _ _ A)
  .rw[S6.mpr λz=>c2 (Rm z),Uh]
 .rw[S6.mpr λz=>c1 (Rm z),UQ]
inductive CM:Sp
 |mk {H:Hp} {l sl cl:Addr} {ws:List V} {RL:List Sp.Rule} {room:Int} {bq cells:List Int} {Q:VK} {E:XK} (hl:Rd H l (.lst ws)) (its:aL (IsRule H) RL ws) (hs:Rd H sl (.lst (bq.map .int))) (hc:Rd H cl (.lst (cells.map .int))) (z1:RL.length<1000) (z2:bq.length<=5) (z3:cells.length<=100) (hp:∀r∈RL,r.2.2.2.length<=2) (k:∀r rv RW H',Same H H'->H r=none->H' r=some (.lst rv)->aL (IsRw r H') RW rv->BM RL RW->RW.length<=101->RW[0]?=some (room,bq)->Q (.ref r) H'):CM [.ref l,.int room,.ref sl,.ref cl] H Q E
def BO(h:CM vs H Q E):vs.length=4:=by cases h;rfl
def yG(K:Vx)(i:Nat):TE:=fK (fB K) (aj (au i) aE)
def OG(K:Vx):TS:=aK (bb (bj GI (fK (nL K) (aj (tI K 7 3) aE)) (GD (zA K) (au 2) (lq (tC (.int 1))) lR)) (aA 2)) (b8 (qZ K "list" cT (au 4) (aj (cI (aj (au 1) (aj (au 2) aE))) aE)))
def Ie(K:Vx):TS:=d8 (bI (bj JH (yG K 6) (tC (.int 0)))) (aK (bb (bj (kE K) (au 6) (bj cR (au 5) (yG K 6))) (aA 7)) (aK (bb (tI K 7 2) (aA 1)) (OG K))) cq
def OH(X:Cx)(a:TS):TS:=aK (bb (dS aE) (aA 6)) (aK (d8 (bI (bj JH (yG X.K 2) (tC (.int 0)))) a cq) (Ie X.K))
def Qz(X:Cx)(a:TS):TS:=aK (bb (dS (aj (cI (aj (au 1) (aj (au 2) aE))) aE)) (aA 4)) (aK (d9 (cu X.K (au 3)) (aA 5) (OH X a)) (cL (au 4)))
noncomputable def yH(l:Addr)(a:Int)(sl cl r:Addr)(x5 x6 x7:Option V):L2.St:=[some (.ref l),some (.int a),some (.ref sl),some (.ref cl),some (.ref r),x5,x6,x7]
def Reads.PH(h:σ[i]?=some (some (.ref p)))(a:Rd H p (.lst xs)):Reads (bj JH (yG K i) (tC (.int 0))) σ H (.bl (decide (0<((xs.length:Nat):Int)))):=Reads.op (.qS (.va h) a) .k λ_ q=>⟨_,_,rfl,rfl,q⟩
theorem QA(N:H fl=some (.lst i))(Z:aL (IsRule H) fs i)(k:∀q∈fs,q∈RL/\q.1=room/\q.2.1=s)(hp:∀r∈RL,r.2.2.2.length<=2)(O:fs≠[]->Rd H sl (.lst ((s::w).map .int)))(zw:w.length<1000)(nr:B r=none)(sB:Same B H)(P:H r=some (.lst rv))(ar:aL (IsRw r H) RW rv)(zr:RW.length<1000)
 (kn:∀x7,D.nx (yH l room sl cl r (some (.int c)) (some (.ref fl)) x7) H) (ks:∀x7 y f H',fs≠[]->LO RL (room,s::w) y->Same B H'->f≠r->H' f=some (.lst (y.2.map .int))->(∃rv,H' r=some (.lst rv)/\aL (IsRw r H') (RW++[y]) rv)->D.nx (yH l y.1 f cl r (some (.int c)) (some (.ref fl)) x7) H'):Ie K D (yH l room sl cl r (some (.int c)) (some (.ref fl)) x7) H:=by
 refine gR (Reads.PH rfl (.inl N)) (λc1=>?_) λ_=>kn _;have c1:=Rr c1;have ln:=Z.len;have b:=em (a:=c) c1;obtain⟨j,hj⟩ : ∃j:Nat,c%((i.length:Nat):Int)=(j:Nat):=⟨_,(Vc b.1).symm⟩;have jl:j<i.length:=by lia
 have R:i[j]?=some i[j]:=Q1 jl;obtain⟨q,eq,p,u,ep,m,hu⟩:=Z.get R;rw[ep]at R;have G:=k q (RE eq);have ne:fs≠[]:=λz=>by rw[z]at eq;cases eq
 have O:=O ne;have hpq:=hp q G.1;refine d6 (Reads.Nl (.va rfl) (.mod (.va (v:=.int c) rfl) (.qS (.va rfl) (.inl N)) c1) N (by rw[hj];exact ce R)) (d6 (.ix (.va rfl) m (v:=.int q.2.2.1) rfl) ?_);refine Reads.ix (n:=3) (.va rfl) m (v:=.ref u) rfl _ ⟨u,_,rfl,.inr (SqT.of hu),λI S=>?_⟩;have J:=aw (o:=.lst (q.2.2.2.map .int)) S;have h1:upd H I (.lst (q.2.2.2.map .int)) I=some (.lst (q.2.2.2.map .int)):=ag;generalize upd H I (.lst (q.2.2.2.map .int))=H1 at J h1;refine⟨_,rfl,_,rfl,sl,_,rfl,.inl (aT J O),λL T=>?_⟩;have ec:dU ((s::w).map V.int) (some 1) none=w.map .int:=kY _ 1;rw[ec];have t2:=aw (o:=.lst (w.map .int)) T;have h2:upd H1 L (.lst (w.map .int)) L=some (.lst (w.map .int)):=ag;have A:=t2 _ _ h1;generalize upd H1 L (.lst (w.map .int))=H2 at t2 h2 A;refine⟨I,L,_,_,rfl,rfl,A,h2,SG (jx (by simp;lia)),λd g=>?_⟩;have t3:=aw (o:=.lst (q.2.2.2.map V.int++w.map .int)) g;have h3:upd H2 d (.lst (q.2.2.2.map V.int++w.map .int)) d=some (.lst ((q.2.2.2++w).map .int)):=by rw[ag,RX]
 generalize upd H2 d (.lst (q.2.2.2.map V.int++w.map .int))=H3 at t3 h3;have t:=(J.trans t2).trans t3;have U:d≠r:=λz=>by rw[z,(J.trans t2) _ _ P]at g;cases g
 refine⟨_,rfl,.inl ⟨rfl,_,SqL.of (t _ _ P)⟩,?_⟩;refine LK (oo (ws:=[.int q.2.2.1,.ref d]) (.c (.va rfl) (.c (.va rfl) .ni)) rfl λp4 W=>?_);have Y:=aw (o:=.tup [.int q.2.2.1,.ref d]) W;have h4:upd H3 p4 (.tup [.int q.2.2.1,.ref d]) p4=some (.tup [.int q.2.2.1,.ref d]):=ag;generalize upd H3 p4 (.tup [.int q.2.2.1,.ref d])=H4 at Y h4;have M:=t.trans Y;have C:=M _ _ P;have kt:KT H4 (upd H4 r (.lst (rv++[.ref p4]))):=.upd C λ_ z=>(nomatch z);have kp:Kp r H4 (upd H4 r (.lst (rv++[.ref p4]))):=λc u e n=>by rw[ai n];exact e
 have F:=kp _ _ (Y _ _ h3) U;refine⟨r,rv,_,rfl,rfl,C,jx (by rw[<- ar.len];lia),ks _ (q.2.2.1,q.2.2.2++w) d _ ne ⟨q,G.1,w,by rw[G.2.1,G.2.2],rfl⟩ (λc u e=>?_) U F ⟨_,ag,((ar.mono λx v h=>(h.kp (λc u e _=>M c u e) (.of M)).kp kp kt).snoc ⟨p4,d,rfl,kt _ _ h4,U,.inl F⟩)⟩⟩;rw[ai λz=>by rw[z,nr]at e;cases e];exact M _ _ (sB _ _ e)
structure QI(X:Cx) (scope:Scope) (tg elt:Expr) (tN capN:List Str) (caps:List Nat) (ifs:List Expr):Prop where
 h:tN.length=1
 c:caps=[1,2]
 g:∀cl C s3 H3 fp,PG (aV X scope (tN++capN) cl C s3 H3 fp) tg (aA 0)
 t:∀cl C s3 H3 fp,za (aV X scope (tN++capN) cl C s3 H3 fp) ifs (LP X.K)
 e:∀cl C s3 H3 fp,PE (aV X scope (tN++capN) cl C s3 H3 fp) elt (au 0)
theorem ET{scope:Scope}{tg L:Expr}(C:QI X scope tg L tN capN caps ifs)(h:CM vs H Q E):Qz X (qC X scope tg L tN capN caps ifs 6 (cu X.K (au 0))) {nx:=λ_ H'=>Q .bz H',rt:=Q} (bp ["_law_rules_here","_law_room","_law_stack_here","_law_cells","_law_row","_law_cell","_law_fits","_law_rule_here"] vs) H:=by
 obtain @⟨H,l,sl,cl,ws,RL,room,bq,cells,Q,E,hl,its,U,hc,z1,z2,z3,hp,k⟩:=h;refine⟨_,rfl,_,rfl,by show 2<=_;rw[RB];lia,λp W=>⟨SG (jx (by show 1<15000000;decide)),λr hr=>?_⟩⟩;have t1:=aw (o:=.tup [.int room,.ref sl]) W;have t2:=aw (o:=.lst [.ref p]) hr;have M:=t2 _ _ (ag:upd H p (.tup [.int room,.ref sl]) p=_);have N:upd (upd H p (.tup [.int room,.ref sl])) r (.lst [.ref p]) r=some (.lst [.ref p]):=ag;have m:=t1.trans t2;have nr:H r=none:=t1.free hr;generalize upd (upd H p (.tup [.int room,.ref sl])) r (.lst [.ref p])=H2 at m M N;have O:sl≠r:=λz=>by rcases U with e|⟨o,e⟩<;>rw[z,nr]at e<;>cases e
 refine⟨_,rfl,cl,rfl,⟨_,.inl (aT m hc)⟩,?_⟩;refine cM (K:=X.K) (a:=cl) (xs:=cells.map .int) (λi f H'=>∃RW x b,(∃x5 x6 x7,f=yH l x.1 b cl r x5 x6 x7)/\Same H H'/\b≠r/\Rd H' b (.lst (x.2.map .int))/\(∃rv,H' r=some (.lst rv)/\aL (IsRw r H') (RW++[x]) rv)/\BM RL (RW++[x])/\RW.length<=i/\x.2.length<=5+i/\(RW++[x])[0]?=some (room,bq)) ⟨[],(room,bq),sl,⟨none,none,none,rfl⟩,m,O,aT m U,⟨_,N,.cons ⟨p,sl,rfl,M,O,aT m U⟩ .nil⟩,(λk x y _ h=>by simp at h),QY _,z2,rfl⟩ (λi f H' _ ⟨_,_,_,_,A,_⟩=>.inl (aT A hc)) (λi v f H' hi q=>?_) λf H' q=>?_
 .obtain⟨RW,x,b,⟨x5,x6,x7,rfl⟩,A,ns,j,⟨rv,I,ar⟩,ch,n1,n2,h0⟩:=q;rw[Rg]at hi;obtain⟨c,ec,rfl⟩:=Ss.mp hi;have il:=(Q2.mp ec).1;obtain⟨d,st⟩:=x;dsimp only at j n2;refine⟨Rh _,λfl Y=>?_⟩;have F:=aw (o:=.lst []) Y;have P:upd H' fl (.lst []) fl=some (.lst []):=ag;generalize upd H' fl (.lst [])=H3 at F P;have up:∀{H4},Same H' H4->∃rv,H4 r=some (.lst rv)/\aL (IsRw r H4) (RW++[(d,st)]) rv:=λt=>⟨rv,t _ _ I,ar.mono λx v h=>h.kp (λc u e _=>t c u e) (.of t)⟩;have R:∀{D':Ends}{H4:Hp}{fl x7}{Z:List V}{fs:List Sp.Rule}{s:Int}{w:List Int},D'.nx=(λf H'=>∃RW x b,(∃x5 x6 x7,f=yH l x.1 b cl r x5 x6 x7)/\Same H H'/\b≠r/\Rd H' b (.lst (x.2.map .int))/\(∃rv,H' r=some (.lst rv)/\aL (IsRw r H') (RW++[x]) rv)/\BM RL (RW++[x])/\RW.length<=i+1/\x.2.length<=5+(i+1)/\(RW++[x])[0]?=some (room,bq))->Same H' H4->H4 fl=some (.lst Z)->aL (IsRule H4) fs Z->(∀q∈fs,q∈RL/\q.1=d/\q.2.1=s)->(fs≠[]->st=s::w)->w.length<1000->Ie X.K D' (yH l d b cl r (some (.int c)) (some (.ref fl)) x7) H4:=λ{D' H4 fl x7 Z fs s w} eD G hf af S T zw=>by
   obtain⟨rv4,hr4,ar4⟩:=up G;refine QA (RL:=RL) (B:=H) (s:=s) (w:=w) hf af S hp (λz=>by rw[<- T z];exact aT G j) zw nr (A.trans G) hr4 ar4 (by simp;lia) (λx7=>?_) λx7 y sl2 H5 ne n sB n5 h5 J=>?_
   .rw[eD];exact⟨RW,(d,st),b,⟨_,_,_,rfl⟩,A.trans G,ns,aT G j,up G,ch,by lia,by simp;lia,h0⟩
   .rw[eD];rw[<- T ne]at n;have sl5:=wW hp n;obtain⟨rv5,J,ar5⟩:=J;refine⟨RW++[(d,st)],y,sl2,⟨_,_,_,rfl⟩,sB,n5,.inl h5,⟨rv5,J,ar5⟩,?_,by simp;lia,?_,by rw[RT (by simp)];exact h0⟩
    .exact BN ch n
    .have:=sl5.1;dsimp only at this;lia
  refine gR (Reads.PH rfl (aT F j)) (λc1=>?_) λc1=>?_
  .cases st with
   |nil=>exact absurd (Rr c1) (by simp)
   |cons s w=>refine⟨_,rfl,l,rfl,⟨ws,.inl (aT (A.trans F) hl)⟩,ES (s:=s) (w:=w) C.h (by rw[C.c];rfl) C.g C.t C.e (aT (A.trans F) hl) (its.mono (IsRule.keep (.of (A.trans F)))) (aT F j) z1 λDl acc H4 G nD hD af=>R (D':=_) (s:=s) (w:=w) rfl (F.trans G) hD af (λq hq=>?_) (λ_=>rfl) (by simp at n2;lia)⟩;have:=Ru.mp hq;rw[SC,U5,U5]at this;exact this
  .exact R (D':=_) (s:=0) (w:=[]) rfl F P .nil (λ_ h=>nomatch h) (λz=>absurd rfl z) (by simp)
 .obtain⟨RW,x,b,⟨x5,x6,x7,rfl⟩,A,ns,j,⟨rv,I,ar⟩,ch,n1,n2,h0⟩:=q;rw[Q0]at n1;exact⟨_,rfl,k r rv (RW++[x]) H' A nr I ar ch (by simp;lia) h0⟩
end
section
variable{K:Vx}{H:Hp}{r:Addr}{D:Ends}{σ:L2.St}{vs rv:List V}{Q:VK}{E:XK}{RW:List Rw}
def JL(K:Vx)(i:Nat)(j:Int):TE:=bj (kF K) (bj (kE K) (au 0) (au i)) (tC (.int j))
def Ig(K:Vx)(i:Nat):TE:=fK (fB K) (aj (JL K i 1) aE)
def Ih(K:Vx)(i:Nat):TE:=bj (kE K) (JL K i 1) (tC (.int 0))
noncomputable def sY(r:Addr)(k j:Int):L2.St:=[some (.ref r),some (.int k),some (.int j)]
def F3(m:H r=some (.lst rv))(al:aL (IsRw r H) RW rv)(e:RW[n]?=some x)(h0:σ[0]?=some (some (.ref r)))(o:σ[i]?=some (some (.int (n:Nat)))):Reads (JL K i 0) σ H (.int x.1)/\Reads (Ig K i) σ H (.int x.2.length)/\(∀c w,x.2=c::w->Reads (Ih K i) σ H (.int c)):=by
 have s:n<rv.length:=by rw[<- al.len];exact(Q2.mp e).1
 have a:rv[n]?=some rv[n]:=Q1 s;obtain⟨u,d,p,l,ep,f,_,b⟩:=al.get a;rw[e]at d;cases d;rw[ep]at a;have g:Reads (bj (kE K) (au 0) (au i)) σ H (.ref p):=.Nl (.va h0) (.va o) m (ce a);have h:Reads (JL K i 1) σ H (.ref l):=.ix g f rfl;refine⟨.ix g f rfl,?_,λc w t=>?_⟩
 .have:=Reads.qS (K:=K) h b;rw[Q0]at this;exact this
 .rw[t]at b;exact h.op .k λ_ q=>⟨l,_,0,_,rfl,rfl,.inl b,ce (j:=0) rfl,q⟩
inductive CH:Sp
 |mk {H:Hp} {r:Addr} {rv:List V} {RW:List Rw} {Q:VK} {E:XK} (hr:H r=some (.lst rv)) (al:aL (IsRw r H) RW rv) (hN:ER RW) (hl:RW.length<1000) (k:Q (.bl false) H):CH [.ref r] H Q E
def BP(h:CH vs H Q E):vs.length=1:=by cases h;rfl
def LQ:TS:=bb (bj dw (au 2) (tC (.int 1))) (aA 2)
def OI(K:Vx):TS:=aK (d8 (Dw (bI (bj oK (JL K 2 0) (JL K 1 0))) (bI (bj oK (Ih K 2) (Ih K 1)))) (cL (tC (.bl true))) cq) LQ
def LR(K:Vx):TS:=kA (Dw (bI (bj HD (au 2) (yG K 0))) (bI (zp Qb JH (Ig K 2) (Ig K 1) (tC (.int 0))))) (OI K)
def QB(K:Vx):TS:=aK (d9 (rp (aj (yG K 0) aE)) (aA 1) (aK (bb (bj dw (au 1) (tC (.int 1))) (aA 2)) (LR K))) (cL (tC (.bl false)))
theorem QC(n:H r=some (.lst rv))(al:aL (IsRw r H) RW rv)(u:ER RW)(t:RW[k]?=some x)(o:∀j,D.nx (sY r (k:Nat) j) H):LR K D (sY r (k:Nat) ((k:Nat)+1)) H:=by
 have ln:=al.len;refine⟨λm σ H'=>H'=H/\∃j:Nat,σ=sY r (k:Nat) (j:Nat)/\m=RW.length-j/\k<j/\∀l z,k<l->l<j->RW[l]?=some z->x.2.length<=z.2.length,⟨_,rfl,k+1,by rw[show(((k+1:Nat):Int))=((k:Nat):Int)+1 by lia],rfl,by lia,λl z f p=>absurd f (by lia)⟩,?_⟩;rintro m σ H' ⟨v,j,rfl,rfl,A,B⟩;cases v;obtain⟨k0,kl,C⟩:=F3 (K:=K) (i:=1) (σ:=sY r (k:Nat) (j:Nat)) n al t rfl rfl;refine Reads.op (r:=HD) (z:=.bl (decide (((j:Nat):Int)<((rv.length:Nat):Int)))) (.va rfl) (.qS (.va rfl) (.inl n)) (λ_ q=>⟨_,_,rfl,rfl,q⟩) _ ⟨_,rfl,nZ (λc=>?_) λc=>di (o _)⟩;have c:=Rr c;obtain⟨y,s⟩ : ∃y,RW[j]?=some y:=⟨_,Q1 (by lia)⟩;obtain⟨F,G,I⟩:=F3 (K:=K) (i:=2) (σ:=sY r (k:Nat) (j:Nat)) n al s rfl rfl;refine G _ (kl _ ⟨_,_,rfl,rfl,_,rfl,nZ (λc1=>⟨_,_,rfl,rfl,_,rfl,nZ (λc2=>?_) λ_=>o _⟩) λ_=>⟨_,rfl,di (o _)⟩⟩);have c1:=Rr c1;have c2:=Rr c2;have g:∀l z,k<l->l<=j->RW[l]?=some z->x.2.length<=z.2.length:=λl z f p hz=>by
  rcases SY p with e|e
  .subst e;rw[s]at hz;cases hz;lia
  .exact B l z f e hz
 obtain⟨a,w,d⟩ : ∃a w,x.2=a::w:=by
  cases d:x.2 with
  |nil=>rw[d]at c2;exact absurd c2 (by simp)
  |cons a w=>exact⟨a,w,rfl⟩
 obtain⟨b,J,h⟩ : ∃a w,y.2=a::w:=by
  cases h:y.2 with
  |nil=>rw[d,h]at c1;exact absurd c1 (by simp<;>lia)
  |cons a w=>exact⟨a,w,rfl⟩
 have ne:=u k j x y A t s (by rw[d];exact λz=>nomatch z) g;refine⟨λσ H'=>H'=H/\σ=sY r (k:Nat) (j+1:Nat),λL H' ⟨e1,e2⟩=>⟨RW.length-(j+1),by lia,e1,j+1,e2,rfl,by lia,λl z f p hz=>g l z f (by lia) hz⟩,?_⟩;have go:∀{D':Ends},D'.nx=(λσ H'=>H'=H/\σ=sY r (k:Nat) (j+1:Nat))->LQ D' (sY r (k:Nat) (j:Nat)) H:=λe=>d6 (.ad (.va rfl) .k) (by rw[e];exact⟨rfl,by rw[show(((j+1:Nat):Int))=((j:Nat):Int)+1 by lia];rfl⟩);refine Reads.vG F k0 _ ⟨_,rfl,nZ (λM=>?_) λ_=>di (go rfl)⟩;refine Reads.vG (I b J h) (C a w d) _ ⟨_,rfl,nZ (λN=>?_) λ_=>go rfl⟩;exfalso;apply ne;unfold HU;rw[d,h,Rr M,Rr N];rfl
theorem EU(h:CH vs H Q E):QB K {nx:=λ_ H'=>Q .bz H',rt:=Q} (bp ["_law_row","_law_k","_law_later"] vs) H:=by
 obtain @⟨H,r,rv,RW,Q,E,hr,al,hN,hl,k⟩:=h;have ln:=al.len;refine Reads.qS (.va rfl) (.inl hr) _ ⟨_,rfl,by lia,by lia,?_⟩;refine kU (n:=((rv.length:Nat):Int).toNat) (λi a H'=>H'=H/\∃x y,a=[some (.ref r),x,y]) ⟨rfl,none,none,rfl⟩ (λi a H' p b=>b) (λa H' p=>QY _) (λi a H' x c D' b p y d=>?_) λa H' p=>by obtain⟨rfl,_⟩:=p;exact k
 obtain⟨rfl,x1,e,rfl⟩:=p;obtain⟨rfl,rfl⟩:=y;rw[Vu];exact d6 (.ad (.va (v:=.int (i:Nat)) rfl) .k) (QC (k:=i) hr al hN (Q1 (by lia)) λj=>d _ _ ⟨rfl,_,_,rfl⟩)
end
def jX(c:X.calm=true)(S:cj X scope tN capN caps)(d:X.N.Nodup)(a:X.N[i]?=some y)(e:X.env.scope.names.lookup y=some .local)(f:PI X tg iter wi)
 (b:autoParam (swapsWith (.ListComp elt [⟨tg,iter,ifs,0⟩] scope pos) (some (.Name y py)) spos.line X.env=pure true) aM) (g:autoParam (∀x,foldedSetIterable iter X.env x=pure x) az):PS X (.Assign [.Name y py] (.ListComp elt [⟨tg,iter,ifs,0⟩] scope pos) spos) (qC X scope tg elt tN capN caps ifs i wi):=λac s σ H D I h=>Ax c S d a e b I f h g
section
variable{X:Cx}{K:Vx}{mg:Str->Option Vz}{Fr:CW}{H H':Hp}{vs:List V}{Q:VK}{E:XK}
def yI:∀(l a:List (List bW×V)),((a++l).map (·.1)).Nodup->eh a l=a++l:=by
 intro l;induction l with
 |nil=>intro a _;rw[R_];rfl
 |cons x l b=>
  intro a nd;have c:¬(a.any λy=>decide (y.1=x.1))=true:=λh=>by obtain⟨y,d,e⟩:=Vn.mp h;rw[RX,Rn]at nd;exact(RC.mp nd).2.2 y.1 (Q3.mpr ⟨y,d,rfl⟩) x.1 (by simp) (Rr e)
  have:bY a x.1 x.2=a++[x]:=by unfold bY;rw[Rf c]
  show eh (bY a x.1 x.2) l=_;rw[this,b (a++[x]) (by rw[RO];exact nd),RO];rfl
theorem vw(h:Is H' (nl H H') (lD t) v):∃d kvs u,v=.ref d/\H d=none/\H' d=some u/\(u=.dT kvs\/(u=.dK []/\kvs=[]))/\kvs.map (·.1)=(t.map (·.1)).map ak/\∀(i:Nat) k w,kvs[i]?=some (k,w)->∃p q ws,w=.ref p/\H' p=some (.tup (.int q::ws)):=by
 obtain⟨d,kvs,u,e0,l,a,f,g⟩:=vk (As:=t.map (·.1)) (by unfold lD at h;rw[Sf];exact h);obtain⟨d',vs,e1,⟨m,_⟩,all⟩:=h;cases e0.symm.trans e1;refine⟨d,kvs,u,e0,l,a,f,g,λi k w c=>?_⟩;have n:vs[i]?=some w:=by
  rcases f with rfl|⟨rfl,rfl⟩
  .rcases m with⟨b,e|⟨o,e⟩,h1,h2⟩|⟨b,e|⟨o,e⟩,h1,h2⟩
   .rw[a]at e;cases e
   .rw[a]at e;cases e
   .rw[a]at e;cases e;rw[h2,Rg,c];rfl
   .rw[a]at e;cases e
  .simp at c
 obtain⟨x,s⟩ : ∃x,t[i]?=some x:=⟨_,Q1 (by have:=Sy List.length g;have:=(Q2.mp c).1;simp at *;lia)⟩;obtain⟨B,j,y⟩:=all.get (i:=i) (d:=HK x.2) (by rw[Rg,s];rfl);rw[n]at j;cases j;obtain⟨p,ws,rfl,z,v0,r,rfl,A,_⟩:=y;obtain rfl:v0=.int x.2.1:=A;exact⟨p,_,r,rfl,z⟩
noncomputable def JM(ro:Int):L3.D:=.tup [.int ro,.lst [],.lst []]
inductive jw(Fr:CW):Sp
 |mk {H:Hp} {p:Addr} {hD:L3.D} {ro:Int} {ws:List V} {t:Pz.TD} {Q:VK} {E:XK} (is:Is H Tr hD (.ref p)) (hp:H p=some (.tup (.int ro::ws))) (hF:Fr [hD,JM ro]=.ok (.nX (lD t))) (nd:(t.map (·.1)).Nodup) (hz:t.length<1000) (k:∀d kvs H',Same H H'->H d=none->H' d=some (.dT kvs)->kvs.map (·.1)=(t.map (·.1)).map ak->Q (.ref d) H'):jw Fr [.ref p] H Q E
def BQ(h:jw Fr vs H Q E):vs.length=1:=by cases h;rfl
def OJ(K:Vx):TE:=cI (aj (au 0) (aj (tI K 1 0) aE))
def OL(X:Cx)(scope:Scope)(tg a:Expr)(tN:List Str):TS:=cL (fK jr (aj (ja X scope tg tN [] [] a [] (Ac X (au 1))) aE))
def QD(X:Cx)(mg:Str->Option Vz)(Fr:CW)(scope:Scope)(tg a:Expr)(tN:List Str):TS:=aK (bb (bO (oh mg 2 Fr) [] E0 (aj (au 0) (aj (cI (aj (tI X.K 0 0) (aj (dS aE) (aj (dS aE) aE)))) aE))) (aA 1)) (OL X scope tg a tN)
def LS{As:List Sp.Arr}(h:As.Nodup):(As.map ak).Nodup:=by unfold List.Nodup;rw[Sw];exact h.imp λh e=>h (u9 _ _ e)
def EV{scope:Scope}(h1:tN.length=2)(hg:∀cl C A H3 fp,PG (aV X scope (tN++[]) cl C A H3 fp) tg (dQ X.K 2 (aX (aA 0) (aX (aA 1) dP)))) (he:∀cl C A H3 fp,PE (aV X scope (tN++[]) cl C A H3 fp) elt (OJ X.K)) (h:jw Fr vs H Q E):QD X mg Fr scope tg elt tN {nx:=λ_ H'=>Q .bz H',rt:=Q} (bp ["house","told"] vs) H:=by
 obtain @⟨H,p,D,ro,ws,t,Q,E,is,hp,hF,nd,hz,k⟩:=h;refine⟨_,rfl,Reads.ix (n:=0) (.va (i:=0) rfl) hp (v:=.int ro) (ce (j:=0) rfl) _ ⟨Rh _,λg R=>⟨Rh _,λm S=>⟨by show 3<=_;rw[RB];lia,λq hq=>?_⟩⟩⟩⟩;have t1:=aw (o:=.lst []) R;have t2:=aw (o:=.lst []) S;have T:=aw (o:=.tup [.int ro,.ref g,.ref m]) hq;have a1:=T _ _ (t2 _ _ (ag:upd H g (.lst []) g=_));have a2:=T _ _ (ag:upd (upd H g (.lst [])) m (.lst []) m=_);have a3:upd (upd (upd H g (.lst [])) m (.lst [])) q (.tup [.int ro,.ref g,.ref m]) q=some (.tup [.int ro,.ref g,.ref m]):=ag;have r:=(t1.trans t2).trans T;generalize upd (upd (upd H g (.lst [])) m (.lst [])) q (.tup [.int ro,.ref g,.ref m])=H3 at r a1 a2 a3;refine⟨rfl,[D,JM ro],Tr,⟨_,_,rfl,HW is r,_,_,rfl,⟨q,_,rfl,a3,_,_,rfl,rfl,_,_,rfl,⟨g,[],rfl,.inl ⟨a1,True.intro⟩,rfl⟩,_,_,rfl,⟨m,[],rfl,.inl ⟨a2,True.intro⟩,rfl⟩,rfl⟩,rfl⟩,?_⟩;rw[hF];intro v H4 U r4;have U:Same H3 H4:=U;obtain⟨d,kvs,u,rfl,n4,e4,hu,V,hv⟩:=vw r4;have nQ:n8 u:=by rcases hu with rfl|⟨rfl,_⟩<;>exact True.intro
 have ln:kvs.length=t.length:=by have:=Sy List.length V;simpa using this
 refine⟨_,rfl,d,kvs,u,rfl,hu,.inr ⟨e4,λo ho=>?_⟩⟩;have W:upd H4 d (.bw o u) d=some (.bw o u):=ag;have kp:Kp d H4 (upd H4 d (.bw o u)):=λc w e n=>by rw[ai n];exact e
 have kt:KT H4 (upd H4 d (.bw o u)):=.upd e4 λws z=>by subst z;exact nQ
 generalize upd H4 d (.bw o u)=H5 at W kp kt;have Y:H d=none:=r.free n4;refine kW (n:=kvs.length) hg (λ_ _ _ _ _=>gs) he (λl i f H'=>Same H5 H'/\H' l=some (.lst f)/\(∃ps,iE H' f ps/\ps.map (·.1)=(kvs.take i).map (·.1))/\f.length=i/\H5 l=none) (λl D=>⟨aw D,ag,⟨[],.nil,rfl⟩,rfl,D⟩) (λh=>h.2.1) (λl i f H' ⟨B,_⟩ hi=>⟨B _ _ W,hi⟩) (λl f H' ⟨B,_⟩=>⟨B _ _ W,QY _⟩) (λl i f H' xv H'' ol hi ⟨B,D,⟨ps,Z,I⟩,al,nD⟩ y J=>?_) λl f H' D ⟨B,hD',⟨ps,Z,I⟩,_⟩=>?_
 .obtain⟨p5,b,kk,w,hp5,rfl,hb,rfl,e⟩:=y;obtain⟨pw,O,wr,rfl,F⟩:=hv i kk w e;rw[h1]at J;obtain⟨u0,u1,rfl⟩ : ∃x y,ol=[x,y]:=by
   match ol,J with
   |[x,y],_=>exact⟨x,y,rfl⟩
  have s2:Same H' (upd H' p5 (.tup [.ref b,.ref pw])):=aw hp5;have F:=s2 _ _ (B _ _ (kt _ _ F));refine AK ag ⟨λj hj=>?_,iT (oo (ws:=[.ref b,.int O]) (.c (.va rfl) (.c (.ix (.va rfl) F (ce (j:=0) rfl)) .ni)) rfl λL G=>?_)⟩
  .rw[h1]at hj;obtain⟨j,rfl⟩:=Sg hj;rfl
  .have s:=s2 _ _ D;generalize upd H' p5 (.tup [.ref b,.ref pw])=P at s2 G s;have np:l≠L:=ax s G;have A:Same P (upd P L (.tup [.ref b,.int O])):=aw G;have k3:KT P (upd (upd P L (.tup [.ref b,.int O])) l (.lst (f++[.ref L]))):=(KT.of A).trans (.upd (A _ _ s) λ_ z=>(nomatch z));refine⟨A _ _ s,jx (by lia),λc u e=>?_,ag,⟨ps++[(kk,.int O)],?_,?_⟩,by rw[Q8,al];rfl,nD⟩
   .rw[ai (ax e nD)];exact A _ _ (s2 _ _ (B _ _ e))
   .have M:=(KT.of s2).trans k3;exact Paired.snoc (Paired.imp' (λa b ⟨p,ka,e,e1,e2⟩=>⟨p,ka,e,M _ _ e1,M _ _ e2⟩) Z) ⟨L,b,rfl,by rw[ai (Si np),ag],k3 _ _ (s2 _ _ hb)⟩
   .rw[Ry,e,RX,RX,I];rfl
 .rw[R8]at I;refine⟨l,f,ps,rfl,.inl hD',Z,λd2 N=>?_⟩;rw[yI ps [] (by rw[T7,I,V];exact LS nd),T7];have sH:Same H H':=λc w e=>B _ _ (kp _ _ (U _ _ (r _ _ e)) λz=>by rw[z,Y]at e;cases e);exact k d2 ps _ (sH.trans (aw N)) (sH.free N) ag (by rw[I,V])
theorem Ii(is:Is H Tr hD (.ref p))(a:H p=some (.tup (.int ro::ws)))(b:Fr [hD,JM ro]=.ok (.nX (lD t)))(nd:(t.map (·.1)).Nodup)(hz:t.length<1000):K7 (jw Fr) H (.ref p) (t.map (·.1)):=λH1 s1 Q k=>.mk (HW is s1) (s1 _ _ a) b nd hz λd kvs H' s n e h=>k d kvs _ H' s n e (.inl rfl) h
end
structure JQ where
 (Fr Fm Fc:CW)
structure Ps(Fr:CW) (rooms signs:Int) (RL:List Sp.Rule) (t:Pz.TD):Prop where
 p:Fr [js rooms signs RL,JM rooms]=.ok (.nX (lD t))
 nd:(t.map (·.1)).Nodup
 z:t.length<1000
 n:RL.length<1000
 f:JJ (Ls (t.map (·.1)) RL)
structure QH(RL:List Sp.Rule) (As:List Sp.Arr) (room:Int) (bq:List Int):Prop where
 u:∃U,Cr (aZ As) U/\room∈U
 am:Bo RL As room bq
 dE:∀Z ks,yZ RL As room bq Z ks->ks.length<=63
 rg:Ib RL As room bq
 yes:∀zs,vL RL As room bq (some zs)->∀Z ks Z2 hs,yZ RL As room bq Z ks->(∀k,kc (Ls As RL k) (Z2 k))->(∀x,x∈hs↔x∈ks)->qO zs hs Z2
 no:vL RL As room bq none->∀RW,BM RL RW->RW[0]?=some (room,bq)->ER RW
structure PJ(F:JQ) (sc:List Int) (rooms signs many x0 x1 y0 x2 place:Int):Prop where
 h1:0<rooms/\rooms<=8
 h2:0<signs/\signs<=14
 h3:rooms*signs<=28
 hm:0<=many/\many<=12
 z:sc.length<=63
 c0:F.Fc [.lst (sc.map .int),.int 0]=.ok (.val (.int x0) true [])
 m0:F.Fm [.int x0]=.ok (.val (.int y0) true [])
 c1:F.Fc [.lst (sc.map .int),.int 1]=.ok (.val (.int x1) true [])
 c2:F.Fc [.lst (sc.map .int),.int 2]=.ok (.val (.int x2) true [])
 m2:F.Fm [.int x2]=.ok (.val (.int place) true [])
 k:∀RL:List Sp.Rule,(∀r∈RL,JS rooms signs r)->(RL.length:Int)<=rooms*signs+12->∃t,Ps F.Fr rooms signs RL t/\∀bq:List Int,bq.length<=5->(∀x∈bq,0<=x/\x<signs)->QH RL (t.map (·.1)) (place%rooms) bq
section
variable(X:Cx)(mg:Str->Option Vz)(F:JQ)
def LU:TS:=cL (zi (bO CH [] E0 (aj (au 11) aE)))
def OM(K:Vx):TE:=GD (zA K) (au 0) (lq (bj dw (tC (.int 4)) (au 4))) (lq (bj dw (tC (.int 64)) (au 4)))
def LV:TS:=aK (bb (bO CM [] E0 (aj (au 5) (aj (tI X.K 7 0) (aj (tI X.K 7 1) (aj (OM X.K) aE))))) (aA 11)) LU
def LW:TS:=aK (d8 (tB (FA (au 10))) (cL (bO CA [] E0 (aj (au 10) (aj (bO (Co (jw F.Fr)) [] E0 (aj (au 8) (aj (au 9) aE))) (aj (bO (CF (jw F.Fr)) [] E0 (aj (au 8) aE)) aE))))) cq) (LV X)
def LX:TS:=aK (d8 (FC (bI (bj Hb (au 8) (HY (au 5)))) (bI (bj Hb (au 9) (au 7)))) Le cq) (LW X F)
def LY:TS:=aK (bb (bO (CJ (jw F.Fr)) [] E0 (aj (au 8) (aj (au 9) aE))) (aA 10)) (LX X F)
def LZ:TS:=aK (bb (cI (aj (tI X.K 7 0) (aj (fK (nL X.K) (aj (tI X.K 7 1) aE)) aE))) (aA 9)) (LY X F)
def Ij:TS:=aK (bb (HY (Pi X.K)) (aA 8)) (LZ X F)
def ON:TE:=bO CC [] E0 (aj (bj jV (au 6) (tC (.int 3))) (aj (au 3) aE))
def L0:TS:=aK (bb (cI (aj (bj cR (au 6) (au 2)) (aj ON aE))) (aA 7)) (Ij X F)
def L1:TS:=aK (bb (HX mg F.Fm F.Fc 2) (aA 6)) (L0 X F)
def L5:TS:=aK (bb (bO (Ct F.Fm F.Fc) [] E0 (aj (au 0) (aj (au 2) (aj (au 3) (aj (au 4) aE))))) (aA 5)) (L1 X mg F)
end
section
variable{X:Cx}{mg:Str->Option Vz}{F:JQ}{H0 H H':Hp}{p d rl:Addr}{σ:L2.St}{ws:List V}{E:XK}{rooms signs many:Int}{sc:List Int}{x0 x1 y0 x2 place:Int}{bq:List Int}{D:Ends}
theorem yJ(rooms signs:Int)(RL:List Sp.Rule):(js rooms signs RL).dep<=50:=by
 have:L3.D.fJ (RL.map d4)<=4:=jU λd hd=>by
  obtain⟨x,_,rfl⟩:=Q3.mp hd;have:L3.D.fJ (x.2.2.2.map L3.D.int)<=1:=jU λd hd=>by obtain⟨y,_,rfl⟩:=Q3.mp hd;exact Rh _
  show max 0 (max 0 (max 0 (max (L3.D.fJ (x.2.2.2.map L3.D.int)+1) 0)))+1<=4;lia
 show max 0 (max 0 (max (L3.D.fJ (RL.map d4)+1) 0))+1<=50;lia
structure vH(H:Hp) (room:Int) (bq:List Int) (p l:Addr):Prop where
 t:H p=some (.tup [.int room,.ref l])
 l:Rd H l (.lst (bq.map .int))
def vH.more{l:Addr}(h:vH H room bq p l)(s:Same H H'):vH H' room bq p l:=⟨s _ _ h.t,aT s h.l⟩
def vH.is{l:Addr}(h:vH H room bq p l):Is H Tr (.tup [.int room,.lst (bq.map .int)]) (.ref p):=⟨p,_,rfl,h.t,_,_,rfl,rfl,_,_,rfl,⟨l,_,rfl,h.l.imp (λe=>⟨e,True.intro⟩) (λ⟨o,e⟩=>⟨o,e,True.intro⟩),jk _⟩,rfl⟩
noncomputable def F4(v0:V)(s1:Option V)(rooms signs many place:Int)(rl c:Addr)(x8 x9 a b:Option V):L2.St:=[some v0,s1,some (.int rooms),some (.int signs),some (.int many),some (.ref rl),some (.int place),some (.ref c),x8,x9,a,b]
theorem OO(R:PJ F sc rooms signs many x0 x1 y0 x2 place)(is:Is H Tr (.lst (sc.map .int)) v0)(hs:σ=[some v0,s1,some (.int rooms),some (.int signs),some (.int many),x5,x6,x7,x8,x9,x10,x11])(k:∀H',Same H H'->D.rt (.bl true) H'):L5 X mg F D σ H:=by
 subst hs;refine⟨_,rfl,_,rfl,_,rfl,_,rfl,.mk is R.h1 R.h2 R.h3 R.hm R.c0 R.m0 R.c1 λrl ws RL H0 t0 nrl L its S U=>?_⟩;obtain⟨t,P,hSt⟩:=R.k RL S U;have ia:IsAll H0 Tr (RL.map d4) ws:=HV its λx _ v h=>Li h;have V:=HW is t0;show L1 X mg F D [some v0,s1,some (.int rooms),some (.int signs),some (.int many),some (.ref rl),x6,x7,x8,x9,x10,x11] H0;have k0:∀H',Same H0 H'->D.rt (.bl true) H':=λH' s=>k H' (t0.trans s);clear k U;refine Bk (sd:=.lst (sc.map .int)) rfl V R.c2 R.m2 λH1 t1=>?_;show L0 X F D [some v0,s1,some (.int rooms),some (.int signs),some (.int many),some (.ref rl),some (.int place),x7,x8,x9,x10,x11] H1;refine⟨_,rfl,_,rfl,_,_,rfl,rfl,R.h1.1,_,rfl,_,_,rfl,rfl,⟨by decide,by decide⟩,_,rfl,.mk R.h2.1 λG bq H2 t2 nl7 hl7 z7 b7=>⟨by show 2<=_;rw[RB];lia,λb hp7=>?_⟩⟩;have T:=hSt bq z7 b7;have t3:=aw (o:=.tup [.int (place%rooms),.ref G]) hp7;have S7:vH (upd H2 b (.tup [.int (place%rooms),.ref G])) (place%rooms) bq b G:=⟨ag,.inl (t3 _ _ hl7)⟩;show Ij X F D (F4 v0 s1 rooms signs many place rl b x8 x9 x10 x11) (upd H2 b (.tup [.int (place%rooms),.ref G]));generalize upd H2 b (.tup [.int (place%rooms),.ref G])=H3 at t3 S7;have s3:=(t1.trans t2).trans t3
 delta Ij aK bb
 dsimp only;refine HZ (σ:=F4 v0 s1 rooms signs many place rl b x8 x9 x10 x11) rfl rfl (Lh (K:=X.K) rfl (.inl (s3 _ _ L)) (JK ia s3)) λp l wh H4 t4 np nl h4=>?_;have S4:=S7.more t4;show LZ X F D (F4 v0 s1 rooms signs many place rl b (some (.ref p)) x9 x10 x11) H4;refine Reads.ix (K:=X.K) (n:=0) (.va (i:=7) rfl) S4.t (v:=.int (place%rooms)) rfl _ (Reads.ix (K:=X.K) (n:=1) (.va (i:=7) rfl) S4.t (v:=.ref G) rfl _ ⟨G,bq.map .int,rfl,.inl (.inl S4.l),λA hl9=>⟨by show 2<=_;rw[RB];lia,λj hp9=>?_⟩⟩);have t5:=aw (o:=.lst (bq.map .int)) hl9;have t6:=aw (o:=.tup [.int (place%rooms),.ref A]) hp9;have S9:vH (upd (upd H4 A (.lst (bq.map .int))) j (.tup [.int (place%rooms),.ref A])) (place%rooms) bq j A:=⟨ag,.inl (t6 _ _ ag)⟩;show LY X F D (F4 v0 s1 rooms signs many place rl b (some (.ref p)) (some (.ref j)) x10 x11) (upd (upd H4 A (.lst (bq.map .int))) j (.tup [.int (place%rooms),.ref A]));have B:=t5.trans t6;generalize upd (upd H4 A (.lst (bq.map .int))) j (.tup [.int (place%rooms),.ref A])=H5 at B S9;have h5:=h4.more B;have s5:=(s3.trans t4).trans B;have pp:∀{H'},Same H5 H'->K7 (jw F.Fr) H' (.ref p) (t.map (·.1)):=λs=>Ii (h5.more s).is (h5.more s).t P.p P.nd P.z;have tz:(t.map (·.1)).length<1000:=by rw[Q0];exact P.z
 have sa:∀{H'},Same H5 H'->Ft (jw F.Fr) H' RL (t.map (·.1)) p j A (place%rooms) bq:=λs=>⟨⟨l,wh,(h5.more s).at⟩,pp s,tz,P.n,P.f,T.u,⟨(S9.more s).t,(S9.more s).l⟩,by lia⟩;refine⟨_,rfl,_,rfl,.mk (sa λ_ _ e=>e) T.am T.rg λo v H6 Q io ro=>?_⟩;have h6:=h5.more Q;have s6:=s5.trans Q;show LX X F D (F4 v0 s1 rooms signs many place rl b (some (.ref p)) (some (.ref j)) (some v) x11) H6;refine⟨_,rfl,_,rfl,_,rfl,_,rfl,by show 3<=_;rw[RB];lia,λq hq=>?_⟩;have w:=aw (o:=.tup [.int rooms,.int signs,.ref rl]) hq;have W:upd H6 q (.tup [.int rooms,.int signs,.ref rl]) q=some (.tup [.int rooms,.int signs,.ref rl]):=ag;generalize upd H6 q (.tup [.int rooms,.int signs,.ref rl])=Y at w W;have M:=s6.trans w;have isl:Is Y Tr (.lst (RL.map d4)) (.ref rl):=⟨rl,ws,rfl,.inl ⟨M _ _ L,True.intro⟩,JK ia M⟩;have dep:=yJ rooms signs RL;refine⟨js rooms signs RL,js rooms signs RL,Tr,Tr,(h6.more w).is,⟨q,_,rfl,W,_,_,rfl,rfl,_,_,rfl,rfl,_,_,rfl,isl,rfl⟩,⟨dep,dep⟩,_,rfl,?_⟩;rw[h7];have t37:=((t4.trans B).trans Q).trans w;have I:(L3.D.tup [.int (place%rooms),.lst (bq.map .int)]).dep<=50:=by
  have:L3.D.fJ (bq.map L3.D.int)<=1:=jU λd hd=>by obtain⟨y,_,rfl⟩:=Q3.mp hd;exact Rh _
  show max 0 (max (L3.D.fJ (bq.map L3.D.int)+1) 0)+1<=50;lia
 refine di ⟨_,rfl,_,rfl,.tup [.int (place%rooms),.lst (bq.map .int)],.tup [.int (place%rooms),.lst (bq.map .int)],Tr,Tr,(S9.more (Q.trans w)).is,(S7.more t37).is,⟨I,I⟩,_,rfl,?_⟩;rw[h7];refine di ?_;show LW X F D (F4 v0 s1 rooms signs many place rl b (some (.ref p)) (some (.ref j)) (some v) x11) Y;cases o with
 |some zs=>obtain⟨lf,fv,rfl,nf,hf,af⟩:=io;refine⟨_,rfl,_,rfl,iT ⟨_,rfl,_,rfl,_,rfl,.mk (sa (Q.trans w)) T.am T.dE λlh hv Z ks hs H8 c nh hh ah m lm g=>?_⟩⟩;have h8:=(h6.more w).more c;refine⟨_,rfl,.mk h8.at (pp ((Q.trans w).trans c)) tz P.n P.f λd Z2 LA H9 g9=>?_⟩;have a:=g9.g.s;exact .mk ((w.trans (c.trans a)) _ _ hf) (af.mono (a_ (.of (w.trans (c.trans a))))) (a _ _ hh) (ah.mono (a_ (.of a))) g9.g (T.yes zs ro Z ks Z2 hs g g9.s m) λC t11=>k0 C (((M.trans c).trans a).trans t11)
 |none=>
  obtain rfl:v=.bz:=io;refine⟨_,rfl,_,rfl,di ?_⟩;show LV X D (F4 v0 s1 rooms signs many place rl b (some (.ref p)) (some (.ref j)) (some .bz) x11) Y;have N:=S7.more t37;obtain⟨la,O,e0,hla,iw⟩:=wM (HW V M);refine⟨_,rfl,Reads.ix (K:=X.K) (n:=0) (.va (i:=7) rfl) N.t (v:=.int (place%rooms)) rfl _ (Reads.ix (K:=X.K) (n:=1) (.va (i:=7) rfl) N.t (v:=.ref G) rfl _ ?_)⟩;refine⟨_,rfl,_,rfl,_,_,rfl,rfl,_,rfl,_,rfl,_,_,rfl,rfl,_,rfl,?_⟩;refine⟨la,O,e0,.inl hla,λlc hlc=>?_⟩;have wl:O.length=sc.length:=by rw[nC iw,Q0]
  have cl:=g_ O (some (4+many)) (some (64+many));have ec:dU O (some (4+many)) (some (64+many))=(qe sc (some (4+many)) (some (64+many))).map .int:=by rw[nC iw];unfold dU qe;rw[Q0,List.map_take,List.map_drop]
  have c:=aw (o:=.lst (dU O (some (4+many)) (some (64+many)))) hlc;have J:upd Y lc (.lst (dU O (some (4+many)) (some (64+many)))) lc=some (.lst ((qe sc (some (4+many)) (some (64+many))).map .int)):=by rw[ag,ec]
  rw[ec,Q0]at cl;have z:=R.z;generalize upd Y lc (.lst (dU O (some (4+many)) (some (64+many))))=H9 at c J;refine .mk (.inl ((M.trans c) _ _ L)) (its.mono (IsRule.keep (.of (M.trans c)))) (aT c N.l) (.inl J) P.n z7 (by lia) (λr hr=>(S r hr).p) λr rv RW C a nr hr ar ch zr h0=>?_;show LU D (F4 v0 s1 rooms signs many place rl b (some (.ref p)) (some (.ref j)) (some .bz) (some (.ref r))) C;exact⟨_,rfl,.mk hr ar (T.no ro RW ch h0) (by lia) ⟨_,rfl,k0 C ((M.trans c).trans a)⟩⟩
structure Pu(env:En) (d0:L3.D) (f0:Bool) (rooms:Int) (f2:Bool) (signs:Int) (f3:Bool) (many:Int) (f4:Bool):Prop where
 n:env.length=12
 e0:env[0]?=some (some (.val d0 f0))
 e2:env[2]?=some (some (.val (.int rooms) f2))
 e3:env[3]?=some (some (.val (.int signs) f3))
 e4:env[4]?=some (some (.val (.int many) f4))
def Ik(F:JQ)(env:En):Prop:=∃sc rooms signs many a b c e x0 x1 y0 x2 place,Pu env (.lst (sc.map .int)) a rooms b signs c many e/\PJ F sc rooms signs many x0 x1 y0 x2 place
open Classical in
def L6(F:JQ):En->Res Fl:=λenv=>if Ik F env then .ok (.rt (.val (.bl true) true []))else .stuck
def Il(h:Ik F env):L6 F env=.ok (.rt (.val (.bl true) true [])):=Re h
def Im{α:Type}{l:List α}(h:l.length=12):∃c e f g i j k m n o a b,l=[c,e,f,g,i,j,k,m,n,o,a,b]:=by
 match l,h with
 |[c,e,f,g,i,j,k,m,n,o,a,b],_=>exact⟨_,_,_,_,_,_,_,_,_,_,_,_,rfl⟩
theorem EW(h:PSs X ss (L5 X X.mg F)):sj X E ss (L6 F):=by
 refine⟨_,h,λg M w env σ H D b p=>?_⟩;unfold L6 at p;by_cases c:Ik F env
 case neg=>rw[Rf c]at p;exact p.elim
 case pos=>
 rw[Re c]at p;obtain⟨sc,rooms,signs,many,x,y,A,B,x0,x1,y0,x2,place,e,R⟩:=c;obtain⟨v0,f,i⟩:=b.slot 0 _ e.e0;obtain⟨v2,q2,j⟩:=b.slot 2 _ e.e2;obtain⟨k,l,m⟩:=b.slot 3 _ e.e3;obtain⟨q,r,t⟩:=b.slot 4 _ e.e4;obtain rfl:v2=.int rooms:=j;obtain rfl:k=.int signs:=m;obtain rfl:q=.int many:=t;obtain⟨C,G,I,J,K,L,N,O,P,Q,u,v,rfl⟩:=Im (b.len.symm.trans e.n);cases f;cases q2;cases l;cases r;exact OO R (HW i λ_ _ e=>e) rfl λH' s=>p _ M H' ⟨λ_ z=>z,λa o e _=>s a o e⟩ (b.same.trans s) (λ_=>rfl) λ_=>rfl
end
def F5(K:Vx):List V->Hp->VK->Prop:=λxs H Q=>∃p,xs=[.ref p]/\SqL K H p []/\Q (.bl true) H
noncomputable def OP:List L3.D->Res R
 |[_,.tup [_,.lst [],_]]=>.ok (.val .bz true [])
 |_=>.stuck
section
variable{X:Cx}{K:Vx}{mg:Str->Option Vz}{H H':Hp}{σ:L2.St}{vs:List V}{Q:VK}{E E1:XK}
theorem yK(a:X.calm=true):CallR X (.builtin "all") (F5 X.K):=by
 intro ac s σ H xs us Q I r h;obtain⟨p,rfl,c,q⟩:=h;obtain⟨u,rfl,d⟩:=dR r;cases d;obtain⟨its,f,pl,hz⟩:=I.list c;cases its with
 |cons=>exact absurd f.length (by simp)
 |nil=>
 have g:X.A.in1.handled=none:=I.ok.hd a;obtain⟨o,j,_⟩:=pl.isList;refine call_all_walk (UI pl.isList ?_);refine⟨s.heap.objs.size,_,_,_,_,_,λ_=>true,rfl,Walks.list g s.heap.objs.size p (Rt (Rc j)) [].toArray,⟨⟨_,Rb _ rfl,rfl,rfl⟩,pl.isList.at λo e=>QZ _ e⟩,λi v n t w k=>?_,λh' tk l=>⟨.bl true,H,?_,?_,q⟩⟩
 .simp at k
 rotate_left
 .rfl
 have m:L2.Inv X ac σ H { s with heap:=s.heap.push { cls:=.type "list_iterator",data:=.fields #[.ref p,.int 0 0] } }:=I.kept (t':=s.toks) λb o e=>QZ _ e;have fo:=I.tO (H':=H) (QY s.heap.objs.size) (I.aW.fresh (QY _));exact m.turned (t':=tk) (it:=s.heap.objs.size) (λb o hb e=>l b o (by simpa using hb) e) fo.1 fo.2.1 fo.2.2.2.1 fo.2.2.2.2.1 fo.2.2.2.2.2
inductive Cs:Sp
 |mk {H:Hp} {v a b:V} {q l:Addr} {Q:VK} {E:XK} (hq:H q=some (.tup [a,.ref l,b])) (hl:Rd H l (.lst [])) (k:∀H',Same H H'->Q (.bl true) H')   : Cs [v,.ref q] H Q E
def BR(h:Cs vs H Q E):vs.length=2:=by cases h;rfl
def QE(X:Cx)(scope:Scope)(tg a:Expr)(tN capN:List Str)(caps:List Nat):TS:=cL (fK (F5 X.K) (aj (ja X scope tg tN capN caps a [] (cu X.K (tI X.K 1 1))) aE))
def EX(h:Cs vs H Q E):QE X scope tg elt tN capN caps {nx:=λ_ H'=>Q .bz H',rt:=Q} (bp ["house","machine"] vs) H:=by obtain @⟨H,v,a,b,q,l,Q,E,hq,hl,k⟩:=h;refine Reads.ix (n:=1) (.va (i:=1) rfl) hq (v:=.ref l) (ce (j:=1) rfl) _ ⟨l,rfl,⟨_,.inl hl⟩,λe f cl C g fp=>⟨λ_ _ _ _=>False,_,λ_ _ _=>False,λi m c H'=>c=[]/\Same H H'/\H' e=some (.lst []),λ_ _ _ _ _ _ _ _ _ h=>h.elim,gs,λ_ _ _ _ _ _ h=>h.elim,⟨0,rfl,aw f,ag⟩,?_⟩⟩;rintro i m c H' ⟨rfl,s,d⟩;exact⟨d,.inl ⟨⟨[],.inl (aT s hl),Rh _⟩,e,rfl,SqL.of d,k _ s⟩⟩
noncomputable def L7:TS:=λ_ _ _=>False
def Ip:PSs X b L7:=λ_ _ _ _ _ _ h=>h.elim
def QF(E:XK):TS:=d8 (rn (tB (bO Cs [] E (aj (au 0) (aj (au 1) aE))))) L7 cq
def EY(h:oh mg 2 OP vs H Q E):QF E1 {nx:=λ_ H'=>Q .bz H',rt:=Q} (bp ["house","machine"] vs) H:=by
 obtain⟨d,ds,Ma,is,a⟩:=h;unfold OP at a;split at a
 .obtain⟨v0,e,rfl,f,g,i,rfl,⟨q,ws,rfl,b,j,k,rfl,m,n,p,rfl,⟨l,xs,rfl,c,ex⟩,r,t2,rfl,t,rfl⟩,rfl⟩:=is;obtain rfl:xs=[]:=ex;exact⟨_,rfl,_,rfl,.mk b (c.imp (·.1) λ⟨o,h⟩=>⟨o,h.1⟩) λH' s=>⟨true,rfl,di (a _ _ s rfl)⟩⟩
 .exact a.elim
end
end L4
namespace L3
open PySem L2
section
variable{env qL:En}{i:Nat}{d:D}{ds:List D}{f g:Bool}{al bl:List Nat}{x y:Int}
noncomputable def kS(k:En->Res Fl):Fl->Res Fl
 |.nx qL=>k qL
 |r=>.ok r
theorem L8(f k:En->Res Fl)(env:En):sn f k env=(f env).bind (kS k):=by rfl
def OQ(k:En->Res Fl)(e:En):kS k (.nx e)=k e:=(rfl)
def OR(k:En->Res Fl)(r:R):kS k (.rt r)=.ok (.rt r):=(rfl)
noncomputable def OS(a b:En->Res Fl)(env:En)(k:Bool):Res Fl:=if k then a env else b env
theorem OT(c:En->Res Bool)(a b:En->Res Fl)(env:En):NH c a b env=(c env).bind (OS a b env):=(rfl)
theorem L9(a b:En->Res Fl)(env:En):OS a b env true=a env:=(rfl)
theorem L_(a b:En->Res Fl)(env:En):OS a b env false=b env:=(rfl)
theorem Mb(env:En):Hi env=.ok (.nx env):=(rfl)
def Mc(r:R):Res Fl:=.ok (.rt r)
theorem Md(a:En->Res R)(env:En):xS a env=(a env).bind Mc:=(rfl)
def Iq(r:R):Mc r=.ok (.rt r):=(rfl)
def Me(i:Nat)(env:En)(r:R):Res Fl:=if i<env.length then .ok (.nx (put env i r))else .stuck
theorem Mg(i:Nat)(a:En->Res R)(env:En):xT i a env=(a env).bind (Me i env):=(rfl)
def Ir(r:R)(h:i<env.length):Me i env r=.ok (.nx (put env i r)):=Re h
def Iu:put env i (.val d f [])=env.set i (some (.val d f)):=(rfl)
def OU(i:Nat):Option (Option Sl)->Res R
 |some (some (.val d fr))=>.ok (og d fr [])
 |some (some (.own ds fr))=>.ok (.val (.lst ds) fr [i])
 |some (some (.ze d))=>.ok (.val d true [i])
 |_=>.stuck
theorem Mh(i:Nat)(env:En):gc i env=OU i env[i]?:=by unfold gc OU;rfl
def Mi:OU i (some (some (.val d f)))=.ok (og d f []):=(rfl)
theorem QG(d:D)(env:En):vC d env=.ok (.val d true []):=(rfl)
def Iv(h:d.flat=true):og d f al=.val d true []:=by unfold og;rw[Re h]
def Iw(h:d.flat=false):og d f al=.val d f al:=by unfold og;rw[Rf (by rw[h];simp)]
def Pp(op:R->R->Res R)(a:En->Res R)(env:En)(b:R):Res R:=(a env).bind (op b)
theorem OV(op:R->R->Res R)(a b:En->Res R)(env:En):v2 op a b env=(a env).bind (Pp op b env):=(rfl)
theorem Mj(op:R->R->Res R)(a:En->Res R)(env:En)(b:R):Pp op a env b=(a env).bind (op b):=(rfl)
def Ml:xQ (.val (.int x) f al) (.val (.int y) g bl)=.ok (.val (.int (x+y)) true []):=(rfl)
def Iy(h1:-18446744073709551616<y)(h2:y<18446744073709551616):G9 (.val (.int x) f al) (.val (.int y) g bl)=.ok (.val (.int (x*y)) true []):=by
 have:Ah x y=true:=by unfold Ah;rw[Bool.or_eq_true,SC,SC];exact .inr ⟨Rm (by lia),Rm (by lia)⟩
 show(if Ah x y=true then _ else _)=_;rw[Re this]
def Mm(h:0<y):uU (.val (.int x) f al) (.val (.int y) g bl)=.ok (.val (.int (x%y)) true []):=by show(if decide (0<y)=true then _ else _)=_;rw[Re (Rm h)]
def Mn(h:0<y)(h2:y<1073741824):D4 (.val (.int x) f al) (.val (.int y) g bl)=.ok (.val (.int (x/y)) true []):=by show(if(decide (0<y)&&decide (y<1073741824))=true then _ else _)=_;rw[Re (by rw[Rm h,Rm h2];rfl)]
def OW:NF (.val (.int x) f al) (.val (.int y) g bl)=.ok (.val (.bl (decide (x<y))) true []):=(rfl)
def F6(fs:En->Res (List R))(env:En)(r:R):Res (List R):=(fs env).bind (λrs=>.ok (r::rs))
def BS(r:R)(rs:List R):Res (List R):=.ok (r::rs)
theorem Iz(env:En):xR env=.ok []:=(rfl)
theorem EZ(a:En->Res R)(fs:En->Res (List R))(env:En):lr a fs env=(a env).bind (F6 fs env):=(rfl)
theorem E2(fs:En->Res (List R))(env:En)(r:R):F6 fs env r=(fs env).bind (BS r):=(rfl)
def BU(r:R)(rs:List R):BS r rs=.ok (r::rs):=(rfl)
def F7(F:List D->Res R)(rs:List R):Res R:=(F (rs.map R.d)).bind (λr=>.ok (lu rs r))
def BV(rs:List R)(r:R):Res R:=.ok (lu rs r)
theorem IA(F:List D->Res R)(fs:En->Res (List R))(env:En):mY F fs env=(fs env).bind (F7 F):=(rfl)
def E3(F:List D->Res R)(rs:List R):F7 F rs=(F (rs.map R.d)).bind (BV rs):=(rfl)
def BW(rs:List R)(r:R):BV rs r=.ok (lu rs r):=(rfl)
def BX(rs:List R)(h:d.flat=true):lu rs (.val d f al)=.val d true []:=Re h
theorem OX(k:List R->Res R)(fs:En->Res (List R))(env:En):NG k fs env=(fs env).bind k:=(rfl)
def IB:D->Res R
 |.lst ds=>.ok (.val (.int ds.length) true [])
 |.tup ds=>.ok (.val (.int ds.length) true [])
 |.str z=>if z.length<=lim then .ok (.val (.int z.length) true [])else .stuck
 |_=>.stuck
def Mo(r:R):Aq [r]=IB r.d:=by unfold Aq IB;rfl
def IC:IB (.lst ds)=.ok (.val (.int ds.length) true []):=(rfl)
def kB(a:R):Res Bool:=match a.d with
 |.bl b=>.ok b
 |_=>.stuck
theorem OY(a:En->Res R)(env:En):vB a env=(a env).bind kB:=(rfl)
def OZ(b:Bool):kB (.val (.bl b) f al)=.ok b:=(rfl)
def Mp(f:Bool)(al:List Nat):Option D->Res R
 |some d=>.ok (og d f al)
 |none=>.stuck
def ID(a b:D)(f:Bool)(al:List Nat):Res R:=match a,b with
 |.lst xs,.int i=>Mp f al (f_ xs i)
 |.tup xs,.int i=>Mp f al (f_ xs i)
 |.str z,.int i=>if z.length<=lim then(match f_ z.cps.toList i with
  |some c=>.ok (.val (.str ⟨#[c]⟩) true [])
  |none=>.stuck)else .stuck
 |_,_=>.stuck
def O0(a b:R):FN a b=ID a.d b.d a.fr a.al:=by unfold FN ID Mp;rfl
def Mq:ID (.lst ds) (.int k) f al=Mp f al (f_ ds k):=(rfl)
def Mr:Mp f al (some d)=.ok (og d f al):=(rfl)
def O3(ds:List D)(fr:Bool)(a:R):Res R:=match a.d with
 |.int k=>match f_ ds k with
  |some d=>.ok (og d fr [])
  |none=>.stuck
 |_=>.stuck
def IE(i:Nat)(a:En->Res R)(env:En):Option (Option Sl)->Res R
 |some (some (.own ds fr))=>(a env).bind (O3 ds fr)
 |_=>v2 FN (gc i) a env
theorem Ms(i:Nat)(a:En->Res R)(env:En):Al i a env=IE i a env env[i]?:=by unfold Al IE;rfl
def IF(a:En->Res R):IE i a env (some (some (.val d f)))=v2 FN (gc i) a env:=(rfl)
def cD{α:Type}(a:α)(l:List α):f_ (a::l) 0=some a:=by unfold f_ zy;rw[Re (by lia),Re (by simp)];rfl
def jb{α:Type}(a b c:α)(l:List α):f_ (a::b::c::l) 2=some c:=by unfold f_ zy;rw[Re (by lia),Re (by simp;lia)];rfl
def IG:bw env []=env:=(rfl)
def Mv(n:Nat)(caps:List Nat)(b:D->Bool->En->Option En)(a:En->Res Bool)(c:En->Res R)(env:En)(s:Src):Res R:=if s.xs.length<=lim then
 (ww (λd=>b d s.fr (Kl env n caps)) a c s.xs).Py.bind λrs=>.ok (Kb (rs.map R.d) (gT rs) (s.al++caps.filter (r_ env)))else .stuck
theorem IH(n:Nat)(caps:List Nat)(b:En->Res Src)(c:D->Bool->En->Option En)(a:En->Res Bool)(e:En->Res R)(env:En) :
 Km n caps b c a e env=(b env).bind (Mv n caps c a e env):=(rfl)
end
def BY(x:Int):(D.int x).flat=true:=(rfl)
def BZ(ds:List D):(D.lst ds).flat=false:=(rfl)
def II(r:R):FP (.ok (.rt r))=.ok r:=(rfl)
def E4(d:D)(f:Bool)(al:List Nat):(R.val d f al).d=d:=(rfl)
def B3(d:D)(f:Bool)(al:List Nat):(R.val d f al).fr=f:=(rfl)
def B4(d:D)(f:Bool)(al:List Nat):(R.val d f al).al=al:=(rfl)
def Mw{α b:Type}(a:α)(k:α->Res b):(Res.ok a).bind k=k a:=(rfl)
def F8(i:Nat)(env:En)(r:R):Res Fl:=if i<env.length then .ok (.nx ((bw env r.al).set i (some (.val r.d r.fr))))else .stuck
def IJ(i:Nat)(a:En->Res R)(env:En):AD i a env=(a env).bind (F8 i env):=(rfl)
def E5(h:i<env.length):F8 i env r=.ok (.nx ((bw env r.al).set i (some (.val r.d r.fr)))):=Re h
end L3
local macro_rules|`(tactic| simp_arith[$as,*] $[$l:location]?)=>do
 let ls←("L3.uX L3.jj L3.IJ L3.E5 decide_true decide_false List.map_cons List.map_nil List.length_cons List.length_nil List.replicate List.cons_append List.nil_append List.append_nil Nat.reduceAdd Nat.max_self Nat.zero_max Nat.max_zero Nat.zero_add Nat.reduceSub L3.L8 L3.Mg L3.OV L3.Mj L3.Mh L3.Mi L3.Iv L3.Iw L3.BY L3.BZ L3.QG L3.Mw List.getElem?_cons_zero List.getElem?_cons_succ L3.Mm L3.Mn L3.Ml L3.Iy Int.reduceLT Int.reduceLE Int.reduceNeg L3.Ir L3.Iu L3.OQ L3.OR List.set_cons_zero List.set_cons_succ Nat.reduceLT Nat.reduceLeDiff L3.OT L3.L9 L3.L_ L3.Mb L3.Md L3.Iq L3.OW L3.Iz L3.EZ L3.E2 L3.BU L3.IA L3.E3 L3.BW L3.BX L3.OX L3.Mo L3.IC L3.OY L3.OZ L3.O0 L3.Mq L3.Mr L3.Ms L3.IF L3.cD L3.jb L3.IG Int.reduceBEq Bool.not_not Nat.reduceEqDiff L3.IH L3.E4 L3.B3 L3.B4 Bool.and_true Bool.true_and Bool.and_false Bool.false_and Bool.and_self Bool.not_true Bool.not_false L3.II".splitOn " ").toArray.mapM λs=>`(Lean.Parser.Tactic.simpLemma| $(Lean.mkIdent s.toName):ident)
 `(tactic| simp only[$[$ls:simpLemma],*,$as,*] $[$l]?)
local macro_rules|`(tactic| simp_arith $[$l:location]?)=>`(tactic| simp_arith[L3.Mw] $[$l]?)
namespace L3
open PySem L2
def E6{α a:Type}(g:α->a)(xs:List α)(k:Int):f_ (xs.map g) k=(f_ xs k).map g:=by
 unfold f_;rw[Q0];cases zy xs.length k with
 |none=>rfl
 |some j=>simp
def IK{α:Type}{xs:List α}{k:Int}(h0:0<=k)(h:k<xs.length):∃a,f_ xs k=some a/\xs[k.toNat]?=some a:=by
 unfold f_ zy;rw[Re h0,Re h];have:k.toNat<xs.length:=by lia
 exact⟨xs[k.toNat],by simp[this],by simp[this]⟩
end L3
namespace W
open PySem PySem.Spec PyProof.Rows L2 L3 L4
def top(i:Nat):Stmt:=PySem.Challenge.pw_callwalk_k44_ring_is_a_ring.main.body.getD i (.Pass ⟨0,0,0,0⟩)
abbrev ik:Stmt:=top 31
noncomputable abbrev N__law_rule:List Str:=["_law_number","_law_rooms","_law_signs","_law_falls","_law_room","_law_sign","_law_to","_law_size","_law_below"]
abbrev fR:List Str:=N__law_rule.take 4
def sc__law_rule:aP N__law_rule fR (aD ik):=bJ
abbrev gA:Stmt:=top 30
noncomputable abbrev jY:List Str:=["_law_cell"]
noncomputable abbrev eU:List Str:=["_law_cell"]
def oz:aP jY eU (aD gA):=bJ
def jZ:En->Res Fl:=(xS (v2 uU (v2 G9 (v2 xQ (v2 uU (gc 0) (vC (.int 2147483647))) (vC (.int 11))) (vC (.int 48271))) (vC (.int 2147483647))))
def cG:List D->Res R:=uX jY jZ
abbrev fD:Stmt:=top 28
noncomputable abbrev N__law_cell_at:List Str:=["_law_script","_law_k"]
abbrev dz:List Str:=N__law_cell_at.take 2
def lM:aP N__law_cell_at dz (aD fD):=bJ
def fE:En->Res Fl:=
 (sn (NH (vB (v2 NF (gc 1) (NG Aq (lr (gc 0) xR)))) (xS (Al 0 (gc 1))) Hi)
 (xS (vC (.int 0))))
def bQ:List D->Res R:=uX N__law_cell_at fE
abbrev gB:Stmt:=top 32
noncomputable abbrev N__law_rules:List Str:=["_law_script","_law_rooms","_law_signs","_law_many","_law_kind","_law_number","_law_rules_here","_law_k","_law_cell","_law_free"]
abbrev eV:List Str:=N__law_rules.take 4
def sc__law_rules:aP N__law_rules eV (aD gB):=bJ
abbrev gC:Stmt:=top 33
noncomputable abbrev N__law_stack:List Str:=["_law_cell","_law_signs","_law_number","_law_stack_here","_law_k"]
abbrev eY:List Str:=N__law_stack.take 2
def sc__law_stack:aP N__law_stack eY (aD gC):=bJ
abbrev gD:Stmt:=top 34
noncomputable abbrev N__law_run:List Str:=["_law_rules_here","_law_room","_law_stack_here","_law_cells","_law_row","_law_cell","_law_fits","_law_rule_here"]
abbrev gE:List Str:=N__law_run.take 4
def sc__law_run:aP N__law_run gE (aD gD):=bJ
abbrev gF:Stmt:=top 7
noncomputable abbrev N_is_plain:List Str:=["house","machine"]
abbrev gG:List Str:=N_is_plain.take 2
def sZ:aP N_is_plain gG (aD gF):=bJ
abbrev cp:Stmt:=top 8
noncomputable abbrev gW:List Str:=["house","machine"]
noncomputable abbrev bU:List Str:=["house","machine"]
def gH:aP gW bU (aD cp):=bJ
def bV:List D->Res R:=L4.OP
abbrev dI:Stmt:=top 12
noncomputable abbrev kZ:List Str:=["house","rules","number","rule"]
noncomputable abbrev dJ:List Str:=["house"]
def sc_rules_by_start:aP kZ dJ (aD dI):=bJ
abbrev nM:Stmt:=top 14
noncomputable abbrev N_prices:List Str:=["house","machine","pricing","arrow","number","rule"]
abbrev j1:List Str:=N_prices.take 2
def sc_prices:aP N_prices j1 (aD nM):=bJ
abbrev IL:Stmt:=eM (top 10) 0
def Mx:aP ["self"] ["self"] (aD IL):=bJ
abbrev IM:Stmt:=eM (top 10) 1
def My:aP ["self","price","thing"] ["self","price","thing"] (aD IM):=bJ
abbrev IN:Stmt:=eM (top 10) 2
def Mz:aP ["self"] ["self"] (aD IN):=bJ
abbrev E7:Stmt:=eM (top 10) 3
def sc_QT:aP ["self","pile","price","thing"] ["self"] (aD E7):=bJ
abbrev IQ:Stmt:=eM (top 13) 0
def MA:aP ["self","house"] ["self","house"] (aD IQ):=bJ
abbrev IR:Stmt:=eM (top 13) 1
def sc_PO:aP ["self","arrow","price","number","mid","known"] ["self","arrow","price","number","mid"] (aD IR):=bJ
abbrev IS:Stmt:=eM (top 13) 2
def sc_PS:aP ["self","arrow","price","start","number","rule","first"] ["self","arrow","price"] (aD IS):=bJ
abbrev IT:Stmt:=eM (top 13) 3
def sc_PF:aP ["self","number","rule","mid","price","start","state","second"] ["self","number","rule","mid","price"] (aD IT):=bJ
abbrev IU:Stmt:=eM (top 13) 4
def sc_PA:aP ["self","price","arrow"] ["self"] (aD IU):=bJ
def cS:List D->Res R:=L4.KJ bV
abbrev l_:Stmt:=top 16
noncomputable abbrev wY:List Str:=["house","told"]
noncomputable abbrev ma:List Str:=["house"]
def sc_pairs:aP wY ma (aD l_):=bJ
abbrev fF:Stmt:=top 18
noncomputable abbrev nN:List Str:=["house","behind","room","sign","other"]
noncomputable abbrev dC:List Str:=["house"]
def sc_rooms_behind:aP nN dC (aD fF):=bJ
abbrev k7:Stmt:=top 1
noncomputable abbrev yL:List Str:=["rule"]
noncomputable abbrev iP:List Str:=["rule"]
def vx:aP yL iP (aD k7):=bJ
abbrev gI:Stmt:=top 19
noncomputable abbrev N_heads_by:List Str:=["rule","behind","put","first"]
abbrev gJ:List Str:=N_heads_by.take 2
def sc_heads_by:aP N_heads_by gJ (aD gI):=bJ
abbrev cA:Stmt:=top 20
noncomputable abbrev fS:List Str:=["house","behind","leading","rule"]
noncomputable abbrev cB:List Str:=["house","behind"]
def sc_head_steps_with:aP fS cB (aD cA):=bJ
abbrev gK:Stmt:=top 21
noncomputable abbrev qD:List Str:=["house"]
noncomputable abbrev eZ:List Str:=["house"]
def oA:aP qD eZ (aD gK):=bJ
abbrev fT:Stmt:=top 22
noncomputable abbrev N_own_heads:List Str:=["behind","standing","heads","rooms","sign","tops","gone","top"]
abbrev fU:List Str:=N_own_heads.take 2
def sc_own_heads:aP N_own_heads fU (aD fT):=bJ
abbrev f6:Stmt:=top 23
noncomputable abbrev N_steps_among:List Str:=["house","standing","behind","leading","among","due","head"]
abbrev dL:List Str:=N_steps_among.take 2
def sc_steps_among:aP N_steps_among dL (aD f6):=bJ
abbrev jt:Stmt:=top 24
noncomputable abbrev N_heads_of:List Str:=["house","standing"]
abbrev gL:List Str:=N_heads_of.take 2
def s_:aP N_heads_of gL (aD jt):=bJ
abbrev j3:Stmt:=top 2
noncomputable abbrev tf:List Str:=["things"]
noncomputable abbrev j4:List Str:=["things"]
def yM:aP tf j4 (aD j3):=bJ
abbrev bR:Stmt:=top 25
noncomputable abbrev cY:List Str:=["among","left","before","head","ahead","other","ended","due","last"]
noncomputable abbrev cg:List Str:=["among"]
def sc_coming_to_an_end:aP cY cg (aD bR):=bJ
abbrev nO:Stmt:=top 26
noncomputable abbrev N_ring:List Str:=["house","standing","among","ended","left","walk","head","heads"]
abbrev qE:List Str:=N_ring.take 2
def sc_ring:aP N_ring qE (aD nO):=bJ
abbrev gM:Stmt:=top 29
noncomputable abbrev j5:List Str:=["_law_found"]
noncomputable abbrev e9:List Str:=["_law_found"]
def oB:aP j5 e9 (aD gM):=bJ
def qF:En->Res Fl:=(xS (Kh (Hk "int" (gc 0)) (Kg (Hk "bool" (gc 0)))))
def j6:List D->Res R:=uX j5 qF
abbrev fG:Stmt:=top 36
noncomputable abbrev N__law_is_ring:List Str:=["_law_found","_law_heads","_law_led","_law_k","_law_head"]
abbrev dD:List Str:=N__law_is_ring.take 3
def sc__law_is_ring:aP N__law_is_ring dD (aD fG):=bJ
abbrev cZ:Stmt:=top 35
noncomputable abbrev jv:List Str:=["_law_row","_law_k","_law_later"]
noncomputable abbrev ci:List Str:=["_law_row"]
def sc__law_comes_again:aP jv ci (aD cZ):=bJ
abbrev B5:Stmt:=top 37
noncomputable abbrev N_law:List Str:=["_law_script","_law_size","_law_rooms","_law_signs","_law_many","_law_rules_here","_law_place","_law_start","_law_house","_law_given","_law_found","_law_row"]
abbrev wZ:List Str:=N_law.take 1
def sc_law:aP N_law wZ (aD B5):=bJ
def IV:L4.JQ:=⟨cS,cG,bQ⟩
def w6:En->Res Fl:=λenv=>
 (sn (xT 4 (v2 uU (v2 D4 (gc 1) (vC (.int 48))) (vC (.int 13))))
 (L4.L6 IV)) env
def w8:En->Res Fl:=λenv=>
 (sn (xT 3 (v2 xQ (vC (.int 1)) (v2 uU (v2 D4 (gc 1) (vC (.int 3))) (vC (.int 4)))))
 w6) env
def w_:En->Res Fl:=λenv=>
 (sn (xT 2 (v2 xQ (vC (.int 1)) (v2 uU (gc 1) (vC (.int 3)))))
 w8) env
def F9:En->Res Fl:=
 (sn (AD 1 (mY cG (lr (mY bQ (lr (gc 0) (lr (vC (.int 0)) xR))) xR)))
 w_)
def ti:List D->Res R:=uX N_law F9
set_option genInjectivity false in
structure Tx(K:Vx) (mg:Str->Option Vz) where
 yY:Df K mg "_law_rule" ik fR
 xf:Df K mg "_law_mixed" gA eU
 tQ:Df K mg "_law_cell_at" fD dz
 Do:Df K mg "_law_rules" gB eV
 C7:Df K mg "_law_stack" gC eY
 Dq:Df K mg "_law_run" gD gE
 Di:Df K mg "is_plain" gF gG
 Dk:Df K mg "refuse_unless_plain" cp bU
 C8:Df K mg "rules_by_start" dI dJ
 Dm:Df K mg "prices" nM j1
 C3:Df K mg "pairs" l_ ma
 yS:Df K mg "rooms_behind" fF dC
 C6:Df K mg "head_of" k7 iP
 Dh:Df K mg "heads_by" gI gJ
 yT:Df K mg "head_steps_with" cA cB
 Ds:Df K mg "head_steps" gK eZ
 Dn:Df K mg "own_heads" fT fU
 y8:Df K mg "steps_among" f6 dL
 Dd:Df K mg "heads_of" jt gL
 Dg:Df K mg "marked" j3 j4
 C0:Df K mg "coming_to_an_end" bR cg
 Da:Df K mg "ring" nO qE
 yW:Df K mg "_law_whole" gM e9
 C5:Df K mg "_law_is_ring" fG dD
 C9:Df K mg "_law_comes_again" cZ ci
 Dp:Df K mg "law" B5 wZ
 Jv:mg "all"=none
 Fv:mg "bool"=none
 mj:mg "dict"=none
 ke:mg "enumerate"=none
 Jt:mg "int"=none
 dN:mg "isinstance"=none
 cb:mg "len"=none
 iQ:mg "list"=none
 Cp:mg "min"=none
 km:mg "range"=none
 vI:mg "set"=none
 k9:mg "sorted"=none
 Cz:mg "tuple"=none
 CQ:Addr
 kQ:qN K CQ
 gQ:mg "Queue"=some (.ref CQ)
 CP:Addr
 kP:iX K CP
 gP:mg "Pricing"=some (.ref CP)
 Js:Mf K CQ "__init__" "Queue.__init__" IL ["self"]
 Jl:Mk K CQ Js.f
 Fq:Mf K CQ "add" "Queue.add" IM ["self","price","thing"]
 Jn:Mf K CQ "is_empty" "Queue.is_empty" IN ["self"]
 Jk:Mf K CQ "take_lowest" "Queue.take_lowest" E7 ["self"]
 Jq:Mf K CP "__init__" "Pricing.__init__" IQ ["self","house"]
 Ji:Mk K CP Jq.f
 vK:Mf K CP "offer" "Pricing.offer" IR ["self","arrow","price","number","mid"]
 Jp:Mf K CP "settle" "Pricing.settle" IS ["self","arrow","price"]
 Jx:Mf K CP "settle_first" "Pricing.settle_first" IT ["self","number","rule","mid","price"]
 Jz:Mf K CP "settle_all" "Pricing.settle_all" IU ["self"]
section
variable{P:Vy}{w:World}{K:Vx}{mg:Str->Option Vz}{base:Heap}(t:Tx K mg)
def f7:bF P w K mg base fW 1 t.xf.f t.xf.fd eU (oh mg 1 cG):=
 wx t.xf.h.fu oz λcdv A outer s H E a=>
  have b:=a.units
  (jO (lX (h_ mX (h_ G_ (h_ uV (h_ mX (qv 0) dH) dH) dH) dH)))
def cU:bF P w K mg base fW 1 t.tQ.f t.tQ.fd dz (oh mg 2 bQ):=
 wx t.tQ.h.fu lM λcdv A outer s H E a=>
  have b:=a.units
  (gd (Hj (D5 (Ke) (qv 1) (Ap Hg (by rfl) t.cb (by decide +kernel) (jM (qv 0) qa)) (bA _)) (jO (lX (Hf (pv 0) (qv 1) (λ_ _=>rfl)))) Au)
    (jO (lX dH)))
def j7:bF P w K mg base fW 1 t.yY.f t.yY.fd fR CN:=
 t.yY.h.fu.ok sc__law_rule (λ_ _ _ _ h=>BI h) λcdv A outer s H vs Q E a h=>
  have b:=a.units
  ⟨_,(av (aH (i:=4) sc__law_rule.nd rfl (Or.inl rfl) (aQ b_ (pv 0) (pv 1)))
      (av (aH (i:=0) sc__law_rule.nd rfl (Or.inl rfl) (aQ db (pv 0) (pv 1)))
      (av (aH (i:=5) sc__law_rule.nd rfl (Or.inl rfl) (aQ b_ (pv 0) (pv 2)))
      (av (aH (i:=0) sc__law_rule.nd rfl (Or.inl rfl) (aQ db (pv 0) (pv 2)))
      (av (aH (i:=6) sc__law_rule.nd rfl (Or.inl rfl) (aQ b_ (pv 0) (pv 1)))
      (av (aH (i:=0) sc__law_rule.nd rfl (Or.inl rfl) (aQ db (pv 0) (pv 1)))
      (av (aH (i:=7) sc__law_rule.nd rfl (Or.inl rfl) (aQ b_ (pv 0) ay))
      (av (aH (i:=0) sc__law_rule.nd rfl (Or.inl rfl) (aQ db (pv 0) ay))
      (av (aH (i:=8) sc__law_rule.nd rfl (Or.inl rfl) (pv 2))
      (av (cr (jA (pv 3) (λ_=>rfl)) (aB (aH (i:=8) sc__law_rule.nd rfl (Or.inl rfl) (pv 5))) bC)
      (av (cr (aY eF (pv 8) ay (bA _)) (aB (ba (bo (aa (pv 4) (aa (pv 5) (aa (pv 6) (aa (bo ao) ao))))))) bC)
      (aB (ba (bo (aa (pv 4) (aa (pv 5) (aa (pv 6) (aa (g8 EM (bo (aa (aQ b_ (pv 0) (pv 8)) (aa (aQ b_ (aQ db (pv 0) (pv 8)) (pv 8)) ao))) pJ (gp (pv 7))) ao)))))))))))))))))),EN h⟩
def oC:bF P w K mg base fW 2 t.Do.f t.Do.fd eV (Ct cG bQ):=
 t.Do.h.fu.ok sc__law_rules (λ_ _ _ _ h=>BK h) λcdv A outer s H vs Q E a h=>
  have b:=a.units
  ⟨_,(av (aH (i:=4) sc__law_rules.nd rfl (Or.inl rfl) (aQ b_ (aQ db (aS (f7 t) (a.mono (by decide)) rfl t.xf.h.gl t.xf.h.fu.kp t.xf.h.bi .nil be (aa (aS (cU t) (a.mono (by decide)) rfl t.tQ.h.gl t.tQ.h.fu.kp t.tQ.h.bi .nil be (aa (pv 0) (aa ay ao))) ao)) ay) ay))
      (av (aH (i:=5) sc__law_rules.nd rfl (Or.inl rfl) (aQ op_add (aQ b_ (aS (cU t) (a.mono (by decide)) rfl t.tQ.h.gl t.tQ.h.fu.kp t.tQ.h.bi .nil be (aa (pv 0) (aa ay ao))) ay) ay))
      (av (aH (i:=6) sc__law_rules.nd rfl (Or.inl rfl) (bH ao))
      (av (b5 Rz rfl (iA (by rfl) t.km (aa (aQ gn (pv 1) (pv 2)) ao)) (aI (i:=7) sc__law_rules.nd rfl (Or.inl rfl)) (av (aH (i:=5) sc__law_rules.nd rfl (Or.inl rfl) (aQ b_ (aQ op_add (aQ op_add (aQ gn (pv 5) (pv 5)) (aQ gn ay (pv 5))) (pv 7)) ay))
      (aB (cr (aY rq (aQ b_ (pv 5) ay) ay (bA _)) (aB (bh (cw Rp RP RQ bP (pv 6) (aa (aS (j7 t) (a.mono (by decide)) rfl t.yY.h.gl t.yY.h.fu.kp t.yY.h.bi .nil be (aa (aQ op_add (aQ gn (aQ gn (aQ db (pv 5) ay) (pv 1)) (pv 2)) (pv 7)) (aa (pv 1) (aa (pv 2) (aa (jz rA (pv 4) ay (bA _)) ao))))) ao)))) bC))))
      (av (b5 Rz rfl (bK (g8 lS (pv 0) (gp ay) (gp (aQ op_add ay (pv 3))))) (aI (i:=8) sc__law_rules.nd rfl (Or.inl rfl)) (av (aH (i:=9) sc__law_rules.nd rfl (Or.inl rfl) (JU (jz eF (pv 4) ay (bA _)) (uf (zj (jz eF (pv 4) ay (bA _)) (uf (jz rq (aQ b_ (pv 8) ay) ay (bA _)))))))
      (aB (bh (cw Rp RP RQ bP (pv 6) (aa (aS (j7 t) (a.mono (by decide)) rfl t.yY.h.gl t.yY.h.fu.kp t.yY.h.bi .nil be (aa (aQ b_ (aQ gn (aQ op_add (aQ b_ (pv 8) ay) ay) ay) ay) (aa (pv 1) (aa (pv 2) (aa (ug (pv 9)) ao))))) ao))))))
      (aB (ba (pv 6)))))))),EQ h⟩
def oE:bF P w K mg base fW 1 t.C7.f t.C7.fd eY CC:=
 t.C7.h.fu.ok sc__law_stack (λ_ _ _ _ h=>BJ h) λcdv A outer s H vs Q E a h=>
  have b:=a.units
  ⟨_,(av (aH (i:=2) sc__law_stack.nd rfl (Or.inl rfl) (aQ b_ (aQ db (pv 0) ay) ay))
      (av (aH (i:=3) sc__law_stack.nd rfl (Or.inl rfl) (bH ao))
      (av (b5 Rz rfl (iA (by rfl) t.km (aa (aQ b_ (pv 0) ay) ao)) (aI (i:=4) sc__law_stack.nd rfl (Or.inl rfl)) (av (aH (i:=2) sc__law_stack.nd rfl (Or.inl rfl) (aQ b_ (aQ op_add (aQ op_add (aQ gn (pv 2) ay) (aQ gn (pv 4) (pv 4))) ay) ay))
      (aB (bh (cw Rp RP RQ bP (pv 3) (aa (aQ b_ (aQ db (pv 2) ay) (pv 1)) ao))))))
      (aB (ba (pv 3)))))),EO h⟩
def IW:((["_law_rule_here"]:List Str)++(["_law_room","_law_stack_here"]:List Str)).Nodup:=by decide +kernel
def tj:bF P w K mg base fW 1 t.Dq.f t.Dq.fd gE CM:=
 t.Dq.h.fu.ok sc__law_run (λ_ _ _ _ h=>BO h) λcdv A outer s H vs Q E a h=>
  have b:=a.units
  ⟨_,(av (aH (i:=4) sc__law_run.nd rfl (Or.inl rfl) (bH (aa (bo (aa (pv 1) (aa (pv 2) ao))) ao)))
      (av (b5 Rz rfl (bK (pv 3)) (aI (i:=5) sc__law_run.nd rfl (Or.inl rfl)) (av (aH (i:=6) sc__law_run.nd rfl (Or.inl rfl) (bH ao))
      (av (cr (aY rA (aR bv (by rfl) t.cb R5 (aa (pv 2) ao)) ay (bA _)) (aB (jX (i:=6) (tN:=["_law_rule_here"]) (capN:=["_law_room","_law_stack_here"]) (caps:=[1,2]) rfl (cj.of (osc:=aD gD) (N:=N__law_run) rfl rfl (by decide +kernel)) sc__law_run.nd rfl rfl (bK (pv 0)))) bC)
      (aB (cr (aY rA (aR bv (by rfl) t.cb R5 (aa (pv 6) ao)) ay (bA _)) (av (aH (i:=7) sc__law_run.nd rfl (Or.inl rfl) (aN ix_list (pv 6) (aQ b_ (pv 5) (aR bv (by rfl) t.cb R5 (aa (pv 6) ao))) (λ_ _=>rfl)))
      (av (aH (i:=1) sc__law_run.nd rfl (Or.inr rfl) (aN ix_tup (pv 7) ay (λ_ _=>rfl)))
      (av (aH (i:=2) sc__law_run.nd rfl (Or.inr rfl) (aQ zF (bX gz (by rfl) t.iQ (by decide +kernel) (aa (aN ix_tup (pv 7) ay (λ_ _=>rfl)) ao)) (g8 lS (pv 2) (gp ay) pJ)))
      (aB (bh (cw Rp RP RQ bP (pv 4) (aa (bo (aa (pv 1) (aa (pv 2) ao))) ao))))))) bC)))))
      (aB (ba (pv 4))))),ET ⟨rfl,rfl,λ_ _ _ _ _=>aI (i:=0) IW rfl (Or.inl rfl),λ_ _ _ _ _=>lY (PW.pt (ud (aY eF (aN ix_tup (pv 0) ay (λ_ _=>rfl)) (pv 1) (bA _)) (pH (aY eF (aN ix_tup (pv 0) ay (λ_ _=>rfl)) (aN ix_list (pv 2) ay (λ_ _=>rfl)) (bA _))))),λ_ _ _ _ _=>pv 0⟩ h⟩
def tp:bF P w K mg base fW 1 t.Di.f t.Di.fd gG Cs:=t.Di.h.fu.ok sZ (λ_ _ _ _ h=>BR h) λcdv A outer s H vs Q E a h=>⟨_,aB (ba (aR (yK rfl) (by rfl) t.Jv (by decide +kernel) (aa (d5 (tN:=["arrow"]) (capN:=["house"]) (caps:=[0]) rfl (cj.of (osc:=aD gF) (N:=N_is_plain) rfl rfl (by decide +kernel)) (bK (aN ix_tup (pv 1) ay (λ_ _=>rfl)))) ao))),EX h⟩
def gN:bF P w K mg base fW 2 t.Dk.f t.Dk.fd bU (oh mg 2 bV):=t.Dk.h.fu.ok gH (λ_ _ _ _ h=>h.1) λcdv A outer s H vs Q E a h=>⟨_,aB (cr (je (ku (aS (tp t) (a.mono (by decide)) rfl t.Di.h.gl t.Di.h.fu.kp t.Di.h.bi .nil be (aa (pv 0) (aa (pv 1) ao))))) Ip bC),EY h⟩
def MB:bF P w K mg base fW 1 t.Js.f t.Js.fd ["self"] (kg t.CQ):=t.Js.h.fu.ok Mx (λ_ _ _ _ h=>sG h) λcdv A outer s H vs Q E a h=>⟨_,av (g7 (pv 0) ay rfl) (aB (g7 (pv 0) zL rfl)),u_ t.kQ h⟩
def F_:bF P w K mg base fW 1 t.Fq.f t.Fq.fd ["self","price","thing"] (pE t.CQ):=
 t.Fq.h.fu.ok My (λ_ _ _ _ h=>yl h) λcdv A outer s H vs Q E a h=>
  ⟨_,aB (bh (cw Rp RP RQ bP (cw RV RY Sr DF (cn (pv 0) rfl)
    (aa (pP PySem.F.plainAttrs_int PySem.F.slot_int_bit_length PySem.F.type_int_bit_length Eh (aQ Gy (pv 1) (cn (pv 0) rfl))) (aa (bH ao) ao))) (aa (bo (aa (pv 1) (aa (pv 2) ao))) ao))),AL t.kQ h rfl⟩
def MC:bF P w K mg base fW 1 t.Jn.f t.Jn.fd ["self"] (kd t.CQ):=t.Jn.h.fu.ok Mz (λ_ _ _ _ h=>sI h) λcdv A outer s H vs Q E a h=>⟨_,aB (ba (jz eF (aR yn (by rfl) t.cb R5 (aa (cn (pv 0) rfl) ao)) ay (bA _))),vc t.kQ h⟩
def tq:bF P w K mg base fW 2 t.vK.f t.vK.fd ["self","arrow","price","number","mid"] (dM t.CP t.CQ):=
 t.vK.h.fu.ok sc_PO (λ_ _ _ _ h=>sJ h) λcdv A outer s H vs Q E a h=>
  ⟨_,av (aH (i:=5) sc_PO.nd rfl (Or.inl rfl) (zM (dh a) (cn (pv 0) rfl) (pv 1) ⟨rfl,rfl,rfl,rfl⟩))
    (aB (cr (PW.pt (mn (aY HC (pv 5) kr (bA _)) (kz (aY rq (pv 2) (aN ix_tup (pv 5) ay (λ_ _=>rfl)) (bA _)))))
      (av (lT (dh a) (cn (pv 0) rfl) (pv 1) (bo (aa (pv 2) (aa (pv 3) (aa (pv 4) ao)))) rfl)
        (aB (bh (eL (cn (pv 0) rfl) t.kQ.cl t.Fq.h.me (F_ t) a t.Fq.h.bi .nil be (aa (pv 2) (aa (pv 1) ao))))))
      bC)),ve t.kP t.kQ h⟩
def B6:((["price","thing"]:List Str)++([]:List Str)).Nodup:=by decide +kernel
def ME:bF P w K mg base fW 2 t.Jk.f t.Jk.fd ["self"] (nT t.CQ):=
 t.Jk.h.fu.ok sc_QT (λ_ _ _ _ h=>vd h) λcdv A outer s H vs Q E a h=>
  ⟨_,av (aH (i:=1) sc_QT.nd rfl (Or.inl rfl) (rE (cn (pv 0) rfl) (aR (ym rfl) (by rfl) t.Cp (by decide +kernel) (aa (pP RV PySem.F.slot_dict_keys PySem.F.type_dict_keys Ei (cn (pv 0) rfl)) ao)) ⟨rfl,rfl,rfl,rfl⟩))
    (av (g7 (pv 0) (aR (yu rfl) (by rfl) t.Cp (by decide +kernel) (aa (d5 (tN:=["price","thing"]) (capN:=[]) (caps:=[]) rfl (cj.of (osc:=aD E7) (N:=["self","pile","price","thing"]) rfl rfl (by decide +kernel)) (bK (pv 1))) ao)) rfl)
    (av (b5 Rz rfl (bK (pv 1)) (dF rfl (aU (aI (i:=2) sc_QT.nd rfl (Or.inl rfl)) (aU (aI (i:=3) sc_QT.nd rfl (Or.inl rfl)) cE)))
      (aB (bh (eL (pv 0) t.kQ.cl t.Fq.h.me (F_ t) a t.Fq.h.bi .nil be (aa (pv 2) (aa (pv 3) ao))))))
    (aB (ba (rE (cn (pv 0) rfl) ay ⟨rfl,rfl,rfl,rfl⟩))))),
    yo t.kQ (λ_ _=>rfl) (yv rfl (λ_ _ _ _ _=>dF rfl (aU (aI (i:=0) B6 rfl (Or.inl rfl)) (aU (aI (i:=1) B6 rfl (Or.inl rfl)) cE))) λ_ _ _ _ _=>pv 0) h⟩
def MF:bF P w K mg base fW 3 t.Jx.f t.Jx.fd ["self","number","rule","mid","price"] (ko t.CP t.CQ):=
 t.Jx.h.fu.ok sc_PF (λ_ _ _ _ h=>sL h) λcdv A outer s H vs Q E a h=>
  ⟨_,av (aH (i:=5) sc_PF.nd rfl (Or.inl rfl) (bo (aa (pv 3) (aa (aN ix_tup (aN ix_tup (pv 2) ay (λ_ _=>rfl)) ay (λ_ _=>rfl)) ao))))
    (av (bh (cw Rp RP RQ bP (cw RV RY Sr (gb a.units) (cn (pv 0) rfl) (aa (pv 5) (aa (bH ao) ao))) (aa (bo (aa (pv 1) (aa (pv 2) (aa (pv 4) ao)))) ao)))
    (aB (b5 Rz rfl (bK (dY (dh a) (cn (pv 0) rfl) (pv 5) (bH ao) ⟨rfl,rfl,rfl,rfl⟩)) (dF rfl (aU (aI (i:=6) sc_PF.nd rfl (Or.inl rfl)) (aU (aI (i:=7) sc_PF.nd rfl (Or.inl rfl)) cE)))
      (aB (bh (eL (pv 0) t.kP.cl t.vK.h.me (tq t) a t.vK.h.bi .nil be (aa (bo (aa (aN ix_tup (pv 2) ay (λ_ _=>rfl)) (aa (aN ix_tup (pv 2) ay (λ_ _=>rfl)) (aa (pv 6) ao))))
        (aa (aQ op_add (aQ op_add (pv 4) (pv 7)) ay) (aa (pv 1) (aa (pv 3) ao)))))))))),vf t.kP h⟩
def MG:bF P w K mg base fW 4 t.Jp.f t.Jp.fd ["self","arrow","price"] (iz t.CP t.CQ):=
 t.Jp.h.fu.ok sc_PS (λ_ _ _ _ h=>qy h) λcdv A outer s H vs Q E a h=>
  have b:c9 2 _:=a.mono (by decide)
  ⟨_,av (aH (i:=3) sc_PS.nd rfl (Or.inl rfl) (bo (aa (aN ix_tup (pv 1) ay (λ_ _=>rfl)) (aa (aN ix_tup (pv 1) ay (λ_ _=>rfl)) ao))))
    (av (bh (cw Rp RP RQ bP (cw RV RY Sr (gb a.units) (cn (pv 0) rfl) (aa (pv 3) (aa (bH ao) ao))) (aa (bo (aa (aN ix_tup (pv 1) ay (λ_ _=>rfl)) (aa (pv 2) ao))) ao)))
    (av (b5 Rz rfl (bK (dY (dh a) (cn (pv 0) rfl) (pv 3) (bH ao) ⟨rfl,rfl,rfl,rfl⟩)) (dF rfl (aU (aI (i:=4) sc_PS.nd rfl (Or.inl rfl)) (aU (aI (i:=5) sc_PS.nd rfl (Or.inl rfl)) (aU (aI (i:=6) sc_PS.nd rfl (Or.inl rfl)) cE))))
      (aB (bh (eL (pv 0) t.kP.cl t.vK.h.me (tq t) b t.vK.h.bi .nil be (aa (bo (aa (aN ix_tup (pv 5) ay (λ_ _=>rfl)) (aa (aN ix_tup (pv 5) ay (λ_ _=>rfl)) (aa (aN ix_tup (pv 1) ay (λ_ _=>rfl)) ao))))
        (aa (aQ op_add (aQ op_add (pv 6) (pv 2)) ay) (aa (pv 4) (aa (aN ix_tup (pv 1) ay (λ_ _=>rfl)) ao))))))))
    (aB (b5 Rz rfl (bK (dY (dh a) (cn (pv 0) rfl) (pv 3) (bH ao) ⟨rfl,rfl,rfl,rfl⟩)) (dF rfl (aU (aI (i:=4) sc_PS.nd rfl (Or.inl rfl)) (aU (aI (i:=5) sc_PS.nd rfl (Or.inl rfl)) cE)))
      (aB (cr (aY eF (aR bv (by rfl) t.cb R5 (aa (aN ix_tup (pv 5) ay (λ_ _=>rfl)) ao)) ay (bA _))
        (aB (bh (eL (pv 0) t.kP.cl t.vK.h.me (tq t) b t.vK.h.bi .nil be (aa (bo (aa (aN ix_tup (pv 5) ay (λ_ _=>rfl)) (aa (aN ix_tup (pv 5) ay (λ_ _=>rfl)) (aa (aN ix_tup (pv 1) ay (λ_ _=>rfl)) ao))))
          (aa (aQ op_add (pv 2) ay) (aa (pv 4) (aa kr ao)))))))
        (aB (bh (eL (pv 0) t.kP.cl t.Jx.h.me (MF t) a t.Jx.h.bi .nil be (aa (pv 4) (aa (pv 5) (aa (aN ix_tup (pv 1) ay (λ_ _=>rfl)) (aa (pv 2) ao))))))))))))),sM t.kP h⟩
def MH:bF P w K mg base fW 5 t.Jz.f t.Jz.fd ["self"] (tJ t.CP t.CQ):=
 t.Jz.h.fu.ok sc_PA (λ_ _ _ _ h=>yp h) λcdv A outer s H vs Q E a h=>
  ⟨_,aB (g6 Rz (je (ku (mw (cn (pv 0) rfl) t.kQ.cl t.Jn.h.me (MC t) (a.mono (by decide)) t.Jn.h.bi .nil be)))
    (aB (b5 Rz rfl (bK (mw (cn (pv 0) rfl) t.kQ.cl t.Jk.h.me (ME t) (a.mono (by decide)) t.Jk.h.bi .nil be)) (dF rfl (aU (aI (i:=1) sc_PA.nd rfl (Or.inl rfl)) (aU (aI (i:=2) sc_PA.nd rfl (Or.inl rfl)) cE)))
      (aB (cr (aY eF (aN ix_tup (iC (dh a) (cn (pv 0) rfl) (pv 2) (λ_ _=>rfl)) ay (λ_ _=>rfl)) (pv 1) (bA _))
        (aB (bh (eL (pv 0) t.kP.cl t.Jp.h.me (MG t) a t.Jp.h.bi .nil be (aa (pv 2) (aa (pv 1) ao))))) bC))))),AU t.kP h⟩
def j8:bF P w K mg base fW 1 t.C8.f t.C8.fd ["house"] CD:=
 t.C8.h.fu.ok sc_rules_by_start (λ_ _ _ _ h=>AV h) λcdv A outer s H vs Q E a h=>
  ⟨_,av (aH (i:=1) sc_rules_by_start.nd rfl (Or.inl rfl) de)
    (av (b5 Rz rfl (wz rfl t.ke (aa (aN ix_tup (pv 0) ay (λ_ _=>rfl)) ao)) (dF rfl (aU (aI (i:=2) sc_rules_by_start.nd rfl (Or.inl rfl)) (aU (aI (i:=3) sc_rules_by_start.nd rfl (Or.inl rfl)) cE)))
      (aB (cr (aY rA (aR bv (by rfl) t.cb R5 (aa (aN ix_tup (pv 3) ay (λ_ _=>rfl)) ao)) ay (bA _))
        (aB (bh (cw Rp RP RQ bP (cw RV RY Sr (gb a.units) (pv 1)
          (aa (bo (aa (aN ix_tup (pv 3) ay (λ_ _=>rfl)) (aa (aN ix_tup (aN ix_tup (pv 3) ay (λ_ _=>rfl)) ay (λ_ _=>rfl)) ao))) (aa (bH ao) ao))) (aa (bo (aa (pv 2) (aa (pv 3) ao))) ao)))) bC)))
    (aB (ba (pv 1)))),Er h⟩
def MI:bF P w K mg base fW 3 t.Jq.f t.Jq.fd ["self","house"] (kf t.CP t.CQ):=
 t.Jq.h.fu.ok MA (λ_ _ _ _ h=>sN h) λcdv A outer s H vs Q E a h=>
  ⟨_,av (g7 (pv 0) (aS (j8 t) (a.mono (by decide)) rfl t.C8.h.gl t.C8.h.fu.kp t.C8.h.bi .nil be (aa (pv 1) ao)) rfl)
    (av (g7 (pv 0) de rfl) (av (g7 (pv 0) (zv t.Jl (MB t) a rfl t.gQ t.Js.h.bi .nil be) rfl) (av (g7 (pv 0) de rfl) (aB (g7 (pv 0) de rfl))))),vh t.kP h⟩
def yN:bF P w K mg base fW 6 t.Dm.f t.Dm.fd j1 (oh mg 2 cS):=
 t.Dm.h.fu.ok sc_prices (λ_ _ _ _ h=>h.1) λcdv A outer s H vs Q E b h=>
  have a:c9 2 _:=b.mono (by decide)
  ⟨_,av (bh (aS (gN t) (b.mono (by decide)) rfl t.Dk.h.gl t.Dk.h.fu.kp t.Dk.h.bi .nil Ay (aa (pv 0) (aa (pv 1) ao))))
    (av (aH (i:=2) sc_prices.nd rfl (Or.inl rfl) (DA t.Ji (MI t) (b.mono (by decide)) rfl t.gP t.Jq.h.bi .nil be (aa (pv 0) ao)))
    (av (b5 Rz rfl (bK (aN ix_tup (pv 1) ay (λ_ _=>rfl))) (aI (i:=3) sc_prices.nd rfl (Or.inl rfl)) (aB (bh (eL (pv 2) t.kP.cl t.vK.h.me (tq t) a t.vK.h.bi .nil be (aa (pv 3) (aa ay (aa kr (aa kr ao))))))))
    (av (b5 Rz rfl (wz rfl t.ke (aa (aN ix_tup (pv 0) ay (λ_ _=>rfl)) ao)) (dF rfl (aU (aI (i:=4) sc_prices.nd rfl (Or.inl rfl)) (aU (aI (i:=5) sc_prices.nd rfl (Or.inl rfl)) cE)))
      (aB (cr (aY eF (aR bv (by rfl) t.cb R5 (aa (aN ix_tup (pv 5) ay (λ_ _=>rfl)) ao)) ay (bA _))
        (aB (bh (eL (pv 2) t.kP.cl t.vK.h.me (tq t) a t.vK.h.bi .nil be (aa (bo (aa (aN ix_tup (pv 5) ay (λ_ _=>rfl)) (aa (aN ix_tup (pv 5) ay (λ_ _=>rfl)) (aa (aN ix_tup (pv 5) ay (λ_ _=>rfl)) ao))))
          (aa ay (aa (pv 4) (aa kr ao))))))) bC)))
    (av (bh (mw (pv 2) t.kP.cl t.Jz.h.me (MH t) b t.Jz.h.bi .nil be))
    (aB (ba (cn (pv 2) rfl))))))),sQ t.kP h⟩
def B7:((["arrow","price"]:List Str)++([]:List Str)).Nodup:=by decide +kernel
def B8:bF P w K mg base fW 7 t.C3.f t.C3.fd ma (jw cS):=
 t.C3.h.fu.ok sc_pairs (λ_ _ _ _ h=>BQ h) λcdv A outer s H vs Q E a h=>
  have b:=a.units
  ⟨_,(av (aH (i:=1) sc_pairs.nd rfl (Or.inl rfl) (aS (yN t) (a.mono (by decide)) rfl t.Dm.h.gl t.Dm.h.fu.kp t.Dm.h.bi .nil be (aa (pv 0) (aa (bo (aa (aN ix_tup (pv 0) ay (λ_ _=>rfl)) (aa (bH ao) (aa (bH ao) ao)))) ao))))
      (aB (ba (bX (gy rfl b) (by rfl) t.mj (by decide +kernel) (aa (d5 (tN:=["arrow","price"]) (capN:=[]) (caps:=[]) rfl (cj.of (osc:=aD l_) (N:=wY) rfl rfl (by decide +kernel)) (iG (pv 1))) ao))))),EV rfl (λ_ _ _ _ _=>dF rfl (aU (aI (i:=0) B7 rfl (Or.inl rfl)) (aU (aI (i:=1) B7 rfl (Or.inl rfl)) cE))) (λ_ _ _ _ _=>(bo (aa (pv 0) (aa (aN ix_tup (pv 1) ay (λ_ _=>rfl)) ao)))) h⟩
def vy:bF P w K mg base fW 1 t.C6.f t.C6.fd iP nU:=t.C6.h.fu.ok vx (λ_ _ _ _ h=>vi h) λcdv A outer s H vs Q E a h=>⟨_,aB (ba (bo (aa (aN ix_tup (pv 0) ay (λ_ _=>rfl)) (aa (aN ix_tup (pv 0) ay (λ_ _=>rfl)) ao)))),yw h⟩
def IX:((["room"]:List Str)++(["put"]:List Str)).Nodup:=by decide +kernel
def tD:bF P w K mg base fW 1 t.Dh.f t.Dh.fd gJ Cy:=
 t.Dh.h.fu.ok sc_heads_by (λ_ _ _ _ h=>A6 h) λcdv A outer s H vs Q E a h=>
  ⟨_,av (aH (i:=2) sc_heads_by.nd rfl (Or.inr rfl) (aN ix_tup (pv 0) ay (λ_ _=>rfl)))
    (av (cr (aY eF (aR bv (by rfl) t.cb R5 (aa (pv 2) ao)) ay (bA _)) (aB (ba (bH ao))) bC)
    (av (aH (i:=3) sc_heads_by.nd rfl (Or.inl rfl) (bo (aa (aN ix_tup (pv 0) ay (λ_ _=>rfl)) (aa (aN ix_tup (pv 2) ay (λ_ _=>rfl)) ao))))
    (av (cr (aY eF (aR bv (by rfl) t.cb R5 (aa (pv 2) ao)) ay (bA _)) (aB (ba (bH (aa (pv 3) ao)))) bC)
    (aB (ba (aQ zF (bH (aa (pv 3) ao)) (d5 (tN:=["room"]) (capN:=["put"]) (caps:=[2]) rfl (cj.of (osc:=aD gI) (N:=N_heads_by) rfl rfl (by decide +kernel)) (bK (dY (dh a) (pv 1) (pv 3) (bH ao) ⟨rfl,rfl,rfl,rfl⟩))))))))),
    Ew rfl rfl (λ_ _ _ _ _=>aI (i:=0) IX rfl (Or.inl rfl)) (λ_ _ _ _ _=>bo (aa (pv 0) (aa (aN ix_tup (pv 1) ay (λ_ _=>rfl)) ao))) h⟩
def gS:bF P w K mg base fW 8 t.yS.f t.yS.fd dC (yU (jw cS)):=
 t.yS.h.fu.ok sc_rooms_behind (λ_ _ _ _ h=>A7 h) λcdv A outer s H vs Q E a h=>
  ⟨_,av (aH (i:=1) sc_rooms_behind.nd rfl (Or.inl rfl) de)
    (av (mE (b5 Rz rfl (nF (aS (B8 t) (a.mono (by decide)) rfl t.C3.h.gl t.C3.h.fu.kp t.C3.h.bi .nil be (aa (pv 0) ao))) (dF rfl (aU (aI (i:=2) sc_rooms_behind.nd rfl (Or.inl rfl)) (aU (aI (i:=3) sc_rooms_behind.nd rfl (Or.inl rfl)) (aU (aI (i:=4) sc_rooms_behind.nd rfl (Or.inl rfl)) cE))))
      (aB (bh (cw Rp RP RQ bP (cw RV RY Sr (gb a.units) (pv 1) (aa (bo (aa (pv 2) (aa (pv 3) ao))) (aa (bH ao) ao))) (aa (pv 4) ao))))))
    (aB (ba (pv 1)))),Ex h⟩
def B9:((["head","heads"]:List Str)++([]:List Str)).Nodup:=by decide +kernel
def fH:bF P w K mg base fW 2 t.yT.f t.yT.fd cB yV:=
 t.yT.h.fu.ok sc_head_steps_with (λ_ _ _ _ h=>Ba h) λcdv A outer s H vs Q E a h=>
  have b:=a.units
  ⟨_,av (aH (i:=2) sc_head_steps_with.nd rfl (Or.inl rfl) de)
    (av (b5 Rz rfl (bK (aN ix_tup (pv 0) ay (λ_ _=>rfl))) (aI (i:=3) sc_head_steps_with.nd rfl (Or.inl rfl))
      (aB (bh (cw Rp TL TN iB (cw RV RY Sr (gb b) (pv 2) (aa (aS (vy t) a rfl t.C6.h.gl t.C6.h.fu.kp t.C6.h.bi .nil be (aa (pv 3) ao)) (aa (bH ao) ao))) (aa (aS (tD t) a rfl t.Dh.h.gl t.Dh.h.fu.kp t.Dh.h.bi .nil be (aa (pv 3) (aa (pv 1) ao))) ao)))))
    (aB (ba (bX (gy rfl b) (by rfl) t.mj (by decide +kernel) (aa (d5 (tN:=["head","heads"]) (capN:=[]) (caps:=[]) rfl (cj.of (osc:=aD cA) (N:=fS) rfl rfl (by decide +kernel)) (iG (pv 2))) ao))))),
    Ez rfl (λ_ _ _ _ _=>dF rfl (aU (aI (i:=0) B9 rfl (Or.inl rfl)) (aU (aI (i:=1) B9 rfl (Or.inl rfl)) cE))) (λ_ _ _ _ _=>bo (aa (pv 0) (aa (aR (yx rfl) (by rfl) t.k9 (by decide +kernel) (aa (bX (pA rfl b) (by rfl) t.vI (by decide +kernel) (aa (pv 1) ao)) ao)) ao))) h⟩
def oF:bF P w K mg base fW 9 t.Ds.f t.Ds.fd eZ (CF (jw cS)):=t.Ds.h.fu.ok oA (λ_ _ _ _ h=>Bc h) λcdv A outer s H vs Q E a h=>⟨_,aB (ba (aS (fH t) (a.mono (by decide)) rfl t.yT.h.gl t.yT.h.fu.kp t.yT.h.bi .nil be (aa (pv 0) (aa (aS (gS t) (a.mono (by decide)) rfl t.yS.h.gl t.yS.h.fu.kp t.yS.h.bi .nil be (aa (pv 0) ao)) ao)))),EA h⟩
def IY:((["room"]:List Str)++(["sign"]:List Str)).Nodup:=by decide +kernel
def qG:bF P w K mg base fW 1 t.Dn.f t.Dn.fd fU tM:=
 t.Dn.h.fu.ok sc_own_heads (λ_ _ _ _ h=>yC h) λcdv A outer s H vs Q E a h=>
  ⟨_,av (aH (i:=2) sc_own_heads.nd rfl (Or.inl rfl) (bH ao))
    (av (aH (i:=3) sc_own_heads.nd rfl (Or.inl rfl) (bH (aa (aN ix_tup (pv 1) ay (λ_ _=>rfl)) ao)))
    (av (b5 Rz rfl (bK (aN ix_tup (pv 1) ay (λ_ _=>rfl))) (aI (i:=4) sc_own_heads.nd rfl (Or.inr rfl))
      (av (jX (i:=5) (tN:=["room"]) (capN:=["sign"]) (caps:=[4]) rfl (cj.of (osc:=aD fT) (N:=N_own_heads) rfl rfl (by decide +kernel)) sc_own_heads.nd rfl rfl (bK (pv 3)))
      (av (bh (cw Rp TL TN iB (pv 2) (aa (pv 5) ao)))
      (av (aH (i:=6) sc_own_heads.nd rfl (Or.inl rfl) (bH ao))
      (av (b5 Rz rfl (bK (pv 5)) (aI (i:=7) sc_own_heads.nd rfl (Or.inl rfl)) (aB (bh (cw Rp TL TN iB (pv 6) (aa (dY (dh a) (pv 0) (pv 7) (bH ao) ⟨rfl,rfl,rfl,rfl⟩) ao)))))
      (aB (aH (i:=3) sc_own_heads.nd rfl (Or.inl rfl) (aR (vq rfl) (by rfl) t.k9 (by decide +kernel) (aa (bX (vp rfl) (by rfl) t.vI (by decide +kernel) (aa (pv 6) ao)) ao)))))))))
    (aB (ba (pv 2))))),
    Bn rfl rfl (λ_ _ _ _ _=>aI (i:=0) IY rfl (Or.inl rfl)) (λ_ _ _ _ _=>bo (aa (pv 0) (aa (pv 1) ao))) h⟩
def ip:bF P w K mg base fW 9 t.y8.f t.y8.fd dL (y_ (jw cS)):=
 t.y8.h.fu.ok sc_steps_among (λ_ _ _ _ h=>Bp h) λcdv A outer s H vs Q E a h=>
  have b:=a.units
  ⟨_,av (aH (i:=2) sc_steps_among.nd rfl (Or.inl rfl) (aS (gS t) (a.mono (by decide)) rfl t.yS.h.gl t.yS.h.fu.kp t.yS.h.bi .nil be (aa (pv 0) ao)))
    (av (aH (i:=3) sc_steps_among.nd rfl (Or.inl rfl) (aS (fH t) (a.mono (by decide)) rfl t.yT.h.gl t.yT.h.fu.kp t.yT.h.bi .nil be (aa (pv 0) (aa (pv 2) ao))))
    (av (aH (i:=4) sc_steps_among.nd rfl (Or.inl rfl) de)
    (av (aH (i:=5) sc_steps_among.nd rfl (Or.inl rfl) (aS (qG t) (a.mono (by decide)) rfl t.Dn.h.gl t.Dn.h.fu.kp t.Dn.h.bi .nil be (aa (pv 2) (aa (pv 1) ao))))
    (av (g6 Rz (jA (pv 5) (λ_=>rfl))
      (av (aH (i:=6) sc_steps_among.nd rfl (Or.inl rfl) (pP Rp PySem.F.slot_list_pop PySem.F.type_list_pop zE (pv 5)))
      (aB (cr (aY (iI b) (pv 6) (pv 4) rfl)
        (av (lT (dh a) (pv 4) (pv 6) (dY (dh a) (pv 3) (pv 6) (bH ao) ⟨rfl,rfl,rfl,rfl⟩) rfl)
        (aB (bh (cw Rp TL TN iB (pv 5) (aa (iC (dh a) (pv 4) (pv 6) (λ_ _=>rfl)) ao))))) bC))))
    (aB (ba (pv 4))))))),ED h⟩
def tE:bF P w K mg base fW 10 t.Dd.f t.Dd.fd gL (Co (jw cS)):=t.Dd.h.fu.ok s_ (λ_ _ _ _ h=>Bq h) λcdv A outer s H vs Q E a h=>⟨_,aB (ba (aR (yB rfl) (by rfl) t.k9 (by decide +kernel) (aa (aS (ip t) (a.mono (by decide)) rfl t.y8.h.gl t.y8.h.fu.kp t.y8.h.bi .nil be (aa (pv 0) (aa (pv 1) ao))) ao))),EF h⟩
def IZ:((["thing"]:List Str)++([]:List Str)).Nodup:=by decide +kernel
def yO:bF P w K mg base fW 1 t.Dg.f t.Dg.fd j4 Cq:=t.Dg.h.fu.ok yM (λ_ _ _ _ h=>Bt h) λcdv A outer s H vs Q E a h=>⟨_,aB (ba (bX (gy rfl a.units) (by rfl) t.mj (by decide +kernel) (aa (d5 (tN:=["thing"]) (capN:=[]) (caps:=[]) rfl (cj.of (osc:=aD j3) (N:=tf) rfl rfl (by decide +kernel)) (bK (pv 0))) ao))),EG rfl (λ_ _ _ _ _=>aI (i:=0) IZ rfl (Or.inl rfl)) (λ_ _ _ _ _=>bo (aa (pv 0) (aa iZ ao))) h⟩
def xa:((["head","ahead"]:List Str)++([]:List Str)).Nodup:=by decide +kernel
def E8:((["head"]:List Str)++(["left"]:List Str)).Nodup:=by decide +kernel
def iV:bF P w K mg base fW 2 t.C0.f t.C0.fd cg CB:=
 t.C0.h.fu.ok sc_coming_to_an_end (λ_ _ _ _ h=>Bz h) λcdv A outer s H vs Q E a h=>
  have b:=a.units
  ⟨_,av (mE (aH (i:=1) sc_coming_to_an_end.nd rfl (Or.inr rfl) (bX (gy rfl b) (by rfl) t.mj (by decide +kernel) (aa (d5 (tN:=["head","ahead"]) (capN:=[]) (caps:=[]) rfl (cj.of (osc:=aD bR) (N:=cY) rfl rfl (by decide +kernel)) (iG (pv 0))) ao))))
    (av (aH (i:=2) sc_coming_to_an_end.nd rfl (Or.inl rfl) de)
    (av (mE (b5 Rz rfl (iG (pv 0)) (dF rfl (aU (aI (i:=3) sc_coming_to_an_end.nd rfl (Or.inl rfl)) (aU (aI (i:=4) sc_coming_to_an_end.nd rfl (Or.inl rfl)) cE)))
      (aB (b5 Rz rfl (bK (pv 4)) (aI (i:=5) sc_coming_to_an_end.nd rfl (Or.inl rfl))
        (aB (bh (cw Rp RP RQ bP (cw RV RY Sr (gb b) (pv 2) (aa (pv 5) (aa (bH ao) ao))) (aa (pv 3) ao))))))))
    (av (mE (jX (i:=6) (tN:=["head"]) (capN:=["left"]) (caps:=[1]) rfl (cj.of (osc:=aD bR) (N:=cY) rfl rfl (by decide +kernel)) sc_coming_to_an_end.nd rfl rfl (nF (pv 0))))
    (av (aH (i:=7) sc_coming_to_an_end.nd rfl (Or.inl rfl) (bX gz (by rfl) t.iQ (by decide +kernel) (aa (pv 6) ao)))
    (av (g6 Rz (jA (pv 7) (λ_=>rfl))
      (av (aH (i:=8) sc_coming_to_an_end.nd rfl (Or.inl rfl) (pP Rp PySem.F.slot_list_pop PySem.F.type_list_pop zE (pv 7)))
      (aB (b5 Rz rfl (bK (dY (dh a) (pv 2) (pv 8) (bH ao) ⟨rfl,rfl,rfl,rfl⟩)) (aI (i:=3) sc_coming_to_an_end.nd rfl (Or.inl rfl))
        (av (lT (dh a) (pv 1) (pv 3) (aQ zn (iC (dh a) (pv 1) (pv 3) (λ_ _=>rfl)) ay) rfl)
        (aB (cr (aY eF (iC (dh a) (pv 1) (pv 3) (λ_ _=>rfl)) ay (bA _))
          (av (bh (cw Rp RP RQ bP (pv 6) (aa (pv 3) ao)))
          (aB (bh (cw Rp RP RQ bP (pv 7) (aa (pv 3) ao))))) bC)))))))
    (aB (ba (aS (yO t) (a.mono (by decide)) rfl t.Dg.h.gl t.Dg.h.fu.kp t.Dg.h.bi .nil be (aa (pv 6) ao))))))))),
    EH ⟨rfl,λ_ _ _ _ _=>dF rfl (aU (aI (i:=0) xa rfl (Or.inl rfl)) (aU (aI (i:=1) xa rfl (Or.inl rfl)) cE)),λ_ _ _ _ _=>bo (aa (pv 0) (aa (aR bv (by rfl) t.cb R5 (aa (pv 1) ao)) ao)),rfl,rfl,λ_ _ _ _ _=>aI (i:=0) E8 rfl (Or.inl rfl),λ_ _ _ _ _=>lY (aY eF (iC (dh a) (pv 1) (pv 0) (λ_ _=>rfl)) ay (bA _)),λ_ _ _ _ _=>pv 0⟩ h⟩
def E9:((["head"]:List Str)++(["ended"]:List Str)).Nodup:=by decide +kernel
def E_:((["other"]:List Str)++(["ended"]:List Str)).Nodup:=by decide +kernel
def Fa:bF P w K mg base fW 11 t.Da.f t.Da.fd qE (CJ (jw cS)):=
 t.Da.h.fu.ok sc_ring (λ_ _ _ _ h=>BC h) λcdv A outer s H vs Q E a h=>
  have b:=a.units
  ⟨_,av (aH (i:=2) sc_ring.nd rfl (Or.inl rfl) (aS (ip t) (a.mono (by decide)) rfl t.y8.h.gl t.y8.h.fu.kp t.y8.h.bi .nil be (aa (pv 0) (aa (pv 1) ao))))
    (av (aH (i:=3) sc_ring.nd rfl (Or.inr rfl) (aS (iV t) (a.mono (by decide)) rfl t.C0.h.gl t.C0.h.fu.kp t.C0.h.bi .nil be (aa (pv 2) ao)))
    (av (mE (jX (i:=4) (tN:=["head"]) (capN:=["ended"]) (caps:=[3]) rfl (cj.of (osc:=aD nO) (N:=N_ring) rfl rfl (by decide +kernel)) sc_ring.nd rfl rfl (nF (pv 2))))
    (av (cr (je (jA (pv 4) (λ_=>rfl))) (aB (ba kr)) bC)
    (av (aH (i:=5) sc_ring.nd rfl (Or.inl rfl) de)
    (av (aH (i:=6) sc_ring.nd rfl (Or.inl rfl) (aN ix_list (pv 4) ay (λ_ _=>rfl)))
    (av (g6 Rz (aY (iI b) (pv 6) (pv 5) rfl)
      (av (lT (dh a) (pv 5) (pv 6) iZ rfl)
      (aB (aH (i:=6) sc_ring.nd rfl (Or.inl rfl) (aN ix_list (d5 (tN:=["other"]) (capN:=["ended"]) (caps:=[3]) rfl (cj.of (osc:=aD nO) (N:=N_ring) rfl rfl (by decide +kernel)) (bK (iC (dh a) (pv 2) (pv 6) (λ_ _=>rfl)))) ay (λ_ _=>rfl))))))
    (av (aH (i:=7) sc_ring.nd rfl (Or.inl rfl) (bX (vn rfl) (by rfl) t.iQ (by decide +kernel) (aa (pv 5) ao)))
    (aB (ba (g8 lS (pv 7) (gp (cw Rp PySem.F.slot_list_index PySem.F.type_list_index (Hm b) (pv 7) (aa (pv 6) ao))) pJ)))))))))),
    EK ⟨rfl,rfl,λ_ _ _ _ _=>aI (i:=0) E9 rfl (Or.inl rfl),λ_ _ _ _ _=>lY (aY (iI b) (pv 0) (pv 1) rfl),λ_ _ _ _ _=>pv 0⟩ ⟨rfl,rfl,λ_ _ _ _ _=>aI (i:=0) E_ rfl (Or.inl rfl),λ_ _ _ _ _=>lY (aY (iI b) (pv 0) (pv 1) rfl),λ_ _ _ _ _=>pv 0⟩ h⟩
def jc:bF P w K mg base fW 1 t.yW.f t.yW.fd e9 (oh mg 1 j6):=
 wx t.yW.h.fu oB λcdv A outer s H E a=>
  have b:=a.units
  (jO (lX (He (AB Az (by rfl) t.dN (by rfl) t.Jt (by decide +kernel) (qv 0)) (Hd (Hc (AB xY (by rfl) t.dN (by rfl) t.Fv (by decide +kernel) (qv 0)))))))
def O4:LH j6:=λ_=>rfl
def lN:bF P w K mg base fW 2 t.C5.f t.C5.fd dD CA:=
 t.C5.h.fu.ok sc__law_is_ring (λ_ _ _ _ h=>BE h) λcdv A outer s H vs Q E a h=>
  have b:=a.units
  ⟨_,av (cr (PW.pt (mn (je (ku (aR pC (by rfl) t.dN (by decide +kernel) (aa (pv 0) (aa (pG (v:=.ty "list") (by rfl) t.iQ (by decide +kernel) rfl) ao))))) (mn (aY eF (aR bv (by rfl) t.cb R5 (aa (pv 0) ao)) ay (bA _)) (kz (aY FE (aR yE (by rfl) t.cb R5 (aa (bX (pA rfl b) (by rfl) t.vI (by decide +kernel) (aa (pv 0) ao)) ao)) (aR bv (by rfl) t.cb R5 (aa (pv 0) ao)) (bA _)))))) (aB (ba iZ)) bC)
    (av (b5 Rz rfl (iA (by rfl) t.km (aa (aR bv (by rfl) t.cb R5 (aa (pv 0) ao)) ao)) (aI (i:=3) sc__law_is_ring.nd rfl (Or.inl rfl))
      (av (aH (i:=4) sc__law_is_ring.nd rfl (Or.inl rfl) (aN ix_list (pv 0) (pv 3) (λ_ _=>rfl)))
      (av (cr (PW.pt (mn (je (ku (aR pC (by rfl) t.dN (by decide +kernel) (aa (pv 4) (aa (pG (v:=.ty "tuple") (by rfl) t.Cz (by decide +kernel) rfl) ao))))) (kz (aY FE (aR bv (by rfl) t.cb R5 (aa (pv 4) ao)) ay (bA _))))) (aB (ba iZ)) bC)
      (av (cr (PW.pt (mn (je (ku (aS (jc t) (a.mono (by decide)) rfl t.yW.h.gl t.yW.h.fu.kp t.yW.h.bi .nil be (aa (aN ix_tup (pv 4) ay (λ_ _=>rfl)) ao)))) (kz (je (ku (aS (jc t) (a.mono (by decide)) rfl t.yW.h.gl t.yW.h.fu.kp t.yW.h.bi .nil be (aa (aN ix_tup (pv 4) ay (λ_ _=>rfl)) ao))))))) (aB (ba iZ)) bC)
      (aB (cr (PW.pt (mn (aY (pc b) (pv 4) (pv 1) rfl) (kz (aY (pc b) (pv 4) (dY (dh a) (pv 2) (aN ix_list (pv 0) (aQ zn (pv 3) ay) (λ_ _=>rfl)) (bH ao) ⟨rfl,rfl,rfl,rfl⟩) rfl)))) (aB (ba iZ)) bC))))))
    (aB (ba iZ))),EL O4 h⟩
def iW:bF P w K mg base fW 1 t.C9.f t.C9.fd ci CH:=
 t.C9.h.fu.ok sc__law_comes_again (λ_ _ _ _ h=>BP h) λcdv A outer s H vs Q E a h=>
  have b:=a.units
  ⟨_,(av (b5 Rz rfl (iA (by rfl) t.km (aa (aR bv (by rfl) t.cb R5 (aa (pv 0) ao)) ao)) (aI (i:=1) sc__law_comes_again.nd rfl (Or.inl rfl)) (av (aH (i:=2) sc__law_comes_again.nd rfl (Or.inl rfl) (aQ op_add (pv 1) ay))
      (aB (g6 Rz (PW.pt (ud (aY rq (pv 2) (aR bv (by rfl) t.cb R5 (aa (pv 0) ao)) (bA _)) (pH (zq JY rA (aR bv (by rfl) t.cb R5 (aa (aN ix_tup (aN ix_list (pv 0) (pv 2) (λ_ _=>rfl)) ay (λ_ _=>rfl)) ao)) (aR bv (by rfl) t.cb R5 (aa (aN ix_tup (aN ix_list (pv 0) (pv 1) (λ_ _=>rfl)) ay (λ_ _=>rfl)) ao)) ay)))) (av (cr (PW.pt (ud (aY eF (aN ix_tup (aN ix_list (pv 0) (pv 2) (λ_ _=>rfl)) ay (λ_ _=>rfl)) (aN ix_tup (aN ix_list (pv 0) (pv 1) (λ_ _=>rfl)) ay (λ_ _=>rfl)) (bA _)) (pH (aY eF (aN ix_list (aN ix_tup (aN ix_list (pv 0) (pv 2) (λ_ _=>rfl)) ay (λ_ _=>rfl)) ay (λ_ _=>rfl)) (aN ix_list (aN ix_tup (aN ix_list (pv 0) (pv 1) (λ_ _=>rfl)) ay (λ_ _=>rfl)) ay (λ_ _=>rfl)) (bA _))))) (aB (ba iZ)) bC)
      (aB (aH (i:=2) sc__law_comes_again.nd rfl (Or.inl rfl) (aQ op_add (pv 2) ay))))))))
      (aB (ba iZ))),EU h⟩
def I0:bF P w K mg base fW 12 t.Dp.f t.Dp.fd wZ (oh mg 1 ti):=
 wx t.Dp.h.fu sc_law λcdv A outer s H E a=>
  have b:=a.units
  (gd (AE sc_law.nd rfl (.inl rfl) (sr (f7 t) (a.mono (by decide)) (by rfl) t.xf.h Ay (jM (sr (cU t) (a.mono (by decide)) (by rfl) t.tQ.h Ay (jM (qv 0) (jM dH qa)) (kJ (kJ si))) qa) (kJ si)))
    (gd (qc sc_law.nd rfl (.inl rfl) (h_ uV dH (h_ mX (qv 1) dH)))
    (gd (qc sc_law.nd rfl (.inl rfl) (h_ uV dH (h_ mX (h_ Ai (qv 1) dH) dH)))
    (gd (qc sc_law.nd rfl (.inl rfl) (h_ mX (h_ Ai (qv 1) dH) dH))
    (EW (F:=IV) (av (aH (i:=5) sc_law.nd rfl (Or.inl rfl) (aS (oC t) (a.mono (by decide)) rfl t.Do.h.gl t.Do.h.fu.kp t.Do.h.bi .nil be (aa (pv 0) (aa (pv 2) (aa (pv 3) (aa (pv 4) ao))))))
    (av (aH (i:=6) sc_law.nd rfl (Or.inl rfl) (aS (f7 t) (a.mono (by decide)) rfl t.xf.h.gl t.xf.h.fu.kp t.xf.h.bi .nil be (aa (aS (cU t) (a.mono (by decide)) rfl t.tQ.h.gl t.tQ.h.fu.kp t.tQ.h.bi .nil be (aa (pv 0) (aa ay ao))) ao)))
    (av (aH (i:=7) sc_law.nd rfl (Or.inl rfl) (bo (aa (aQ b_ (pv 6) (pv 2)) (aa (aS (oE t) (a.mono (by decide)) rfl t.C7.h.gl t.C7.h.fu.kp t.C7.h.bi .nil be (aa (aQ db (pv 6) ay) (aa (pv 3) ao))) ao))))
    (av (aH (i:=8) sc_law.nd rfl (Or.inl rfl) (bo (aa (pv 2) (aa (pv 3) (aa (bX gz (by rfl) t.iQ (by decide +kernel) (aa (pv 5) ao)) ao)))))
    (av (aH (i:=9) sc_law.nd rfl (Or.inl rfl) (bo (aa (aN ix_tup (pv 7) ay (λ_ _=>rfl)) (aa (bX gz (by rfl) t.iQ (by decide +kernel) (aa (aN ix_tup (pv 7) ay (λ_ _=>rfl)) ao)) ao))))
    (av (aH (i:=10) sc_law.nd rfl (Or.inl rfl) (aS (Fa t) (a.mono (by decide)) rfl t.Da.h.gl t.Da.h.fu.kp t.Da.h.bi .nil be (aa (pv 8) (aa (pv 9) ao))))
    (av (cr (PW.pt (mn (aY (Aj b) (pv 8) (bo (aa (pv 2) (aa (pv 3) (aa (pv 5) ao)))) (bA _)) (kz (aY (Aj b) (pv 9) (pv 7) (bA _))))) (aB (ba iZ)) bC)
    (av (cr (Gu (Dv (pv 10))) (aB (ba (aS (lN t) (a.mono (by decide)) rfl t.C5.h.gl t.C5.h.fu.kp t.C5.h.bi .nil be (aa (pv 10) (aa (aS (tE t) (a.mono (by decide)) rfl t.Dd.h.gl t.Dd.h.fu.kp t.Dd.h.bi .nil be (aa (pv 8) (aa (pv 9) ao))) (aa (aS (oF t) (a.mono (by decide)) rfl t.Ds.h.gl t.Ds.h.fu.kp t.Ds.h.bi .nil be (aa (pv 8) ao)) ao)))))) bC)
    (av (aH (i:=11) sc_law.nd rfl (Or.inl rfl) (aS (tj t) (a.mono (by decide)) rfl t.Dq.h.gl t.Dq.h.fu.kp t.Dq.h.bi .nil be (aa (pv 5) (aa (aN ix_tup (pv 7) ay (λ_ _=>rfl)) (aa (aN ix_tup (pv 7) ay (λ_ _=>rfl)) (aa (g8 lS (pv 0) (gp (aQ op_add ay (pv 4))) (gp (aQ op_add ay (pv 4)))) ao))))))
    (aB (ba (ug (aS (iW t) (a.mono (by decide)) rfl t.C9.h.gl t.C9.h.fu.kp t.C9.h.bi .nil be (aa (pv 11) ao)))))))))))))))))))
end
def MJ{K KK:Vx}{mg:Str->Option Vz}{h:Heap}(X:K.In h)(G:h.Ns mainGlobals mg)(U:tU K KK)
 (yY:FK K "_law_rule" ik) (xf:FK K "_law_mixed" gA) (tQ:FK K "_law_cell_at" fD) (Do:FK K "_law_rules" gB) (C7:FK K "_law_stack" gC) (Dq:FK K "_law_run" gD) (Di:FK K "is_plain" gF) (Dk:FK K "refuse_unless_plain" cp) (C8:FK K "rules_by_start" dI) (Dm:FK K "prices" nM) (C3:FK K "pairs" l_) (yS:FK K "rooms_behind" fF) (C6:FK K "head_of" k7) (Dh:FK K "heads_by" gI) (yT:FK K "head_steps_with" cA) (Ds:FK K "head_steps" gK) (Dn:FK K "own_heads" fT) (y8:FK K "steps_among" f6) (Dd:FK K "heads_of" jt) (Dg:FK K "marked" j3) (C0:FK K "coming_to_an_end" bR) (Da:FK K "ring" nO) (yW:FK K "_law_whole" gM) (C5:FK K "_law_is_ring" fG) (C9:FK K "_law_comes_again" cZ) (Dp:FK K "law" B5)
 (m:nsIn K mainGlobals "all"=some none)
 (j:nsIn K mainGlobals "bool"=some none)
 (k:nsIn K mainGlobals "dict"=some none)
 (c:nsIn K mainGlobals "enumerate"=some none)
 (n:nsIn K mainGlobals "int"=some none)
 (a:nsIn K mainGlobals "isinstance"=some none)
 (o:nsIn K mainGlobals "len"=some none)
 (l:nsIn K mainGlobals "list"=some none)
 (p:nsIn K mainGlobals "min"=some none)
 (e:nsIn K mainGlobals "range"=some none)
 (q:nsIn K mainGlobals "set"=some none)
 (d:nsIn K mainGlobals "sorted"=some none)
 (f:nsIn K mainGlobals "tuple"=some none)
 {CQ:Addr} (R:CK K KK "Queue" CQ) (z:findIn KK (.ref CQ) "last"=some none) (A:findIn KK (.ref CQ) "piles"=some none)
 {CP:Addr} (S:CK K KK "Pricing" CP) (B:findIn KK (.ref CP) "rules"=some none) (C:findIn KK (.ref CP) "told"=some none) (D:findIn KK (.ref CP) "offers"=some none) (E:findIn KK (.ref CP) "settled"=some none) (F:findIn KK (.ref CP) "lacking"=some none)
 {H:Addr} (g:MK KK CQ "__init__" "Queue.__init__" IL H)
 {I:Addr} (r:MK KK CQ "add" "Queue.add" IM I)
 {J:Addr} (s:MK KK CQ "is_empty" "Queue.is_empty" IN J)
 {L:Addr} (u:MK KK CQ "take_lowest" "Queue.take_lowest" E7 L)
 {M:Addr} (i:MK KK CP "__init__" "Pricing.__init__" IQ M)
 {N:Addr} (v:MK KK CP "offer" "Pricing.offer" IR N)
 {O:Addr} (w:MK KK CP "settle" "Pricing.settle" IS O)
 {P:Addr} (x:MK KK CP "settle_first" "Pricing.settle_first" IT P)
 {Q:Addr} (y:MK KK CP "settle_all" "Pricing.settle_all" IU Q)
 : ∃t:Tx KK mg,True:=by
 obtain⟨yY⟩:=df (ps:=fR) X G U yY;obtain⟨xf⟩:=df (ps:=eU) X G U xf;obtain⟨tQ⟩:=df (ps:=dz) X G U tQ;obtain⟨Do⟩:=df (ps:=eV) X G U Do;obtain⟨C7⟩:=df (ps:=eY) X G U C7;obtain⟨Dq⟩:=df (ps:=gE) X G U Dq;obtain⟨Di⟩:=df (ps:=gG) X G U Di;obtain⟨Dk⟩:=df (ps:=bU) X G U Dk;obtain⟨C8⟩:=df (ps:=dJ) X G U C8;obtain⟨Dm⟩:=df (ps:=j1) X G U Dm;obtain⟨C3⟩:=df (ps:=ma) X G U C3;obtain⟨yS⟩:=df (ps:=dC) X G U yS;obtain⟨C6⟩:=df (ps:=iP) X G U C6;obtain⟨Dh⟩:=df (ps:=gJ) X G U Dh;obtain⟨yT⟩:=df (ps:=cB) X G U yT;obtain⟨Ds⟩:=df (ps:=eZ) X G U Ds;obtain⟨Dn⟩:=df (ps:=fU) X G U Dn;obtain⟨y8⟩:=df (ps:=dL) X G U y8;obtain⟨Dd⟩:=df (ps:=gL) X G U Dd;obtain⟨Dg⟩:=df (ps:=j4) X G U Dg;obtain⟨C0⟩:=df (ps:=cg) X G U C0;obtain⟨Da⟩:=df (ps:=qE) X G U Da;obtain⟨yW⟩:=df (ps:=e9) X G U yW;obtain⟨C5⟩:=df (ps:=dD) X G U C5;obtain⟨C9⟩:=df (ps:=ci) X G U C9;obtain⟨Dp⟩:=df (ps:=wZ) X G U Dp;have Jl:=KW R g;obtain⟨Js,rfl⟩:=mf (ps:=["self"]) g;obtain⟨Fq,rfl⟩:=mf (ps:=["self","price","thing"]) r;obtain⟨Jn,rfl⟩:=mf (ps:=["self"]) s;obtain⟨Jk,rfl⟩:=mf (ps:=["self"]) u;have Ji:=KW S i;obtain⟨Jq,rfl⟩:=mf (ps:=["self","house"]) i;obtain⟨vK,rfl⟩:=mf (ps:=["self","arrow","price","number","mid"]) v;obtain⟨Jp,rfl⟩:=mf (ps:=["self","arrow","price"]) w;obtain⟨Jx,rfl⟩:=mf (ps:=["self","number","rule","mid","price"]) x;obtain⟨Jz,rfl⟩:=mf (ps:=["self"]) y;exact⟨⟨yY,xf,tQ,Do,C7,Dq,Di,Dk,C8,Dm,C3,yS,C6,Dh,yT,Ds,Dn,y8,Dd,Dg,C0,Da,yW,C5,C9,Dp,Sb X G m,Sb X G j,Sb X G k,Sb X G c,Sb X G n,Sb X G a,Sb X G o,Sb X G l,Sb X G p,Sb X G e,Sb X G q,Sb X G d,Sb X G f,CQ,⟨R.cl,z,A⟩,PySem.W.mg_of X G R.b,CP,⟨S.cl,B,C,D,E,F⟩,PySem.W.mg_of X G S.b,Js,Jl,Fq,Jn,Jk,Jq,Ji,vK,Jp,Jx,Jz⟩,True.intro⟩
def I_{l:PySem.W.OpenLaw}{w:World}{K:Vx}{mg:Str->Option Vz}{c:Addr}(a:mg "law"=some (.ref c)) (T:∃t:Tx K mg,True) :
 ∃fd:FuncData,(∀(s:Vw)(v:Vz),BindsTo s fd ⟨[v],[]⟩ [("_law_script",v)])/\∀base:Heap,bF l.prog w K mg base fW 12 c fd ["_law_script"] (Nf ti):=by
 obtain⟨t,_⟩:=T;have e:=a.symm.trans t.Dp.h.gl;cases e;obtain⟨oc,od,kV,doc,pm,an,cdv,ct,osl,b,lk,d⟩:=t.Dp.h.fu.ex;exact⟨t.Dp.fd,λs v=>by rw[b];exact .of_eq rfl,λbase=>bF.top (I0 t)⟩
end W
namespace W
open PySem L2 L3 L4
abbrev RR(ro sg:Int)(r:Sp.Rule):Prop:=JS ro sg r
noncomputable def gX(ro sg n:Int):List Pz.Arr:=(List.range ro.toNat).flatMap λa=>(List.range sg.toNat).flatMap λs=>(List.range n.toNat).map λt=>(((a:Nat):Int),((s:Nat):Int),((t:Nat):Int))
def univ_mem{ro sg n a s t:Int}:((a,s,t):Pz.Arr)∈gX ro sg n↔(0<=a/\a<ro)/\(0<=s/\s<sg)/\0<=t/\t<n:=by
 unfold gX;simp only[SE,Q3,RG,Prod.mk.injEq];constructor
 .rintro⟨x,b,y,c,z,hz,rfl,rfl,rfl⟩;lia
 .rintro⟨h1,h2,h3⟩;exact⟨a.toNat,by lia,s.toNat,by lia,t.toNat,by lia,by lia,by lia,by lia⟩
def yP{α:Type}(c:Nat):∀l:List α,(l.map λ_=>c).sum=l.length*c:=by intro l;induction l<;>grind
def B_(ro sg n:Int):(gX ro sg n).length=ro.toNat*(sg.toNat*n.toNat):=by
 simp_all [gX,yP]
def Fd{Fr:List D->Res R}{RL:List Pz.Rule}{M U:List Pz.Arr}{h0 h1:D}(b:Pz.Set RL M U):∃t,Pz.Good RL M U t/\∀m0 m2 r,Fr [.tup [h0,h1,.lst (RL.map d4)],.tup [m0,.lst (M.map sO),m2]]=.ok r->
 KJ Fr [.tup [h0,h1,.lst (RL.map d4)],.tup [m0,.lst (M.map sO),m2]]=.ok (.nX (lD t)):=by
 obtain⟨fit,n,T,lp,good⟩:=b.run wF;have c:RL.length<16000000:=by have:=b.big;unfold Pz.L at this;lia
 refine⟨T.told,good,λm0 m2 r d=>?_⟩;have hex:∃t,nA [.tup [h0,h1,.lst (RL.map d4)],.tup [m0,.lst (M.map sO),m2]] t:=⟨T.told,RL,M,h0,h1,m0,m2,n,T,rfl,c,fit,lp,rfl⟩;have e:Classical.choose hex=T.told:=by obtain⟨f,g,i,j,k,l,m,o,e,_,_,a,e2⟩:=Classical.choose_spec hex;rw[e2];injection e with e3 e;injection e3 with e3;injection e3 with _ e3;injection e3 with _ e3;injection e3 with e3 _;injection e3 with e3;injection e with e _;injection e with e;injection e with _ e;injection e with e _;injection e with e;rw[<- qz (λh=>yt h) e3,<- qz (λh=>AY h) e]at a;rw[<- AX lp a]
 unfold KJ;rw[d];dsimp only;rw[dif_pos hex,e]
def Ja(ro sg:Int)(RL:List Pz.Rule):bV [js ro sg RL,JM ro]=.ok (.val .bz true []):=rfl
def Ca{ro sg:Int}{RL:List Pz.Rule}(g:0<ro)(s1:0<sg)(b:∀r∈RL,RR ro sg r)(d:RL.length<=63)(c:(gX ro sg ro).length<=128) :
 ∃t,Pz.Good RL [] (gX ro sg ro) t/\t.length<=128/\cS [js ro sg RL,JM ro]=.ok (.nX (lD t)):=by
 have e:Pz.Set RL [] (gX ro sg ro):=by
  refine⟨λr h=>(b r h).p,λa h=>(nomatch h),λr h=>univ_mem.mpr ⟨(b r h).a,(b r h).s,(b r h).t⟩,λr h s x t k=>univ_mem.mpr ⟨(b r h).a,(b r h).s,(univ_mem.mp k).2.2⟩,?_,?_,?_⟩
  .have:RL.length*((gX ro sg ro).length*(gX ro sg ro).length)<=63*(128*128):=Ul d (Ul c c);rw[T6];unfold Pz.L;lia
  .have:RL.length*(gX ro sg ro).length<=63*128:=Ul d c;unfold Pz.L;lia
  .unfold Pz.L;lia
 obtain⟨t,G,h⟩:=Fd (Fr:=bV) (h0:=.int ro) (h1:=.int sg) e;refine⟨t,G,?_,h (.int ro) (.lst []) _ (Ja ro sg RL)⟩;have:=Pz.bZ _ (gX ro sg ro) G.nd λa ha=>by obtain⟨x,f,rfl⟩:=Q3.mp ha;exact G.u x.1 x.2 (Pz.su G.nd (by obtain⟨a,v⟩:=x;exact f))
 rw[Q0]at this;lia
def qH(ns:List Int)(k:Int)(h0:0<=k):∃x,bQ [.lst (ns.map .int),.int k]=.ok (.val (.int x) true []):=by
 by_cases h:k<ns.length
 .have hd:decide (k<(ns.length:Int))=true:=Rm h;obtain⟨a,b,_⟩:=IK h0 h;have ha:f_ (ns.map D.int) k=some (.int a):=by rw[E6,b];rfl
  exact⟨a,by simp_arith[bQ,fE,Q0,hd,ha]⟩
 .have hd:decide (k<(ns.length:Int))=false:=RK h;exact⟨0,by simp_arith[bQ,fE,Q0,hd]⟩
def tF(x:Int):∃y,0<=y/\cG [.int x]=.ok (.val (.int y) true []):=⟨(x%2147483647+11)*48271%2147483647,by lia,by simp_arith[cG,jZ]⟩
structure Bd(ro sg:Int):Prop where
 r:0<ro/\ro<=8
 s:0<sg/\sg<=14
 m:ro*sg<=28
 f:(ro*sg+13)*(ro+1)<=300
 u:(gX ro sg ro).length<=128
structure CU(RL:List Sp.Rule) (As:List Sp.Arr):Prop where
 n:∀a b c,(a,b,c,[])∈RL->(a,b,c)∈As
 o:∀a b c p d,(a,b,c,[p])∈RL->(c,p,d)∈As->(a,b,d)∈As
 t:∀a b c p q d e,(a,b,c,[p,q])∈RL->(c,p,d)∈As->(d,q,e)∈As->(a,b,e)∈As
section
variable{RL:List Sp.Rule}{As:List Sp.Arr}{RW:List Rw}
def tG(f:∀r∈RL,r.2.2.2.length<=2)(g:BM RL RW){m:Nat}:∀(n i j:Nat)(x y:Rw),j=i+n->RW[i]?=some x->RW[j]?=some y->m<x.2.length->y.2.length<=m->∃l z,i<l/\l<=j/\RW[l]?=some z/\z.2.length=m/\∀k w,i<=k->k<l->RW[k]?=some w->m<w.2.length:=by
 intro n;induction n with
 |zero=>intro i j x y e b c h1 h2;subst e;rw[b]at c;cases c;lia
 |succ n h=>
  intro i j x y e b c h1 h2;have t:j<RW.length:=(Q2.mp c).1;obtain⟨u,d⟩ : ∃u,RW[i+1]?=some u:=⟨_,Q1 (by lia)⟩;have v:=wW f (g i x u b d);by_cases A:u.2.length<=m
  .refine⟨i+1,u,by lia,by lia,d,by lia,λk w k1 k2 a=>?_⟩;obtain rfl:k=i:=by lia
   rw[b]at a;cases a;exact h1
  .obtain⟨l,z,B,o,p,q,s⟩:=h (i+1) j u y (by lia) d c (by lia) h2;refine⟨l,z,by lia,o,p,q,λk w k1 k2 a=>?_⟩;rcases SY k1 with rfl|k1
   .rw[b]at a;cases a;exact h1
   .exact s k w k1 k2 a
def Jb(C:∀r∈RL,r.2.2.2.length<=2)(g:CU RL As)(D:BM RL RW):∀(n i j:Nat)(a s:Int)(w:List Int)(y:Rw),j-i<=n->i<j->RW[i]?=some (a,s::w)->RW[j]?=some y->y.2.length=w.length->(∀k z,i<=k->k<j->RW[k]?=some z->w.length<z.2.length)->y.2=w/\(a,s,y.1)∈As:=by
 intro n;induction n with
 |zero=>intro i j a s w y h1 h2;lia
 |succ n v=>
  intro i j a s w y h1 h2 E b f hb;have L:j<RW.length:=(Q2.mp b).1;obtain⟨u,c⟩ : ∃u,RW[i+1]?=some u:=⟨_,Q1 (by lia)⟩;obtain⟨r,d,M,e1,e2⟩:=D i _ u E c;have x:=C r d;obtain⟨N,O,A,put⟩:=r;injection e1 with ea eb;injection eb with eb ec;subst ea;subst eb;subst ec;subst e2;have d:(a,s,A,put)∈RL:=d;rcases put with _|⟨p,_|⟨q,_|⟨o,l⟩⟩⟩
  .have:j=i+1:=by
    rcases SY (show i+1<=j from h2)with h|h
    .exact h.symm
    .have:=hb (i+1) _ (by lia) h c;simp at this
   subst this;rw[c]at b;cases b;exact⟨rfl,g.n _ _ _ d⟩
  .have h3:i+1<j:=by
    rcases SY (show i+1<=j from h2)with h|h
    .subst h;rw[c]at b;cases b;simp at f
    .exact h
   obtain⟨g1,g2⟩:=v (i+1) j A p w y (by lia) h3 c b f λk z k1 k2 e=>hb k z (by lia) k2 e;exact⟨g1,g.o _ _ _ _ _ d g2⟩
  .obtain⟨m,z,F,m2,B,P,G⟩:=tG C D (m:=w.length+1) (j-(i+1)) (i+1) j _ y (by lia) c b (by simp) (by lia);obtain⟨g1,g2⟩:=v (i+1) m A p (q::w) z (by lia) F c B (by simp;lia) λk z k1 k2 e=>by have:=G k z k1 k2 e;simp;lia
   obtain⟨H,I⟩:=z;have g1:I=q::w:=g1;subst g1;have h3:m<j:=by
    rcases SY m2 with h|h
    .subst h;rw[B]at b;cases b;simp at f
    .exact h
   obtain⟨J,K⟩:=v m j H q w y (by lia) h3 B b f λk z k1 k2 e=>hb k z (by lia) k2 e;exact⟨J,g.t _ _ _ _ _ _ _ d g2 K⟩
  .simp at x
def qI{r:Sp.Rule}{x:aF}(a:r∈RL)(h:x∈bL (aZ As) r):x∈Ls As RL (hd r):=by unfold Ls cO;exact SE.mpr ⟨r,Ru.mpr ⟨a,Rm rfl⟩,h⟩
def fI{a b c:Int}(h:(a,b,c)∈As):c∈aZ As (a,b):=by unfold aZ;exact Q3.mpr ⟨(a,b,c),Ru.mpr ⟨h,Rm rfl⟩,rfl⟩
end
section
variable{ro sg:Int}{RL:List Sp.Rule}{t:Pz.TD}{U:List Pz.Arr}
def qJ{a:Pz.Arr}(h:a∈t.map (·.1)):∃v,Pz.bG t a=some v:=by
 cases e:Pz.bG t a with
 |none=>exact absurd h (Pz.tget_none.mp e)
 |some v=>exact⟨v,rfl⟩
def jg{a:Pz.Arr}{v:Pz.ye}(h:Pz.bG t a=some v):a∈t.map (·.1):=Q3.mpr ⟨_,Pz.m_ h,rfl⟩
def Cb(G:Pz.Good RL [] U t):CU RL (t.map (·.1)):=by
 refine⟨λa b c h=>?_,λa b c p d h h1=>?_,λa b c p q d e h h1 h2=>?_⟩
 .obtain⟨j,f⟩:=U1 h;obtain⟨v,g,_⟩:=G.C4 j _ f;exact jg g
 .obtain⟨j,f⟩:=U1 h;obtain⟨u,i⟩:=qJ h1;obtain⟨v,g,_⟩:=G.C4 j _ f d _ ⟨u,i,rfl⟩;exact jg g
 .obtain⟨j,f⟩:=U1 h;obtain⟨u,i⟩:=qJ h1;obtain⟨l,k⟩:=qJ h2;obtain⟨v,g,_⟩:=G.C4 j _ f d e _ _ ⟨u,i,rfl⟩ ⟨l,k,rfl⟩;exact jg g
def vz{α a:Type}(f:α->List a)(n:Nat):∀l:List α,(∀x∈l,(f x).length<=n)->(l.flatMap f).length<=l.length*n:=by
 intro l;induction l with
 |nil=>intro _;simp
 |cons x l b=>intro h;have h1:=h x (by simp);have h2:=b λy c=>h y (by simp[c]);rw[SL,Q8,Rq,Nat.add_mul];lia
def nP{As:List Sp.Arr}(nd:As.Nodup)(d:∀a∈As,a∈gX ro sg ro)(k:aF):(aZ As k).length<=ro.toNat:=by
 have h:(aZ As k).Nodup:=by
  unfold aZ List.Nodup;rw[Sw];refine SV (R:=(·≠ ·)) (λ{a b} ha hb c e=>c ?_) (nd.filter _)
  grind
 have:=Pz.bZ (aZ As k) ((List.range ro.toNat).map λi=>((i:Nat):Int)) h λx f=>by obtain⟨a,ha,rfl⟩:=Q3.mp f;have:0<=a.2.2/\a.2.2<ro:=(univ_mem.mp (d a (Ru.mp ha).1)).2.2;exact Q3.mpr ⟨a.2.2.toNat,RG.mpr (by lia),by lia⟩
 rw[Q0,UP]at this;exact this
def yQ(F:aF->List Int){n:Nat}(h:∀k,(F k).length<=n)(r:Sp.Rule):(bL F r).length<=n+1:=by
 obtain⟨b,c,a,put⟩:=r;rcases put with _|⟨p,_|⟨q,l⟩⟩
 .exact Rh _
 .show 1<=n+1;lia
 .show((a,p)::(F (a,p)).map λo=>(o,q)).length<=n+1;rw[Rq,Q0];have:=h (a,p);lia
def tH{As:List Sp.Arr}(f:∀a∈As,a∈gX ro sg ro){r:Sp.Rule}(d:RR ro sg r){x:aF}(hx:x∈bL (aZ As) r):(0<=x.1/\x.1<ro)/\0<=x.2/\x.2<sg:=by
 obtain⟨h,i,b,put⟩:=r;have e:=d.t;have c:=d.q;rcases put with _|⟨p,_|⟨q,l⟩⟩
 .cases hx
 .have hx:x∈[(b,p)]:=hx;rw[Q9.mp hx];exact⟨e,c p (by simp)⟩
 .have hx:x∈(b,p)::(aZ As (b,p)).map λo=>(o,q):=hx;rcases Q_.mp hx with rfl|hx
  .exact⟨e,c p (by simp)⟩
  .obtain⟨o,g,rfl⟩:=Q3.mp hx;obtain⟨a,ha,rfl⟩:=Q3.mp g;exact⟨(univ_mem.mp (f a (Ru.mp ha).1)).2.2,c q (by simp)⟩
noncomputable def Cc(ro sg:Int):List aF:=(List.range ro.toNat).flatMap λa=>(List.range sg.toNat).map λs=>(((a:Nat):Int),((s:Nat):Int))
def Jc(h:Bd ro sg){As:List Sp.Arr}(nd:As.Nodup)(d:∀a∈As,a∈gX ro sg ro)(g:∀r∈RL,RR ro sg r)(i:(RL.length:Int)<=ro*sg+13):JJ (Ls As RL):=by
 intro k;have e:=h.r;have l:=h.s;constructor
 .have h1:=vz (bL (aZ As)) (ro.toNat+1) (RL.filter λr=>decide (hd r=k)) λr _=>yQ _ (nP nd d) r;have h2:(RL.filter λr=>decide (hd r=k)).length<=RL.length:=SS ..;have h3:RL.length*(ro.toNat+1)<=300:=by
   have:=h.f;have j:((RL.length*(ro.toNat+1):Nat):Int)<=(ro*sg+13)*(ro+1):=by
    rw[Int.natCast_mul];have:((ro.toNat+1:Nat):Int)=ro+1:=by lia
    rw[this];exact Int.mul_le_mul_of_nonneg_right i (by lia)
   lia
  exact Rx h1 (Rx (Nat.mul_le_mul_right _ h2) h3)
 .intro m hm b;have h1:=Pz.bZ m (Cc ro sg) hm λx c=>by obtain⟨r,e,c⟩:=SE.mp (b x c);have:=tH d (g r (Ru.mp e).1) c;exact SE.mpr ⟨x.1.toNat,RG.mpr (by lia),Q3.mpr ⟨x.2.toNat,RG.mpr (by lia),U2 (by show((x.1.toNat:Nat):Int)=x.1;lia) (by show((x.2.toNat:Nat):Int)=x.2;lia)⟩⟩
  have h2:=vz (λa:Nat=>(List.range sg.toNat).map λs=>(((a:Nat):Int),((s:Nat):Int))) sg.toNat (List.range ro.toNat) λx _=>by simp
  rw[UP]at h2;have h3:((ro.toNat*sg.toNat:Nat):Int)=ro*sg:=by rw[Int.natCast_mul];congr 1<;>lia
  have j:=h.m;have h2:(Cc ro sg).length<=ro.toNat*sg.toNat:=h2;lia
def Cd(h:Bd ro sg)(b:∀r∈RL,RR ro sg r)(f:(RL.length:Int)<=ro*sg+12):∃t,Ps cS ro sg RL t/\CU RL (t.map (·.1))/\∀a∈t.map (·.1),a∈gX ro sg ro:=by
 have hm:=h.m;obtain⟨t,G,g,d⟩:=Ca h.r.1 h.s.1 b (by lia) h.u;have c:∀a∈t.map (·.1),a∈gX ro sg ro:=λa ha=>by obtain⟨v,e⟩:=qJ ha;exact G.u a v e
 exact⟨t,⟨d,G.nd,by lia,by lia,Jc h G.nd c b (by lia)⟩,Cb G,c⟩
end
def ML{ro sg R S:Int}(r:0<ro/\ro<=R)(s:0<sg/\sg<=S)(a:R<=8)(b:S<=14)(h1:R*S<=28)(h2:(R*S+13)*(R+1)<=300)(h3:R.toNat*(S.toNat*R.toNat)<=128):Bd ro sg:=by have m:ro*sg<=R*S:=Int.mul_le_mul r.2 s.2 (by lia) (by lia);have p:0<ro*sg:=Int.mul_pos r.1 s.1;refine⟨by lia,by lia,by lia,Tw (Int.mul_le_mul (by lia) (by lia) (by lia) (by lia)) h2,?_⟩;rw[B_];exact Rx (Ul (by lia) (Ul (by lia) (by lia))) h3
section
variable{Z:aF->List aF}{ks ks' bM U:List aF}{n:Nat}
def Ga(h:uc Z n ks bM ks')(P:aF->Prop)(b:∀k,P k->∀x∈Z k,P x)(h1:∀x∈ks,P x)(h2:∀x∈bM,P x):∀x∈ks',P x:=by
 induction h with
 |done=>exact h1
 |old c r a=>exact a h1 λx hx=>h2 x (RD _ hx)
 |@new n ks bM ks' h c e f r a=>
  have d:=h2 h (by simp);exact a (λx hx=>by grind) λx hx=>by
   rcases Rj.mp hx with hx|hx
   .exact h2 x (RD _ hx)
   .exact b h d x hx
def MM(h:uc Z n ks bM ks')(nd:ks.Nodup):ks'.Nodup:=by
 induction h with
 |done=>exact nd
 |old d r c=>exact c nd
 |@new n ks bM ks' h d f g r c=>exact c (by rw[RC];exact⟨nd,by simp,λa ha b hb e=>by rw[Q9.mp hb]at e;exact d (e▸ha)⟩)
def Ce(h:uc Z n ks bM ks'):(∀x∈ks,x∈ks')/\∀x∈bM,x∈ks':=by
 induction h with
 |done=>exact⟨λ_ h=>h,λ_ h=>nomatch h⟩
 |old c r a=>exact⟨a.1,λx b=>by grind⟩
 |new c d e r a=>exact⟨λx b=>a.1 x (by simp[b]),λx b=>by grind⟩
def Cf(h:uc Z n ks bM ks')(e:∀k∈ks,∀x∈Z k,x∈ks\/x∈bM):∀k∈ks',∀x∈Z k,x∈ks':=by
 induction h with
 |done=>exact λk a x b=>(e k a x b).elim id λh=>nomatch h
 |@old n ks bM ks' h a r c=>exact c λk d x b=>by grind
 |@new n ks bM ks' h a f g r c=>exact c λk d x b=>by grind
theorem MN(o:U.length<=63)(g:∀k,(Z k).length<=63/\∀x∈Z k,x∈U):∀(m:Nat)(ks bM:List aF),(U.length-ks.length)*64+bM.length<=m->m<=90000->ks.Nodup->(∀x∈ks,x∈U)->(∀x∈bM,x∈U)->∃n ks',uc Z n ks bM ks':=by
 intro m;induction m with
 |zero=>intro ks bM h _ _ _ _;have:bM=[]:=RJ.mp (by lia);subst this;exact⟨0,ks,.done⟩
 |succ m i=>
  intro ks bM h hm nd j hd;by_cases e:bM=[]
  .subst e;exact⟨0,ks,.done⟩
  obtain⟨d,x,rfl⟩ : ∃d x,bM=d++[x]:=⟨bM.dropLast,bM.getLast e,(Tj _).symm⟩;rw[Q8,RN]at h;by_cases f:x∈ks
  .obtain⟨n,ks',r⟩:=i ks d (by lia) (by lia) nd j λy hy=>hd y (RD _ hy);exact⟨n+1,ks',.old f r⟩
  .have c:(ks++[x]).Nodup:=by rw[RC];exact⟨nd,by simp,λa ha b hb e=>by rw[Q9.mp hb]at e;exact f (e▸ha)⟩
   have sub:∀y∈ks++[x],y∈U:=λy hy=>by grind
   have l:=Pz.bZ _ U c sub;have p:=(g x).1;rw[Q8,RN]at l;obtain⟨n,ks',r⟩:=i (ks++[x]) (d++Z x) (by rw[Q8,Q8,RN];lia) (by lia) c sub λy hy=>by
    rcases Rj.mp hy with hy|hy
    .exact hd y (RD _ hy)
    .exact(g x).2 y hy
   exact⟨n+1,ks',.new f (by lia) (by lia) r⟩
end
section
variable{Z:aF->List aF}{ks:List aF}
noncomputable def cN(Z:aF->List aF)(P:List aF)(k:aF):Nat:=((Z k).filter λx=>decide (x∉P)).length
def yR(Z:aF->List aF)(e:List aF):Prop:=∀pre k a,e=pre++k::a->∀x∈Z k,x∈pre
structure qP(Z:aF->List aF) (ks proc:List aF) (S:KS):Prop where
 nd:S.ended.Nodup
 sub:∀x∈S.ended,x∈ks
 pd:∀x,x∈S.ended↔x∈proc\/x∈S.bM
 dj:(proc++S.bM).Nodup
 cnt:∀k∈ks,S.N k=(cN Z proc k:Nat)
 MS:∀k∈ks,(k∈S.ended↔cN Z proc k=0)
 ord:yR Z S.ended
def Fe{e l:List aF}(h:yR Z e)(f:∀k∈l,∀x∈Z k,x∈e):yR Z (e++l):=by
 intro pre k c eq x d;by_cases b:pre.length<e.length
 .have h1:e=pre++k::(e.drop (pre.length+1)):=by
   have:=Sy (List.take e.length) eq;rw[List.take_left]at this;have h2:=Sy (λl=>(l:List aF)[pre.length]?) eq;simp only[R9 (QY _),Vs,List.getElem?_cons_zero]at h2;rw[RT b]at h2;have h3:=Sy (List.take pre.length) eq;rw[List.take_left,UZ (by lia)]at h3;rw[<- h3]
   conv=>lhs;rw[<- SU pre.length e]
   congr 1;rw[Sa,Nat.min_eq_left (by lia)];exact List.drop_eq_getElem_cons b▸(by rw[Q1 b]at h2;cases h2;rfl)
  exact h pre k _ h1 x d
 .have h2:=Sy (λl=>(l:List aF)[pre.length]?) eq;simp only[R9 (QY _),Vs,List.getElem?_cons_zero]at h2;rw[R9 (by lia)]at h2;have g:=RE h2;have a:=f k g x d;have h3:=Sy (List.take e.length) eq;rw[List.take_left,UZ (by lia)]at h3;rw[h3]at a;exact SM a
def O5:∀(l:List aF)(S:KS),l.Nodup->(l.foldl fC S).ended=S.ended++l.filter (λk=>decide (S.N k-1=0))/\(l.foldl fC S).bM=S.bM++l.filter (λk=>decide (S.N k-1=0))/\∀k,(l.foldl fC S).N k=if k∈l then S.N k-1 else S.N k:=by
 intro l;induction l with
 |nil=>intro S _;simp
 |cons a l d=>
  intro S nd;rw[Se]at nd;obtain⟨f,g,h⟩:=d (fC S a) nd.2;have c:∀k,k≠a->(fC S a).N k=S.N k:=λk b=>cm b;have ha:(fC S a).N a=S.N a-1:=cC;have i:l.filter (λk=>decide ((fC S a).N k-1=0))=l.filter (λk=>decide (S.N k-1=0)):=List.filter_congr λk b=>by rw[c k λe=>nd.1 (e▸b)]
  rw[Tf,f,g,i,SB];refine⟨?_,?_,λk=>?_⟩
  .show(if S.N a-1=0 then S.ended++[a]else S.ended)++_=_;by_cases e:S.N a-1=0
   .rw[Re e,Re (Rm e),RO];rfl
   .rw[Rf e,Rf (by rw[S_];exact e)]
  .show(if S.N a-1=0 then S.bM++[a]else S.bM)++_=_;by_cases e:S.N a-1=0
   .rw[Re e,Re (Rm e),RO];rfl
   .rw[Rf e,Rf (by rw[S_];exact e)]
  .rw[h k];by_cases e:k=a
   .subst e;rw[Rf nd.1,ha,Re (by simp)]
   .rw[c k e];simp[e]
def Jd(d:∀k,(Z k).Nodup)(nd:ks.Nodup)(k:aF):(iN (jy Z ks) k).Nodup/\∀h,h∈iN (jy Z ks) k↔h∈ks/\k∈Z h:=by
 have hm:∀h,h∈iN (jy Z ks) k↔h∈ks/\k∈Z h:=λh=>by
  unfold iN jy;simp only[Q3,Ru,SE,S_];constructor
  .rintro⟨⟨a,b⟩,⟨⟨x,f,y,c,e⟩,e2⟩,rfl⟩;cases e;cases e2;exact⟨f,c⟩
  .rintro⟨h1,h2⟩;exact⟨(h,k),⟨⟨h,h1,k,h2,rfl⟩,rfl⟩,rfl⟩
 refine⟨?_,hm⟩;clear hm;induction ks with
 |nil=>exact RI
 |cons x l g=>
  rw[Se]at nd;have e:iN (jy Z (x::l)) k=((Z x).filter λo=>decide (o=k)).map (λ_=>x)++iN (jy Z l) k:=by unfold iN jy;rw[SL,R4,RX,List.filter_map,Sf];rfl
  have one:((Z x).filter λo=>decide (o=k)).length<=1:=by
   have h1:=(d x).filter (λo=>decide (o=k));have:=Pz.bZ _ [k] h1 λy c=>by simpa using(Ru.mp c).2
   simpa using this
  rw[e,RC];refine⟨?_,g nd.2,λa ha b hb e=>?_⟩
  .rcases h:(Z x).filter (λo=>decide (o=k))with _|⟨y,_|⟨z,r⟩⟩
   .exact RI
   .simp
   .rw[h]at one;simp at one
  .obtain⟨_,_,rfl⟩:=Q3.mp ha;exact nd.1 (e▸By hb)
def Ff{P:List aF}{k x:aF}(b:(Z k).Nodup)(c:x∉P):cN Z (P++[x]) k=if x∈Z k then cN Z P k-1 else cN Z P k:=by
 unfold cN;generalize Z k=l at b;induction l with
 |nil=>simp
 |cons y l a=>
  rw[Se]at b;have a:=a b.2;rw[SB,SB];by_cases e:y=x
  .subst e;rw[Rf (by simp),Re (Rm c),Re (by simp),a,Rf b.1];simp
  .have h1:(decide (y∉P++[x])=true)↔(decide (y∉P)=true):=by simp[e]
   by_cases h2:decide (y∉P)=true
   .rw[Re (h1.mpr h2),Re h2,Rq,a,Rq];by_cases h3:x∈l
    .rw[Re h3,Re (by simp[h3])];have:0<(l.filter λz=>decide (z∉P)).length:=UH (Ru.mpr ⟨h3,by simpa using c⟩);lia
    .rw[Rf h3,Rf (by simp[h3,Si e])]
   .rw[Rf (λh=>h2 (h1.mp h)),Rf h2,a];simp[Si e]
def cN_zero{P:List aF}{k:aF}:cN Z P k=0↔∀x∈Z k,x∈P:=by unfold cN;rw[RJ,List.filter_eq_nil_iff];simp
def qP.turn(m:∀k,(Z k).Nodup)(nk:ks.Nodup){c:List aF}{N:aF->Int}{ended bM:List aF}{last:aF}(h:qP Z ks c ⟨N,ended,bM++[last]⟩):qP Z ks (c++[last]) ((iN (jy Z ks) last).foldl fC ⟨N,ended,bM⟩):=by
 obtain⟨nd,sub,pd,dj,cnt,MS,ord⟩:=h;obtain⟨g,i⟩:=Jd m nk last;obtain⟨f,j,n⟩:=O5 (iN (jy Z ks) last) ⟨N,ended,bM⟩ g;generalize iN (jy Z ks) last=bl at *;dsimp only at nd sub pd dj cnt MS ord f j n;have lp:last∉c:=λz=>by rw[<- RO,RC]at dj;exact dj.2.2 last (RD _ z) last (by simp) rfl
 have new:∀k,k∈bl.filter (λk=>decide (N k-1=0))↔(k∈ks/\last∈Z k)/\cN Z c k=1:=λk=>by
  rw[Ru,i,S_];constructor
  .rintro⟨h1,h2⟩;refine⟨h1,?_⟩;rw[cnt k h1.1]at h2;lia
  .rintro⟨h1,h2⟩;refine⟨h1,?_⟩;rw[cnt k h1.1];lia
 have l:∀k,cN Z (c++[last]) k=if last∈Z k then cN Z c k-1 else cN Z c k:=λk=>Ff (m k) lp;have apart:∀k,k∈bl.filter (λk=>decide (N k-1=0))->k∉ended:=λk d z=>by obtain⟨⟨h1,h2⟩,h3⟩:=(new k).mp d;rw[(MS k h1).mp z]at h3;cases h3
 refine⟨?_,?_,λx=>?_,?_,λk d=>?_,λk d=>?_,?_⟩
 .rw[f,RC];exact⟨nd,g.filter _,λa ha b hb e=>apart b hb (e▸ha)⟩
 .rw[f];intro x hx;rcases Rj.mp hx with hx|hx
  .exact sub x hx
  .exact((new x).mp hx).1.1
 .rw[f,j];have:=pd x;simp only[Rj,Q9]at this ⊢
  grind
 .rw[j];have h1:(c++[last]++bM).Nodup:=by
   have:(c++[last]++bM).Perm (c++(bM++[last])):=by rw[RO];exact List.Perm.append_left _ List.perm_append_comm
   exact this.nodup_iff.mpr dj
  rw[<- RO,RC];refine⟨h1,g.filter _,λa ha b hb e=>apart b hb ((pd b).mpr ?_)⟩;rw[e]at ha;simp only[Rj,Q9]at ha ⊢
  grind
 .rw[n k,l k];have c0:=cnt k d;by_cases e:k∈bl
  .have o:=((i k).mp e).2;rw[Re e,Re o,c0];have:cN Z c k≠0:=λz=>lp (cN_zero.mp z last o);lia
  .rw[Rf e,Rf λz=>e ((i k).mpr ⟨d,z⟩),c0]
 .rw[f,Rj,new,MS k d,l k];by_cases e:last∈Z k
  .rw[Re e];have:cN Z c k≠0:=λz=>lp (cN_zero.mp z last e);constructor
   .rintro (h|h)<;>lia
   .intro h;exact .inr ⟨⟨d,e⟩,by lia⟩
  .rw[Rf e];constructor
   .rintro (h|h)
    .exact h
    .exact absurd h.1.2 e
   .exact .inl
 .rw[f];refine Fe ord λk d x hx=>(pd x).mpr ?_;have h3:=(new k).mp d;have h0:cN Z (c++[last]) k=0:=by rw[l,Re h3.1.2];lia
  have:=cN_zero.mp h0 x hx;simp only[Rj,Q9]at this ⊢
  grind
def qP.first(f:∀k∈ks,∀x∈Z k,x∈ks)(nk:ks.Nodup):qP Z ks [] (CY Z ks):=by
 have e0:∀k,cN Z [] k=(Z k).length:=λk=>by unfold cN;simp
 have b:∀k,k∈ks.filter (λk=>decide (lL Z k=0))↔k∈ks/\Z k=[]:=λk=>by rw[Ru,S_];unfold lL;rw[show(((Z k).length:Nat):Int)=0↔(Z k).length=0 from by lia,RJ]
 refine⟨nk.filter _,λx a=>(Ru.mp a).1,λx=>?_,?_,λk c=>?_,λk c=>?_,λpre k d e x a=>?_⟩
 .simp[CY]
 .rw[T7];exact nk.filter _
 .rw[e0];rfl
 .rw[e0];show k∈ks.filter (λk=>decide (lL Z k=0))↔_;rw[b,RJ];exact⟨λh=>h.2,λh=>⟨c,h⟩⟩
 .have:k∈ks.filter (λk=>decide (lL Z k=0)):=by show k∈(CY Z ks).ended;rw[e];simp
  rw[((b k).mp this).2]at a;cases a
def Je(d:∀k,(Z k).Nodup)(nk:ks.Nodup){n:Nat}{S c:KS}(h:KL (iN (jy Z ks)) n S c):∀a,qP Z ks a S->∃b,qP Z ks b c/\c.bM=[]:=by
 induction h with
 |done h=>exact λa i=>⟨a,i,h⟩
 |step f g r e=>exact λa i=>e _ (i.turn d nk)
def MO(f:∀k,(Z k).Nodup/\(Z k).length<=63)(nk:ks.Nodup)(g:ks.length<=63):∀(m:Nat)(a:List aF)(S:KS),ks.length-a.length<=m->qP Z ks a S->∃b,KL (iN (jy Z ks)) m S b:=by
 have h:∀last,(iN (jy Z ks) last).length<=63*63:=λlast=>Rx (wR _ _) (Rx (wU (λk=>(f k).2) ks) (Us _ g));intro m;induction m with
 |zero=>
  intro a S hm i;by_cases e:S.bM=[]
  .exact⟨S,.done e⟩
  exfalso;have h1:=Pz.bZ _ ks i.dj λx c=>i.sub x ((i.pd x).mpr (Rj.mp c));have h2:0<S.bM.length:=Ur.mpr e;rw[Q8]at h1;lia
 |succ m j=>
  intro a S hm i;by_cases e:S.bM=[]
  .exact⟨S,.done e⟩
  obtain⟨N,ended,bM⟩:=S;dsimp only at e;obtain⟨d,x,rfl⟩ : ∃d x,bM=d++[x]:=⟨bM.dropLast,bM.getLast e,(Tj _).symm⟩;have h1:=Pz.bZ _ ks i.dj λx c=>i.sub x ((i.pd x).mpr (Rj.mp c));have h2:=Pz.bZ _ ks i.nd i.sub;dsimp only at h1 h2;simp only[Q8,RN]at h1;obtain⟨b,r⟩:=j (a++[x]) _ (by simp;lia) (i.turn (λk=>(f k).1) nk);have:=h x;exact⟨b,.step (by lia) (by lia) r⟩
end
section
variable{Z:aF->List aF}{es ks w w':List aF}{n:Nat}{h hF:aF}
def out_iff{k:aF}:iU es k=true↔k∉es:=by unfold iU;simp
theorem MP(l:∀k∈ks,∀x∈Z k,x∈ks)(al:∀k∈ks,k∉es->∃x∈Z k,x∉es)(p:ks.length<=63):∀(m:Nat)(w:List aF)(h:aF),ks.length-w.length<=m->w.Nodup->(∀x∈w,x∈ks)->h∈ks->h∉es->∃w' hF,zd Z es ks (m+1) w h w' hF:=by
 intro m;induction m with
 |zero=>
  intro w h hm nd sub h1 h2;by_cases e:h∈w
  .exact⟨w,h,.done e⟩
  have:=Pz.bZ (w++[h]) ks (by rw[RC];exact⟨nd,by simp,λa ha b hb z=>by rw[Q9.mp hb]at z;exact e (z▸ha)⟩) λx f=>by grind
  rw[Q8,RN]at this;lia
 |succ m o=>
  intro w h hm nd sub h1 h2;by_cases e:h∈w
  .exact⟨w,h,.done e⟩
  have d:(w++[h]).Nodup:=by rw[RC];exact⟨nd,by simp,λa ha b hb z=>by rw[Q9.mp hb]at z;exact e (z▸ha)⟩
  have c:∀x∈w++[h],x∈ks:=λx f=>by grind
  have ln:=Pz.bZ (w++[h]) ks d c;rw[Q8,RN]at ln;obtain⟨x,f,g⟩:=al h h1 h2;cases i:(Z h).filter (iU es)with
  |nil=>exact absurd (out_iff.mpr g) (List.filter_eq_nil_iff.mp i x f)
  |cons y r=>have j:=Ru.mp (show y∈(Z h).filter (iU es) by rw[i];simp);obtain⟨w',hF,q⟩:=o (w++[h]) y (by simp;lia) d c (l h h1 y j.1) (out_iff.mp j.2);exact⟨w',hF,.step e h1 (by lia) (by rw[i];rfl) q⟩
def Pq(Z:aF->List aF)(w:List aF):Prop:=∀(i:Nat) x y,w[i]?=some x->w[i+1]?=some y->y∈Z x
def Cg(q:zd Z es ks n w h w' hF)(c:Pq Z w)(l:∀x,w.getLast?=some x->h∈Z x)(nd:w.Nodup)(sub:∀x∈w,x∈ks):Pq Z w'/\(∀x,w'.getLast?=some x->hF∈Z x)/\w'.Nodup/\∀x∈w',x∈ks:=by
 induction q with
 |done hm=>exact⟨c,l,nd,sub⟩
 |@step n w w' h h' hF hm o f j r k=>
  refine k (λi x y h1 h2=>?_) (λx d=>?_) (by rw[RC];exact⟨nd,by simp,λa ha b hb z=>by rw[Q9.mp hb]at z;exact hm (z▸ha)⟩) λx j=>by grind
  .have m:=(Q2.mp h2).1;rw[Q8,RN]at m;by_cases g:i+1<w.length
   .rw[RT (by lia)]at h1;rw[RT g]at h2;exact c i x y h1 h2
   .have e:i+1=w.length:=by lia
    rw[RT (by lia)]at h1;rw[R9 (by lia),e,Vs]at h2;cases h2;exact l x (by rw[List.getLast?_eq_getElem?,<- e,Nat.add_sub_cancel];exact h1)
  .rw[List.getLast?_append]at d;simp at d;subst d;exact(Ru.mp (List.mem_of_mem_head? j)).1
theorem Fg{zs d:List aF}{j:Nat}{h0:aF}(q:zd Z es ks n [] h0 w hF)(x:w[j]?=some hF)(g:ks.length<=63)(e:∀x∈ks,x∈d):qO (w.drop j) d Z:=by
 obtain⟨c,l,nd,sub⟩:=Cg q (λi x y h=>by simp at h) (λx h=>by simp at h) RI λx h=>nomatch h;have k:=(Q2.mp x).1;have ln:=Pz.bZ w ks nd sub;refine⟨nd.sublist (List.drop_sublist _ _),λz=>?_,by simp;lia,λy f=>e y (sub y (Ug f)),λi a b h1 h2=>?_,λa b h1 h2=>?_⟩
 .have:=Sy List.length z;simp at this;lia
 .rw[List.getElem?_drop]at h1 h2;exact c (j+i) a b h1 (by rw[<- h2];rfl)
 .rw[List.head?_drop,x]at h2;cases h2;exact l a (by rw[List.getLast?_drop,Rf (by lia)]at h1;exact h1)
end
def vA{l z c:List Int}(h:xc l z)(h':xc l c):z=c:=by
 have g:∀{z c:List Int},z.Pairwise (·< ·)->c.Pairwise (·< ·)->(∀x,x∈z↔x∈c)->z=c:=λ{z c} p f m=>by
  induction z generalizing c with
  |nil=>cases c with
   |nil=>rfl
   |cons b t=>exact absurd ((m b).mpr (by simp)) (by simp)
  |cons a t i=>cases c with
   |nil=>exact absurd ((m a).mp (by simp)) (by simp)
   |cons b t'=>
    rw[Uz]at p f;have e:a=b:=by
     rcases Q_.mp ((m a).mp (by simp))with e|h1
     .exact e
     .rcases Q_.mp ((m b).mpr (by simp))with e|h2
      .exact e.symm
      .have:=p.1 b h2;have:=f.1 a h1;lia
    subst e;rw[i p.2 f.2 λx=>?_];have:=m x;simp only[Q_]at this;constructor
    .intro d;rcases this.mp (.inr d)with e|h
     .subst e;exact absurd (p.1 x d) (by lia)
     .exact h
    .intro d;rcases this.mpr (.inr d)with e|h
     .subst e;exact absurd (f.1 x d) (by lia)
     .exact h
 exact g h.p h'.p λx=>(h.m x).trans (h'.m x).symm
def Ci{F:aF->List Int}{a:Int}{st r d:List Int}{f b:List aF}(h:lb F a st r f)(h':lb F a st d b):r=d/\f=b:=by
 induction h generalizing d b with
 |nil=>
  generalize e:([]:List Int)=s at h';cases h' with
  |nil=>exact⟨rfl,rfl⟩
  |snoc=>simp at e
 |@snoc st g f s c h so j=>
  generalize e:st++[s]=s2 at h';cases h' with
  |nil=>simp at e
  |snoc h2 i=>obtain⟨e1,e2⟩:=List.append_inj' e rfl;subst e1;cases e2;obtain⟨rfl,rfl⟩:=j h2;exact⟨vA so i,rfl⟩
def Gb(ks:List aF)(F:aF->List Int):Int->List Int->Prop
 |_,[]=>True
 |a,s::st=>(a,s)∈ks/\∀b∈F (a,s),Gb ks F b st
def Fi{ks:List aF}{F:aF->List Int}{a:Int}{st r:List Int}{e:List aF}(h:lb F a st r e)(g:∀x∈e,x∈ks):∀rest,(∀b∈r,Gb ks F b rest)->Gb ks F a (st++rest):=by
 induction h with
 |nil=>exact λrest h=>h a (by simp)
 |@snoc st f e s d h so i=>intro rest j;rw[RO];refine i (λx k=>g x (by simp[k])) _ λb hb=>⟨g _ (by simp;exact .inr hb),λc l=>j c ((so.m c).mpr (SE.mpr ⟨b,hb,l⟩))⟩
section
variable{RL:List Sp.Rule}{As:List Sp.Arr}{RW:List Rw}{ks:List aF}
def behind_iff{a b c:Int}:c∈aZ As (a,b)↔(a,b,c)∈As:=by refine⟨λh=>?_,fI⟩;obtain⟨⟨x,y,z⟩,d,e⟩:=Q3.mp h;have h1:=Ru.mp d;have h2:(x,y)=(a,b):=Rr h1.2;cases h2;have e:z=c:=e;subst e;exact h1.1
def Cj(i:∀r∈RL,r.2.2.2.length<=2)(f:CU RL As)(j:∀k∈ks,∀x∈Ls As RL k,x∈ks){x y:Rw}(m:LO RL x y)(c:Gb ks (aZ As) x.1 x.2):Gb ks (aZ As) y.1 y.2:=by
 obtain⟨r,e,w,rfl,rfl⟩:=m;have g:=i r e;obtain⟨a,s,t,put⟩:=r;obtain⟨c1,c2⟩:=c;have h:∀z∈bL (aZ As) (a,s,t,put),z∈ks:=λz hz=>j _ c1 z (qI e hz);rcases put with _|⟨p,_|⟨q,_|⟨o,l⟩⟩⟩
 .exact c2 t (fI (f.n _ _ _ e))
 .exact⟨h (t,p) (by show _∈[(t,p)];simp),λb hb=>c2 b (fI (f.o _ _ _ _ _ e (behind_iff.mp hb)))⟩
 .refine⟨h (t,p) (Q5),λb hb=>⟨h (b,q) (Q7 _ (Q3.mpr ⟨b,hb,rfl⟩)),λd hd=>c2 d (fI (f.t _ _ _ _ _ _ _ e (behind_iff.mp hb) (behind_iff.mp hd)))⟩⟩
 .simp at g
def Fj(d:∀r∈RL,r.2.2.2.length<=2)(e:CU RL As)(f:∀k∈ks,∀x∈Ls As RL k,x∈ks)(g:BM RL RW){s:Rw}(h0:RW[0]?=some s)(c:Gb ks (aZ As) s.1 s.2):∀(i:Nat) x,RW[i]?=some x->Gb ks (aZ As) x.1 x.2:=by
 intro i;induction i with
 |zero=>intro x a;rw[h0]at a;cases a;exact c
 |succ i h=>intro x a;obtain⟨u,b⟩ : ∃u,RW[i]?=some u:=⟨_,Q1 (by have:=(Q2.mp a).1;lia)⟩;exact Cj d e f (g i u x b a) (h u b)
inductive tP(L:aF->List aF):aF->aF->Prop
 |one {x y:aF} (h:y∈L x):tP L x y
 |more {x y z:aF} (h:y∈L x) (r:tP L y z):tP L x z
def vD(A:∀r∈RL,r.2.2.2.length<=2)(J:CU RL As)(B:BM RL RW):∀(n i j:Nat)(x y:Rw),j-i<=n->i<j->RW[i]?=some x->RW[j]?=some y->x.2≠[]->(∀l z,i<l->l<=j->RW[l]?=some z->x.2.length<=z.2.length)->tP (Ls As RL) (HU x) (HU y):=by
 intro n;induction n with
 |zero=>intro i j x y h1 h2;lia
 |succ n C=>
  intro i j x y h1 h2 K b nx hb;have P:j<RW.length:=(Q2.mp b).1;obtain⟨u,c⟩ : ∃u,RW[i+1]?=some u:=⟨_,Q1 (by lia)⟩;obtain⟨r,g,w,rfl,rfl⟩:=B i _ u K c;have D:=A r g;have E:=hb (i+1) _ (by lia) (by lia) c;obtain⟨a,s,t,put⟩:=r;rcases put with _|⟨p,_|⟨q,_|⟨o,l⟩⟩⟩
  .simp at E;lia
  .have m:(t,p)∈Ls As RL (a,s):=qI (r:=(a,s,t,[p])) g (by show _∈[(t,p)];simp);rcases SY (show i+1<=j from h2)with e|e
   .subst e;rw[c]at b;cases b;exact .one m
   .refine .more m (C (i+1) j _ y (by lia) e c b (λz=>nomatch z) λl z v f hz=>?_);have:=hb l z (by lia) f hz;simp at this ⊢;lia
  .have m:(t,p)∈Ls As RL (a,s):=qI (r:=(a,s,t,[p,q])) g Q5;by_cases d:∃l z,i+1<l/\l<=j/\RW[l]?=some z/\z.2.length<=w.length+1
   .obtain⟨l,z,v,f,hz,L⟩:=d;obtain⟨m2,G,M,Q,F,R,N⟩:=tG A B (m:=w.length+1) (l-(i+1)) (i+1) l _ z (by lia) c hz (by simp) L;obtain⟨g1,g2⟩:=Jb A J B (m2-(i+1)) (i+1) m2 t p (q::w) G (QY _) M c F (by simp;lia) λk z k1 k2 O=>by have:=N k z k1 k2 O;simp;lia
    obtain⟨H,st⟩:=G;have g1:st=q::w:=g1;subst g1;have I:(H,q)∈Ls As RL (a,s):=qI (r:=(a,s,t,[p,q])) g (Q7 _ (Q3.mpr ⟨H,fI g2,rfl⟩));rcases SY (show m2<=j by lia)with e|e
    .subst e;rw[F]at b;cases b;exact .one I
    .refine .more I (C m2 j _ y (by lia) e F b (λz=>nomatch z) λl z v f hz=>?_);have:=hb l z (by lia) f hz;simp at this ⊢;lia
   .rcases SY (show i+1<=j from h2)with e|e
    .subst e;rw[c]at b;cases b;exact .one m
    .refine .more m (C (i+1) j _ y (by lia) e c b (λz=>nomatch z) λl z v f hz=>?_);have:¬z.2.length<=w.length+1:=λh=>d ⟨l,z,v,f,hz,h⟩;simp;lia
  .simp at D
end
def Ck{Z:aF->List aF}{e:List aF}(b:yR Z e)(nd:e.Nodup){x y:aF}(p:tP Z x y):∀pre a,e=pre++x::a->y∈pre:=by
 induction p with
 |one h=>exact λpre a eq=>b pre _ a eq _ h
 |@more x y z h r c=>intro pre a eq;obtain⟨p1,p2,rfl⟩:=List.append_of_mem (b pre _ a eq _ h);exact RD _ (c p1 (p2++x::a) (by rw[eq,RO];rfl))
def Fk{Z:aF->List aF}{e:List aF}(a:yR Z e)(nd:e.Nodup){x:aF}(b:x∈e)(p:tP Z x x):False:=by obtain⟨p1,p2,rfl⟩:=List.append_of_mem b;have h:=Ck a nd p p1 p2 rfl;rw[RC]at nd;exact nd.2.2 x h x (by simp) rfl
def Cm{L a:aF->List aF}(h:∀k,∀x∈L k,x∈a k){x y:aF}(p:tP L x y):tP a x y:=by
 induction p with
 |one m=>exact .one (h _ _ m)
 |more m _ b=>exact .more (h _ _ m) b
section
variable{ro sg:Int}{RL:List Sp.Rule}{As:List Sp.Arr}{room:Int}{bq:List Int}
structure oG(ro sg:Int) (RL:List Sp.Rule) (As:List Sp.Arr) (room:Int) (bq:List Int):Prop where
 b:Bd ro sg
 r:ro<=7
 a:∀r∈RL,RR ro sg r
 c:CU RL As
 nd:As.Nodup
 u:∀a∈As,a∈gX ro sg ro
 m:0<=room/\room<ro
 s:∀x∈bq,0<=x/\x<sg
 l:bq.length<=5
def xb{x:aF}(h1:0<=x.1/\x.1<ro)(h2:0<=x.2/\x.2<sg):x∈Cc ro sg:=SE.mpr ⟨x.1.toNat,RG.mpr (by lia),Q3.mpr ⟨x.2.toNat,RG.mpr (by lia),U2 (by show((x.1.toNat:Nat):Int)=x.1;lia) (by show((x.2.toNat:Nat):Int)=x.2;lia)⟩⟩
def qK(h:Bd ro sg):(Cc ro sg).length<=28:=by
 have h2:=vz (λa:Nat=>(List.range sg.toNat).map λs=>(((a:Nat):Int),((s:Nat):Int))) sg.toNat (List.range ro.toNat) λx _=>by simp
 rw[UP]at h2;have h3:((ro.toNat*sg.toNat:Nat):Int)=ro*sg:=by have:=h.r;have:=h.s;rw[Int.natCast_mul];congr 1<;>lia
 have b:=h.m;have h2:(Cc ro sg).length<=ro.toNat*sg.toNat:=h2;lia
def oG.ls(g:oG ro sg RL As room bq){k x:aF}(h:x∈Ls As RL k):x∈Cc ro sg:=by obtain⟨r,b,c⟩:=SE.mp h;have:=tH g.u (g.a r (Ru.mp b).1) c;exact xb this.1 this.2
def Gc{l z:List aF}(h:kc l z):z.Nodup:=h.p.imp λ{a b} h e=>by subst e;exact qB h
def oG.z(g:oG ro sg RL As room bq){Z:aF->List aF}(a:∀k,kc (Ls As RL k) (Z k))(k:aF):(Z k).Nodup/\(Z k).length<=63/\∀x∈Z k,x∈Cc ro sg:=by have sub:∀x∈Z k,x∈Cc ro sg:=λx c=>g.ls (((a k).m x).mp c);have:=Pz.bZ _ _ (Gc (a k)) sub;have:=qK g.b;exact⟨Gc (a k),by lia,sub⟩
def oG.dE(g:oG ro sg RL As room bq):Cr (aZ As) ((List.range ro.toNat).map λi=>((i:Nat):Int)):=by refine⟨λk=>Rx (nP g.nd g.u k) (by have:=g.r;lia),λk x b=>?_,by have:=g.r;rw[Q0,UP];lia⟩;obtain⟨a,ha,rfl⟩:=Q3.mp b;have:0<=a.2.2/\a.2.2<ro:=(univ_mem.mp (g.u a (Ru.mp ha).1)).2.2;exact Q3.mpr ⟨a.2.2.toNat,RG.mpr (by lia),by lia⟩
def oG.own(g:oG ro sg RL As room bq){st a:List Int}{d:List aF}(h:lb (aZ As) room st a d)(b:∀x∈st,0<=x/\x<sg):(∀x∈a,0<=x/\x<ro)/\∀x∈d,x∈Cc ro sg:=by
 induction h with
 |nil=>exact⟨λx hx=>by rw[Q9.mp hx];exact g.m,λ_ h=>nomatch h⟩
 |@snoc st a d s c h so e=>
  obtain⟨f,i⟩:=e λx hx=>b x (by simp[hx]);refine⟨λx hx=>?_,λx hx=>?_⟩
  .obtain⟨r,_,hx⟩:=SE.mp ((so.m x).mp hx);have:=univ_mem.mp (g.u _ (behind_iff.mp hx));exact this.2.2
  .rcases Rj.mp hx with hx|hx
   .exact i x hx
   .obtain⟨r,j,rfl⟩:=Q3.mp hx;exact xb (f r j) (b s (by simp))
def oG.am(g:oG ro sg RL As room bq):Bo RL As room bq:=by intro Z c a d ow;obtain⟨_,h2⟩:=g.own ow g.s;have bl:=qK g.b;have e:=(ow.dE g.dE (Q3.mpr ⟨room.toNat,RG.mpr (by have:=g.m;lia),by have:=g.m;lia⟩)).2;have:=g.l;exact MN (U:=Cc ro sg) (by lia) (λk=>(g.z d k).2) _ [] c (QY _) (by simp;lia) RI (λ_ h=>nomatch h) h2
structure Ak(RL:List Sp.Rule) (As:List Sp.Arr) (room:Int) (bq:List Int) (Z:aF->List aF) (ks:List aF):Prop where
 nd:ks.Nodup
 n:ks.length<=63
 c:∀k∈ks,∀x∈Z k,x∈ks
 v:Gb ks (aZ As) room bq
theorem oG.ak(g:oG ro sg RL As room bq){Z:aF->List aF}{ks:List aF}(h:yZ RL As room bq Z ks):Ak RL As room bq Z ks:=by obtain⟨d,i,a,n,ow,am⟩:=h;have nd:=MM am RI;have sub:=Ga am (·∈ Cc ro sg) (λk _ x e=>(g.z d k).2.2 x e) (λ_ h=>nomatch h) (g.own ow g.s).2;have:=Pz.bZ _ _ nd sub;have:=qK g.b;have c:=Fi ow (Ce am).2 [] λ_ _=>True.intro;rw[R_]at c;exact⟨nd,by lia,Cf am (λk f=>nomatch f),c⟩
def Fo{Z f:aF->List aF}{ks a:List aF}(h:yZ RL As room bq Z ks)(h':yZ RL As room bq f a):Z=f/\∀x∈ks,x∈a:=by obtain⟨l,r,g,n,ow,am⟩:=h;obtain⟨b,o,d,s,i,c⟩:=h';have e:Z=f:=funext λk=>kX (l k).p (b k).p λx=>((l k).m x).trans ((b k).m x).symm;subst e;obtain⟨_,rfl⟩:=Ci ow i;exact⟨rfl,Ga am (·∈ a) (λk j x q=>Cf c (λk j=>nomatch j) k j x q) (λ_ h=>nomatch h) (Ce c).2⟩
def oG.kl(g:oG ro sg RL As room bq){Z:aF->List aF}{ks:List aF}{n:Nat}{b:KS}(h:yZ RL As room bq Z ks)(l:KL (iN (jy Z ks)) n (CY Z ks) b):b.ended.Nodup/\b.ended.length<=63/\(∀k∈ks,k∉b.ended->∃x∈Z k,x∉b.ended)/\yR Z b.ended:=by
 have A:=g.ak h;obtain⟨a,i,e⟩:=Je (λk=>(g.z h.s k).1) A.nd l [] (.first A.c A.nd);have le:=Pz.bZ _ ks i.nd i.sub;refine⟨i.nd,by have:=A.n;lia,λk f j=>?_,i.ord⟩;have h1:¬cN Z a k=0:=λz=>j ((i.MS k f).mpr z);rw[cN_zero]at h1;have h1:∃x∈Z k,x∉a:=by apply Sq;intro z;exact h1 λx d=>Sq λq=>z ⟨x,d,q⟩
 obtain⟨x,d,m⟩:=h1;refine⟨x,d,λz=>?_⟩;rcases(i.pd x).mp z with q|q
 .exact m q
 .rw[e]at q;cases q
def oG.rg(g:oG ro sg RL As room bq):Ib RL As room bq:=by intro Z ks h;have A:=g.ak h;have b:qP Z ks [] (CY Z ks):=.first A.c A.nd;obtain⟨a,l⟩:=MO (λk=>⟨(g.z h.s k).1,(g.z h.s k).2.1⟩) A.nd A.n _ [] _ (QY _) b;obtain⟨e1,e2,e3,_⟩:=g.kl h l;refine⟨A.nd,by have:=A.n;lia,λk=>(g.z h.s k).2.1,_,a,l,e1,by lia,λh0 r d=>?_⟩;have hm:=Ru.mp (show h0∈ks.filter (iU a.ended) by rw[d];simp);obtain⟨w,e,q⟩:=MP A.c e3 A.n _ [] h0 (QY _) RI (λ_ h=>nomatch h) hm.1 (out_iff.mp hm.2);exact⟨_,w,e,q⟩
theorem oG.yes(g:oG ro sg RL As room bq){zs:List aF}(h:vL RL As room bq (some zs)){Z a:aF->List aF}{ks b:List aF}(ha:yZ RL As room bq Z ks)(c:∀k,kc (Ls As RL k) (a k))(hm:∀x,x∈b↔x∈ks):qO zs b a:=by
 cases h with
 |@yes d f r w n m j o h0 t g' l e q x=>obtain⟨rfl,sub⟩:=Fo g' ha;have e:a=d:=funext λk=>kX (c k).p (g'.s k).p λx=>((c k).m x).trans ((g'.s k).m x).symm;subst e;exact Fg (zs:=[]) q x (g.ak g').n λx i=>(hm x).mpr (sub x i)
theorem oG.no(g:oG ro sg RL As room bq)(h:vL RL As room bq none){b:List Rw}(i:∀r∈RL,r.2.2.2.length<=2)(o:BM RL b)(h0:b[0]?=some (room,bq)):ER b:=by
 cases h with
 |@no Z ks n q g' l e=>
  have A:=g.ak g';obtain⟨e1,_,_,ord⟩:=g.kl g' l;have t:∀k∈ks,∀x∈Ls As RL k,x∈ks:=λk d x a=>A.c k d x (((g'.s k).m x).mpr a);intro k j x y f a u nx hb eq;have p:=vD i g.c o (j-k) k j x y (QY _) f a u nx hb;rw[<- eq]at p;have w:=Fj i g.c t o h0 A.v k x a;have d:HU x∈ks:=by
   obtain⟨x1,_|⟨c,r⟩⟩:=x
   .exact absurd rfl nx
   .exact w.1
  have B:HU x∈q.ended:=Sq λz=>absurd (out_iff.mpr z) (List.filter_eq_nil_iff.mp e _ d);exact Fk ord e1 B (Cm (λk x a=>((g'.s k).m x).mpr a) p)
end
def Jf(ns:List Int)(o:ns.length<=63):ti [.lst (ns.map .int)]=.ok (.val (.bl true) true []):=by
 obtain⟨x0,c0⟩:=qH ns 0 (by decide);obtain⟨y,z,m0⟩:=tF x0;obtain⟨x1,c1⟩:=qH ns 1 (by decide);obtain⟨k,c2⟩:=qH ns 2 (by decide);obtain⟨place,_,m2⟩:=tF k;have h:Bd (1+y%3) (1+y/3%4):=ML (R:=3) (S:=4) (by lia) (by lia) (by decide) (by decide) (by decide) (by decide) (by decide);have e:∀env,Pu env (.lst (ns.map .int)) false (1+y%3) true (1+y/3%4) true (y/48%13) true->L6 IV env=.ok (.rt (.val (.bl true) true [])):=λenv q=>Il ⟨ns,_,_,_,false,true,true,true,x0,x1,y,k,place,q,h.r,h.s,h.m,by lia,o,c0,m0,c1,c2,m2,λRL f i=>by obtain⟨t,P,u,v⟩:=Cd h f i;refine⟨t,P,λbq l j=>?_⟩;have d:0<=place%(1+y%3)/\place%(1+y%3)<1+y%3:=⟨Int.emod_nonneg _ (by lia),Int.emod_lt_of_pos _ (by lia)⟩;have g:oG (1+y%3) (1+y/3%4) RL (t.map (·.1)) (place%(1+y%3)) bq:=⟨h,by lia,f,u,P.nd,v,d,j,l⟩;exact⟨⟨_,g.dE,Q3.mpr ⟨(place%(1+y%3)).toNat,RG.mpr (by lia),by lia⟩⟩,g.am,λZ ks h=>(g.ak h).n,g.rg,λzs h Z ks A l a b c=>g.yes h a b c,λh B w h0=>g.no h (λr x=>(f r x).p) w h0⟩⟩;simp_arith[ti,F9,w_,w8,w6,c0,m0];rw[e]
 .rfl
 .exact⟨rfl,rfl,rfl,rfl,rfl⟩
end W
open PySem PySem.W PyProof.Rows
set_option maxRecDepth 100000 in
set_option maxHeartbeats 0 in
theorem PySem.Challenge.cw_callwalk_k44_ring_is_a_ring_holds : PySem.Challenge.rw_callwalk_k44_ring_is_a_ring.Holds := by
 w_on;refine PySem.W.Ea ?_
 k_fill
 refine L2.Ae (l:=PySem.Challenge.rw_callwalk_k44_ring_is_a_ring) (n:=63) (k:=12) (x:="_law_script") (CX:=fun w=>L2.fW) (sp:=fun _=>L3.Nf W.ti) rfl (by decide) rfl ⟨rfl,by decide,by decide⟩ (fun w h Y=>PySem.W.kIn_of Y) ?kL ?F ?S ?C
 case kL=>exact fun w=>⟨by rfl,by rfl⟩
 case F=>
  intro w mg fa h KX G hmg
  refine' Exists.imp (fun _ z=>⟨z.1,fun base _ _=>z.2 base⟩) (W.I_ hmg ?_)
  refine' (W.MJ KX G L2.xM (L4.fk ?_ ?_ ?_) (L4.fk ?_ ?_ ?_) (L4.fk ?_ ?_ ?_) (L4.fk ?_ ?_ ?_) (L4.fk ?_ ?_ ?_) (L4.fk ?_ ?_ ?_) (L4.fk ?_ ?_ ?_) (L4.fk ?_ ?_ ?_) (L4.fk ?_ ?_ ?_) (L4.fk ?_ ?_ ?_) (L4.fk ?_ ?_ ?_) (L4.fk ?_ ?_ ?_) (L4.fk ?_ ?_ ?_) (L4.fk ?_ ?_ ?_) (L4.fk ?_ ?_ ?_) (L4.fk ?_ ?_ ?_) (L4.fk ?_ ?_ ?_) (L4.fk ?_ ?_ ?_) (L4.fk ?_ ?_ ?_) (L4.fk ?_ ?_ ?_) (L4.fk ?_ ?_ ?_) (L4.fk ?_ ?_ ?_) (L4.fk ?_ ?_ ?_) (L4.fk ?_ ?_ ?_) (L4.fk ?_ ?_ ?_) (L4.fk ?_ ?_ ?_) ?_ ?_ ?_ ?_ ?_ ?_ ?_ ?_ ?_ ?_ ?_ ?_ ?_ ⟨?_,?_,?_,?_,?_,?_,?_⟩ ?_ ?_ ⟨?_,?_,?_,?_,?_,?_,?_⟩ ?_ ?_ ?_ ?_ ?_ (L4.mk ?_ ?_ ?_ ?_ ?_) (L4.mk ?_ ?_ ?_ ?_ ?_) (L4.mk ?_ ?_ ?_ ?_ ?_) (L4.mk ?_ ?_ ?_ ?_ ?_) (L4.mk ?_ ?_ ?_ ?_ ?_) (L4.mk ?_ ?_ ?_ ?_ ?_) (L4.mk ?_ ?_ ?_ ?_ ?_) (L4.mk ?_ ?_ ?_ ?_ ?_) (L4.mk ?_ ?_ ?_ ?_ ?_))
  all_goals try k_is
 case S=>exact fun w H a ns hl hS=>L3.Hl (fun ns hn=>⟨_,_,W.Jf ns hn⟩) H a ns hl hS
 case C=>exact fun _ _ _ _ _ z=>z
