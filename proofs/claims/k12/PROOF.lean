import PyProof.Rows.All
import Wide.All
import OpenK.AllK
import PySem.Challenge.RW_callwalk_k12_listing
section
open PySem PySem.W PyProof.Rows
def PySem.W.Vw:Program:={PySem.Challenge.pw_callwalk_k12_listing with main:={PySem.Challenge.pw_callwalk_k12_listing.main with body:=PySem.Challenge.pw_callwalk_k12_listing.main.body.filter fun s=>match s with|.FunctionDef ..=>true|.ClassDef ..=>true|_=>false}}
local macro_rules | `(tactic| o_head $H) => `(tactic| refine holds_open (q := PySem.W.Vw) (loose := []) (Xt := fun s => xlAt PySem.W.Vw [] s && recOk (RowW.records PySem.Challenge.rw_callwalk_k12_listing.row.toRowW) s) (XP := XL PySem.W.Vw []) (Yf := Hook.obs $H) (Ya := Hook.val $H) (YP := Hook.says $H) (N := 1000) (fun w => by kernel_rfl) (Hook.of $H) (Hook.keeps $H) (fun s e => xl_of s (Bool.and_eq_true_iff.mp e).1) XL.keeps (by rfl) (by rfl) (by rfl) (fun s e => recFacts_of (Bool.and_eq_true_iff.mp e).2) (by rfl) (by first | assumption | decide +kernel) (by decide +kernel) ⟨rfl, rfl, rfl, rfl, rfl, by decide +kernel⟩ ?_ ?_)
set_option Elab.async false
set_option maxRecDepth 100000
set_option maxHeartbeats 0
def PySem.W.Ea:=fun hc=>(by
 w_on;o_law;k_head;(· w_witness2)
 exact hc:PySem.Challenge.rw_callwalk_k12_listing.Holds)
end
set_option autoImplicit true
set_option Elab.async false
set_option linter.all false
set_option genSizeOf false
set_option genSizeOfSpec false
set_option compiler.extract_closed false
set_option maxRecDepth 100000
set_option maxHeartbeats 4000000
set_option bootstrap.genMatcherCode false
noncomputable section
open PySem.W(keepIn fnOf codeIn nsIn)
abbrev bo:=@PySem.wpAny_bind
abbrev bE:=@List.getElem?_eq_some_iff
abbrev bF:=@PySem.wpAny_pure
abbrev cj:=@PySem.Heap.get?_push_of_some
abbrev ck:=@if_pos
abbrev cM:=@List.length_map
abbrev cN:=@Nat.le_refl
abbrev cO:=@if_neg
abbrev cP:=@List.getElem?_append_right
abbrev cQ:=@List.size_toArray
abbrev db:=@decide_eq_true
abbrev eG:=@List.getElem?_set_ne
abbrev fC:=@List.append_assoc
abbrev fV:=@List.map_cons
abbrev gy:=@Bool.false_eq_true
abbrev gA:=@Array.getElem?_toList
abbrev gY:=@List.getElem?_append_left
abbrev gZ:=@List.mem_append
abbrev g4:=@List.mem_iff_getElem?
abbrev iA:=@decide_eq_false
abbrev i6:=@PyProof.Rows.wpS_bind
abbrev i7:=@List.getElem?_set_self
abbrev jY:=@PySem.Heap.get?_push_size
abbrev jZ:=@PySem.Heap.lt_size
abbrev j3:=@List.mem_map
abbrev j5:=@List.mem_cons
abbrev j7:=@PyProof.Rows.wpS_pure
abbrev j8:=@List.pairwise_iff_getElem
abbrev lN:=@Nat.le_trans
abbrev lO:=@List.length_cons
abbrev lP:=@List.mem_append_left
abbrev lQ:=@List.mem_singleton
abbrev lR:=@List.take_append_drop
abbrev ol:=@List.getElem?_map
abbrev p6:=@List.mem_append_right
abbrev p7:=@Array.length_toList
abbrev uB:=@List.mem_cons_self
abbrev v9:=@List.map_map
abbrev CF:=@List.mem_cons_of_mem
abbrev KE:=@List.length_append
abbrev N3:=@Nat.zero_le
abbrev N4:=@List.map_append
abbrev N5:=@List.length_take
abbrev N6:=@Nat.lt_of_lt_of_le
abbrev N7:=@congrArg
abbrev N8:=@List.mem_range
abbrev N9:=@Nat.ne_of_lt
abbrev N_:=@Option.map_eq_some_iff
abbrev Oa:=@PySem.PassesOwn.never
abbrev Ob:=@List.pairwise_cons
abbrev Oc:=@List.pairwise_map
abbrev Od:=@PySem.sizeLine_eq
abbrev Oe:=@List.take_of_length_le
abbrev Of:=@Bool.and_eq_true
abbrev Og:=@List.getElem?_eq_none
abbrev Oh:=@if_false
abbrev Oi:=@Option.some.inj
abbrev Oj:=@Array.toList_append
abbrev Ol:=@List.getElem?_eq_getElem
abbrev Om:=@List.all_eq_true
abbrev On:=@PySem.wpAny_holding
abbrev Oo:=@List.append_nil
abbrev Oq:=@PySem.W.mg_none_of
abbrev Os:=@PySem.Heap.SameBut.update
abbrev Ot:=@List.map_congr_left
abbrev Ou:=@Nat.le_of_lt
abbrev Ov:=@List.mem_of_mem_take
abbrev Ow:=@PySem.wpAny_call_entry
abbrev Ox:=@PyProof.Rows.slot_tuple_getitem
abbrev Oy:=@PySem.wpAny_newObj_type
abbrev Oz:=@Ne.symm
abbrev OA:=@PySem.F.slot_dict_itemiterator_next
abbrev OB:=@PySem.wpAny_setState_of
abbrev OC:=@List.drop_eq_getElem_cons
abbrev OD:=@List.mem_of_getElem?
abbrev OE:=@List.pairwise_append
abbrev OF:=@PySem.Heap.get?_update_other
abbrev OG:=@List.drop_of_length_le
abbrev OH:=@Bool.not_true
abbrev OI:=@List.getElem?_take
abbrev OJ:=@PySem.W.kia_one
abbrev OK:=@PyProof.Rows.wpS_forRange
abbrev OL:=@List.mem_map_of_mem
abbrev OM:=@PySem.wpAny_callSpecial?_slot
abbrev ON:=@List.ext_getElem?
abbrev OO:=@PyProof.Rows.wpS_mono
abbrev OP:=@List.mem_of_mem_drop
abbrev OQ:=@List.length_set
abbrev OR:=@PyProof.Rows.F.plain_set_update_loop
abbrev OS:=@PySem.W.mg_of
abbrev OT:=@PySem.wpAny_mono
abbrev OU:=@PySem.Heap.get?_update_self
abbrev OV:=@List.pairwise_singleton
abbrev OW:=@Array.getElem?_eq_some_iff
abbrev OX:=@PySem.wpAny_truthy_bool
abbrev OY:=@PySem.mem_of_lookup
abbrev OZ:=@List.take_sublist
abbrev O0:=@decide_eq_true_eq
abbrev O1:=@Classical.byContradiction
abbrev O2:=@List.foldl_cons
abbrev O3:=@PySem.wpAny_typeNameOfWhole_itemiter
abbrev O4:=@List.Pairwise.imp_of_mem
abbrev O5:=@List.filter_cons
abbrev O6:=@PySem.F.slot_tuple_hash
abbrev O7:=@Nat.add_sub_cancel_left
abbrev O8:=@List.drop_zero
abbrev O9:=@List.mem_filter
abbrev O_:=@if_true
abbrev Pa:=@List.find?_cons
abbrev Pb:=@Bool.eq_iff_iff
abbrev Pc:=@List.length_drop
abbrev Pd:=@Nat.lt_irrefl
abbrev Pe:=@Bool.false_ne_true
abbrev Pf:=@PySem.tupleKind_room_in1
abbrev Pg:=@PySem.F.slot_dict_get
abbrev Ph:=@List.perm_append_comm
abbrev Pi:=@Int.emod_lt_of_pos
abbrev Pj:=@List.nodup_nil
abbrev Pk:=@PySem.wpAny_typeNameOf_itemiter
abbrev Pl:=@List.take_succ_eq_append_getElem
abbrev Po:=@PySem.wpAny_passesOwn
abbrev Pp:=@PySem.wpAny_specialOf
abbrev Pq:=@List.drop_sublist
abbrev Ps:=@Array.toList_push
abbrev Pt:=@bne_self_eq_false
abbrev Pu:=@List.nodup_append
abbrev Pw:=@PySem.Paired.length
abbrev Px:=@List.any_cons
abbrev Py:=@PySem.F.args_dict_get_3
abbrev Pz:=@PySem.F.plainAttrs_dict
abbrev PB:=@Sum.inl.inj
abbrev PC:=@List.length_reverse
abbrev PF:=@PySem.wpAny_getItem_str_slice
abbrev PH:=@List.nodup_range
abbrev PJ:=@PySem.wpAny_forIn_list
abbrev PK:=@List.not_mem_nil
abbrev PL:=@Nat.le_of_not_lt
abbrev PM:=@List.lookup_cons
abbrev PN:=@List.any_eq_true
abbrev PP:=@List.eq_nil_of_length_eq_zero
abbrev PQ:=@PySem.F.entry_dict_get
abbrev PR:=@Array.forIn_toList
abbrev PU:=@PySem.F.slot_dict_setdefault
abbrev PV:=@PySem.wpAny_setField_rec
abbrev PX:=@PyProof.Rows.callWith_type1
abbrev PY:=@List.length_singleton
abbrev PZ:=@PySem.codeAny_builtin
abbrev P1:=@Int.emod_nonneg
abbrev P2:=@PySem.wpAny_pyIter_list
abbrev P3:=@Int.toNat_natCast
abbrev P4:=@Nat.add_assoc
abbrev P5:=@of_decide_eq_true
abbrev P6:=@PySem.wpAny_dictEntries
abbrev P7:=@List.foldl_append
abbrev P8:=@List.mem_iff_getElem
abbrev P9:=@Array.toList_extract
abbrev P_:=@Array.toList_reverse
abbrev Qa:=@Bool.false_and
abbrev Qb:=@List.getElem?_zip_eq_some
abbrev Qc:=@PyProof.Rows.F.entry_set_update_loop
abbrev Qd:=@PySem.wpAny_isInstance
abbrev Qe:=@List.getElem_mem
abbrev Qf:=@List.filterMap_cons
abbrev Qg:=@PySem.Heap.SameBut.extBut
abbrev Qh:=@PySem.F.args_tuple_add_2
abbrev Qi:=@Nat.zero_add
abbrev Qj:=@List.mem_filterMap
abbrev Qk:=@List.nodup_cons
abbrev Ql:=@PySem.F.entry_tuple_add
abbrev Qm:=@PySem.W.KasT.kasWp_bind
abbrev Qn:=@List.length_eq_zero_iff
abbrev Qo:=@List.length_nil
abbrev Qp:=@PyProof.Rows.listUpdate_at
abbrev Qq:=@List.getElem?_drop
abbrev Qr:=@List.getElem?_cons_succ
abbrev Qs:=@Option.map_some
abbrev Qu:=@List.getElem?_replicate
abbrev Qw:=@PySem.F.slot_tuple_add
abbrev Qx:=@PySem.Calls.callWith_builtin
abbrev Qy:=@PySem.wpAny_isOneOf_itemiter
abbrev Qz:=@PySem.wpAny_field
abbrev QA:=@Nat.lt_trichotomy
abbrev QB:=@PySem.wpAny_storeSet_of
abbrev QC:=@List.take_add_one
abbrev QD:=@Nat.lt_succ_of_lt
abbrev QE:=@PySem.wpAny_pyIter_slot
abbrev QF:=@List.take_zero
abbrev QI:=@Nat.ne_of_gt
abbrev QJ:=@List.length_replicate
abbrev QK:=@PySem.wpAny_typeOf
abbrev QL:=@PySem.call_meetsIn
abbrev QM:=@List.pairwise_reverse
abbrev QN:=@List.getElem?_reverse
abbrev QO:=@List.set_getElem_self
abbrev QP:=@List.length_filter_le
abbrev QQ:=@Classical.choose_spec
abbrev QR:=@List.all_map
abbrev QS:=@List.drop_append_of_le_length
abbrev QT:=@List.mem_reverse
abbrev QU:=@List.take_append_of_le_length
abbrev QV:=@List.drop_length
abbrev QW:=@PySem.Around.under_plainId
abbrev QX:=@List.range_eq_range'
abbrev QY:=@Array.getElem?_setIfInBounds
abbrev QZ:=@PySem.wpAny_attempt
abbrev Q0:=@PySem.F.type_dict_setdefault
abbrev Q1:=@PySem.wpAny_rule
abbrev Q2:=@PySem.wpAny_execs_nil
abbrev Q3:=@PyProof.Rows.seqEpoch_at
abbrev Q4:=@Nat.min_eq_left
abbrev Q5:=@PySem.post_val_or_str
abbrev Q6:=@PySem.codeAny_mono
abbrev Q7:=@Prod.ext
abbrev Q8:=@List.map_nil
abbrev Q9:=@Nat.lt_or_gt_of_ne
abbrev Q_:=@Nat.add_sub_cancel
abbrev Ra:=@List.any_map
abbrev Rb:=@decide_eq_true_iff
abbrev Rc:=@PySem.wpAny_seqItems
abbrev Re:=@Bool.and_false
abbrev Rf:=@PySem.Heap.size_push
abbrev Rg:=@List.Perm.refl
abbrev Rh:=@PySem.wpAny_setField
abbrev Ri:=@List.take_left
abbrev Rj:=@PySem.W.kitx_dict
abbrev Rk:=@Option.isSome_map
abbrev Rl:=@Nat.le_of_lt_succ
abbrev Rm:=@ite_congr
abbrev Rn:=@Bool.and_self
abbrev Ro:=@Sum.inr.inj
abbrev Rp:=@Nat.lt_succ_self
abbrev Rr:=@List.cons_append
abbrev Rt:=@Nat.max_eq_right
abbrev Ru:=@List.take_length
abbrev Rv:=PySem.Shared
abbrev Rx:=PySem.W.Frag
abbrev Ry:=PySem.Program
abbrev Rz:=PySem.Value
abbrev RA:=PySem.Around
def RG(h : True := by rfl) : True := h
def RJ:Lean.Syntax:=RG._auto_1
def RB(h : True := by decide) : True := h
def ab:Lean.Syntax:=RB._auto_1
def RE(h : ∀u : Unit, u = u := by intro _; rfl) : True := True.intro
def RI:Lean.Syntax:=RE._auto_1
def RC(h : True := by first|exact .inl rfl|exact .inr rfl|assumption) : True := h
def RH:Lean.Syntax:=RC._auto_1
def RD(h : True := by first|exact Or.inl rfl|exact Or.inr (Or.inl rfl)|exact Or.inr (Or.inr rfl)) : True := h
def RF(h : True := by intro _ _; rfl) : True := h

namespace L2
open PySem PySem.Spec PyProof.Rows
noncomputable abbrev bu:=Sum Int Str
noncomputable def gO:bu->Rz->Bool
 |.inl k,v=>Value.isInt k v
 |.inr x,v=>Value.isStrOf x v
noncomputable def Jv(w:World):bu->Int
 |.inl k=>hashInt k
 |.inr x=>hashStr w x
def aH:∀{k:bu}{v:Rz},gO k v=true->(∃i t,k=Sum.inl i/\v=Value.int i t)\/(∃x t,k=Sum.inr x/\v=Value.str x t)
 |.inl i,v,h=>by obtain⟨t,e⟩:=Value.isInt_shape (k:=i) (v:=v) h;exact .inl ⟨i,t,rfl,e⟩
 |.inr x,v,h=>by obtain⟨t,e⟩:=Value.isStrOf_shape (x:=x) (v:=v) h;exact .inr ⟨x,t,rfl,e⟩
def oR(i:Int)(t:Tok):gO (.inl i) (.int i t)=true:=by simp[gO,Value.isInt]
def ye(x:Str)(t:Tok):gO (.inr x) (.str x t)=true:=by simp[gO,Value.isStrOf]
def Ga(a b:Int):decide ((Sum.inl a:bu)=Sum.inl b)=(a==b):=by grind
def Gb(a b:Str):decide ((Sum.inr a:bu)=Sum.inr b)=decide (a=b):=by grind
def Gc(a:Int)(b:Str):decide ((Sum.inl a:bu)=Sum.inr b)=false:=iA (λq=>nomatch q)
def Ge(a:Str)(b:Int):decide ((Sum.inr a:bu)=Sum.inl b)=false:=iA (λq=>nomatch q)
def aq(prog:Ry)(w:World):PySem.KeyKind prog w bu where
 is:=gO
 hash:=Jv w
 inj:=λv a b ha hb=>by
  rcases aH ha with⟨i,t,rfl,rfl⟩|⟨x,t,rfl,rfl⟩
  .rcases aH hb with⟨j,u,rfl,e⟩|⟨y,u,rfl,e⟩
   .injection e with e1 _;rw[e1]
   .exact nomatch e
  .rcases aH hb with⟨j,u,rfl,e⟩|⟨y,u,rfl,e⟩
   .exact nomatch e
   .injection e with e1 _;rw[e1]
 byValue:=λk v h=>by rcases aH h with⟨i,t,rfl,rfl⟩|⟨x,t,rfl,rfl⟩<;>rfl
 pyHash:=λhv h=>by
  rcases aH hv with⟨i,t,rfl,rfl⟩|⟨x,t,rfl,rfl⟩
  .exact wpAny_pyHash_int h
  .exact wpAny_pyHash_str h
 eqBool:=λhu hv h=>by
  rcases aH hu with⟨i,t,rfl,rfl⟩|⟨x,t,rfl,rfl⟩
  .rcases aH hv with⟨j,u,rfl,rfl⟩|⟨y,u,rfl,rfl⟩
   .rw[Ga]at h;exact wpAny_eqBool_int h
   .rw[Gc]at h;exact SeqAt.EqAt.int_str i t y u _ _ _ _ h
  .rcases aH hv with⟨j,u,rfl,rfl⟩|⟨y,u,rfl,rfl⟩
   .rw[Ge]at h;exact SeqAt.EqAt.str_int x t j u _ _ _ _ h
   .rw[Gb]at h;exact wpAny_eqBool_str h
 «strs»:=λk x t v h=>by
  rcases aH h with⟨i,u,rfl,e⟩|⟨y,u,rfl,e⟩
  .exact nomatch e
  .injection e with e1 _;subst e1;cases v<;>rfl
def rV(prog:Ry)(w:World)(i:Int)(t:Tok):(aq prog w).is (.inl i) (.int i t)=true:=oR i t
def rW(prog:Ry)(w:World)(x:Str)(t:Tok):(aq prog w).is (.inr x) (.str x t)=true:=ye x t
inductive V where
 |fU|bl (b:Bool)|int (i:Int)|str (x:Str)|LQ (b:Array UInt8)|Jr (b:UInt64)|ref (a:Addr)|ty (n:String)
 deriving DecidableEq
noncomputable def RelV:V->Rz->Prop
 |.fU,u=>u=Value.none
 |.bl b,u=>u=Value.bool b
 |.int i,u=>∃t,u=Value.int i t
 |.str x,u=>∃t,u=Value.str x t
 |.LQ b,u=>∃t,u=Value.bytes b t
 |.Jr b,u=>∃t,u=Value.float b t
 |.ref a,u=>u=Value.ref a
 |.ty n,u=>u=Value.type n
abbrev Vals:List V->List Rz->Prop:=Paired RelV
theorem Vals.length(r:Vals xs us):xs.length=us.length:=Pw r
theorem Vals.get:∀{xs:List V}{us:List Rz}{i:Nat}{x:V},Vals xs us->xs[i]?=some x->∃u,us[i]?=some u/\RelV x u
 |_,_,_,_,.nil,e=>by simp at e
 |_,_,0,_,.cons r _,e=>by simp at e;subst e;exact⟨_,rfl,r⟩
 |_,_,i+1,x,.cons _ t,e=>by obtain⟨u,h1,h2⟩:=Vals.get (i:=i) (x:=x) t (by simpa using e);exact⟨u,by simpa using h1,h2⟩
theorem Vals.set(r:RelV x u):∀{xs:List V}{us:List Rz}(i:Nat),Vals xs us->Vals (xs.set i x) (us.set i u)
 |_,_,_,.nil=>.nil
 |_,_,0,.cons _ t=>.cons r t
 |_,_,i+1,.cons q t=>.cons q (Vals.set r i t)
theorem Vals.append:∀{xs ys:List V}{us ws:List Rz},Vals xs us->Vals ys ws->Vals (xs++ys) (us++ws)
 |_,_,_,_,.nil,s=>s
 |_,_,_,_,.cons r t,s=>.cons r (Vals.append t s)
theorem Vals.take:∀{xs:List V}{us:List Rz}(n:Nat),Vals xs us->Vals (xs.take n) (us.take n)
 |_,_,0,_=>.nil
 |_,_,_+1,.nil=>.nil
 |_,_,n+1,.cons r t=>.cons r (Vals.take n t)
theorem Vals.drop:∀{xs:List V}{us:List Rz}(n:Nat),Vals xs us->Vals (xs.drop n) (us.drop n)
 |_,_,0,r=>r
 |_,_,_+1,.nil=>.nil
 |_,_,n+1,.cons _ t=>Vals.drop n t
def RelO:Option V->Option Rz->Prop
 |some v,some u=>RelV v u
 |none,none=>True
 |_,_=>False
def KV{κ:Type}:List (κ×V)->List (κ×Rz)->Prop:=Paired λ(p:κ×V)(q:κ×Rz)=>p.1=q.1/\RelV p.2 q.2
noncomputable def kV:bu->V
 |.inl i=>.int i
 |.inr x=>.str x
inductive HO where
  
 |lst (xs:List V)
  
 |tup (xs:List V)
  
 |dK (kvs:List (bu×V))|dT (kvs:List (List bu×V))
  
 |set (S:Int->Bool) (n:Nat)
  
 |ins (C dx:Addr) (fs:List (Str×V))
  
 |own (x:Addr)
  
 |xd (fs:List (Str×V))
  
 |met (f x:Addr)
  
 |CN (lo hi:Int)
  
 |az (o:Obj) (u:HO)
  
 |uC (ps:Array Rz)
  
 |ext (φ:Heap->Prop)
noncomputable abbrev Hp:=Addr->Option HO
noncomputable def aC(H:Hp)(a:Addr)(o:HO):Hp:=λb=>if b=a then some o else H b
def ag:aC H a o a=some o:=by unfold aC;rw[ck rfl]
theorem af(h:b≠a):aC H a o b=H b:=by unfold aC;rw[cO h]
def wd:aC (aC H a o) a u=aC H a u:=by funext b;unfold aC;split<;>rfl
def rX{H:Hp}(h:H a=some o)(h':H b=some u)(d:o≠u):a≠b:=by intro e;subst e;rw[h]at h';exact d (Oi h')
def aD{H:Hp}(h:H a=some o)(h':H b=none):a≠b:=by intro e;subst e;rw[h]at h';cases h'
section
variable(P:Ry)(w:World)
def ObjOk(H:Hp)(h:Heap)(a:Addr):HO->Prop
 |.lst xs=>xs.length<=sizeLine/\∃(its:List Rz)(n:Nat),Vals xs its/\h.get? a=some { cls:=.type "list",data:=.seq its.toArray n }
 |.tup xs=>xs.length<=sizeLine/\∃its:List Rz,Vals xs its/\IsTup h a its.toArray
 |.dK kvs=>kvs.length<=sizeLine/\(a==sysModules)=false/\∃vs,KV kvs vs/\h.DictOf (aq P w) a vs
 |.dT kvs=>kvs.length<=sizeLine/\(a==sysModules)=false/\∃xs:List (List bu×Addr×Rz),
  Paired (λ(p:List bu×V)(q:List bu×Addr×Rz)=>p.1=q.1/\H q.2.1=some (.tup (p.1.map kV))/\RelV p.2 q.2.2) kvs xs/\
  ∃o es ep,h.get? a=some o/\o.ExactDict/\o.data=.dict es ep/\es.toList=xs.map (entryOfKey (tupleKind (aq P w)))/\(xs.map (·.1)).Nodup
 |.set S n=>h.SetOf (intKind P w) a S n
 |.ins C dx fs=>H dx=some (.own a)/\fs.length<=1000/\dx≠a/\h.get? a=some (PySem.W.instObj C dx)/\
  ∃mA,h.Ns1 dx mA/\(∀f,RelO (fs.lookup f) (mA f))/\PySem.Within mA (fs.map (·.1))
 |.own _=>∃o,h.get? a=some o
 |.xd fs=>∃mA,h.Ns1 a mA/\∀f,RelO (fs.lookup f) (mA f)
 |.CN lo hi=>∃t u v,h.get? a=some { cls:=.type "range",data:=.fields #[.int lo t,.int hi u,.int 1 v] }
 |.az o u=>h.get? a=some o/\ObjOk H h a u
 |.uC ps=>h.get? a=some {cls:=.none,data:=.fields ps}
 |.met f x=>h.get? a=some (PySem.W.methodObj (.ref f) (.ref x))
 |.ext φ=>φ h/\(∃o,h.get? a=some o)/\∀h1 h2:Heap,φ h1->(∀o,h1.get? a=some o->h2.get? a=some o)->φ h2
def HOk(H:Hp)(h:Heap):Prop:=∀a o,H a=some o->ObjOk P w H h a o
end
section
theorem ObjOk.lt(x:ObjOk P w H h a o):a<h.objs.size:=by
 cases o with
 |lst xs=>obtain⟨_,_,_,_,e⟩:=x;exact jZ e
 |tup xs=>obtain⟨_,_,_,p⟩:=x;exact p.lt
 |dK kvs=>obtain⟨_,_,_,_,o,_,_,e,_⟩:=x;exact jZ e
 |dT kvs=>obtain⟨_,_,_,_,o,_,_,e,_⟩:=x;exact jZ e
 |set S n=>obtain⟨o,_,_,_,e,_⟩:=x;exact jZ e
 |ins C dx fs=>obtain⟨_,_,_,e,_⟩:=x;exact jZ e
 |own y=>obtain⟨_,e⟩:=x;exact jZ e
 |xd fs=>obtain⟨_,⟨_,_,_,e,_⟩,_⟩:=x;exact jZ e
 |CN lo hi=>obtain⟨_,_,_,e⟩:=x;exact jZ e
 |az ob u=>obtain⟨e,_⟩:=x;exact jZ e
 |uC ps=>exact jZ (show h.get? a=some _ from x)
 |met f y=>exact jZ (show h.get? a=some _ from x)
 |ext φ=>obtain⟨_,⟨_,e⟩,_⟩:=x;exact jZ e
def Paired.Ja{α β:Type}{F G:α->β->Prop}{l₁:List α}{l₂:List β}(h:Paired F l₁ l₂)(f:∀a b,F a b->G a b):Paired G l₁ l₂:=by
 induction h with
 |nil=>exact .nil
 |cons r _ ih=>exact .cons (f _ _ r) ih
def ObjOk.stay(x:ObjOk P w H h a o)(k:∀b u,(b=a\/H b=some (.own a))->h.get? b=some u->h'.get? b=some u)
 (ho:∀b,H b=some (.own a)->H' b=some (.own a)) (ht:∀b xs,H b=some (.tup xs)->H' b=some (.tup xs)):ObjOk P w H' h' a o:=by
 induction o with
 |lst xs=>obtain⟨z,its,n,r,e⟩:=x;exact⟨z,its,n,r,k _ _ (.inl rfl) e⟩
 |tup xs=>obtain⟨z,its,r,ob,e,c⟩:=x;exact⟨z,its,r,ob,k _ _ (.inl rfl) e,c⟩
 |dK kvs=>obtain⟨z,y,vs,r,ob,es,ep,e,c⟩:=x;exact⟨z,y,vs,r,ob,es,ep,k _ _ (.inl rfl) e,c⟩
 |dT kvs=>obtain⟨z,y,xs,r,ob,es,ep,e,c⟩:=x;exact⟨z,y,xs,Paired.Ja r λp q z=>⟨z.1,ht _ _ z.2.1,z.2.2⟩,ob,es,ep,k _ _ (.inl rfl) e,c⟩
 |set S n=>obtain⟨ob,es,ep,t,e,c⟩:=x;exact⟨ob,es,ep,t,k _ _ (.inl rfl) e,c⟩
 |ins C dx fs=>obtain⟨d,z,ne,e,mA,⟨od,es,ep,e2,c⟩,r⟩:=x;exact⟨ho _ d,z,ne,k _ _ (.inl rfl) e,mA,⟨od,es,ep,k _ _ (.inr d) e2,c⟩,r⟩
 |own y=>obtain⟨ob,e⟩:=x;exact⟨ob,k _ _ (.inl rfl) e⟩
 |xd fs=>obtain⟨mA,⟨od,es,ep,e,c⟩,r⟩:=x;exact⟨mA,⟨od,es,ep,k _ _ (.inl rfl) e,c⟩,r⟩
 |CN lo hi=>obtain⟨t,u,v,e⟩:=x;exact⟨t,u,v,k _ _ (.inl rfl) e⟩
 |az ob u ih=>obtain⟨e,q⟩:=x;exact⟨k _ _ (.inl rfl) e,ih q⟩
 |uC ps=>have e:h.get? a=some {cls:=.none,data:=.fields ps}:=x;show h'.get? a=some {cls:=.none,data:=.fields ps};exact k a _ (.inl rfl) e
 |met f y=>have e:h.get? a=some (PySem.W.methodObj (.ref f) (.ref y)):=x;show h'.get? a=some (PySem.W.methodObj (.ref f) (.ref y));exact k a _ (.inl rfl) e
 |ext φ=>obtain⟨p,⟨o,e⟩,st⟩:=x;exact⟨st _ _ p λo q=>k _ _ (.inl rfl) q,⟨o,k _ _ (.inl rfl) e⟩,st⟩
theorem HOk.lt(x:HOk P w H h)(e:H a=some o):a<h.objs.size:=(x a o e).lt
def HOk.fresh(x:HOk P w H h)(e:h.objs.size<=a):H a=none:=by
 cases q:H a with
 |none=>rfl
 |some u=>exact absurd (N6 (x.lt q) e) (Pd _)
def HOk.kept(x:HOk P w H h)(k:∀b u,h.get? b=some u->h'.get? b=some u):HOk P w H h':=λa o e=>(x a o e).stay (λb u _ q=>k b u q) (λ_ q=>q) λ_ _ q=>q
def HOk.laid(x:HOk P w H h)(k:∀b u,h.get? b=some u->h'.get? b=some u)(hp:h.objs.size<=a)(new:ObjOk P w (aC H a o) h' a o):HOk P w (aC H a o) h':=λb u e=>by
 have hn:=x.fresh hp;by_cases hb:b=a
 .subst hb;rw[ag]at e;cases e;exact new
 .rw[af hb]at e;exact(x b u e).stay (λc v _ q=>k c v q) (λc q=>by rw[af (aD q hn)];exact q) λc xs q=>by rw[af (aD q hn)];exact q
end
def Rd(H:Hp)(a:Addr)(u:HO):Prop:=H a=some u\/∃o,H a=some (.az o u)
def Rd.ok(r:Rd H a u)(x:HOk P w H h):ObjOk P w H h a u:=by
 rcases r with r|⟨o,r⟩
 .exact x a u r
 .obtain⟨_,q⟩:=x a _ r;exact q
noncomputable def Jw:Option HO->Prop
 |some (.lst _)=>True
 |some (.dK _)=>True
 |some (.dT _)=>True
 |some (.set _ _)=>True
 |some (.ins _ _ _)=>True
 |some (.ext _)=>True
 |_=>False
section
def HOk.write(ok:HOk P w H h)(mu:Jw (H x))(he:e=x\/H e=some (.own x))(k:∀b u,b≠e->h.get? b=some u->h'.get? b=some u)(heo:∃u,h'.get? e=some u)
 (new:ObjOk P w (aC H x o') h' x o'):HOk P w (aC H x o') h':=λb u q=>by
 have nown:∀c y,H c=some (.own y)->c≠x:=λc y r z=>by subst z;rw[r]at mu;exact mu
 have ntup:∀c xs,H c=some (.tup xs)->c≠x:=λc xs r z=>by subst z;rw[r]at mu;exact mu
 by_cases hb:b=x
 .subst hb;rw[ag]at q;cases q;exact new
 .rw[af hb]at q;by_cases hbe:b=e
  .have q':H b=some (.own x):=by
    grind
   rw[q]at q';cases q';obtain⟨v,hv⟩:=heo;exact⟨v,by rw[hbe];exact hv⟩
  .refine(ok b u q).stay (λc v hc r=>k c v ?_ r) (λc r=>by rw[af (nown c b r)];exact r) λc xs r=>by rw[af (ntup c xs r)];exact r
   grind
end
def Qt(H:Hp)(b:Addr):Prop:=H b=none\/∃xs,H b=some (.tup xs)
structure Un(fs ex:List Addr) (H H':Hp) (h h':Heap):Prop where
 keep:∀b o,h.get? b=some o->Qt H b->b∉fs->b∉ex->h'.get? b=some o
 slot:∀b o,h.get? b=some o->H b=none->b∈fs->b∉ex->∃sl,h'.get? b=some {o with slots:=sl}
 free:∀b o,h.get? b=some o->H b=none->b∉ex->H' b=none
 there:∀b o,h.get? b=some o->b∉ex->∃o',h'.get? b=some o'
 oo:∀b xs,H b=some (.tup xs)->H' b=some (.tup xs)
 l_:∀b o u,H b=some (.az o u)->H' b=some (.az o u)
 uD:∀b ps,H b=some (.uC ps)->∃more,H' b=some (.uC (ps++more))
section
def Un.any(u:Un fs ex H H1 h h1)(q:h.get? b=some ob)(n:H b=none)(hx:b∉ex):∃sl,h1.get? b=some {ob with slots:=sl}:=by
 by_cases hb:b∈fs
 .exact u.slot b ob q n hb hx
 .exact⟨ob.slots,u.keep b ob q (.inl n) hb hx⟩
def Un.kept(k:∀b u,h.get? b=some u->h'.get? b=some u):Un fs ex H H h h':=⟨λb ob q _ _ _=>k b ob q,λb ob q _ _ _=>⟨ob.slots,k b ob q⟩,λ_ _ _ n _=>n,λb ob q _=>⟨ob,k b ob q⟩,λ_ _ q=>q,λ_ _ _ q=>q,λ_ ps q=>⟨#[],by rw[q];simp⟩⟩
def Un.refl:Un fs ex H H h h:=Un.kept λ_ _ q=>q
def Un.laid(k:∀b u,h.get? b=some u->h'.get? b=some u)(hp:h.objs.size<=a)(hn:H a=none):Un fs ex H (aC H a o) h h' where
 keep:=λb u q _ _ _=>k b u q
 slot:=λb u q _ _ _=>⟨u.slots,k b u q⟩
 free:=λb u q n _=>by rw[af (N9 (N6 (jZ q) hp))];exact n
 there:=λb u q _=>⟨u,k b u q⟩
 oo:=λb xs q=>by rw[af (aD q hn)];exact q
 l_:=λb u xs q=>by rw[af (aD q hn)];exact q
 uD:=λb ps q=>⟨#[],by rw[af (aD q hn),q];simp⟩
def Un.write(mu:Jw (H x))(he:e=x\/H e=some (.own x))(k:∀b u,b≠e->h.get? b=some u->h'.get? b=some u)(heo:∃u,h'.get? e=some u):Un fs ex H (aC H x o) h h':=by
 have hx:∀b,H b=none->b≠x:=λb n z=>by subst z;rw[n]at mu;exact mu
 have hb:∀b,H b=none->b≠e:=λb n z=>by grind
 have hm:∀b u,H b=some u->¬Jw (some u)->b≠x:=λb u q nm z=>by subst z;rw[q]at mu;exact nm mu
 refine⟨λb u q n _ _=>k b u (n.elim (hb b) λ⟨xs,ee⟩ z=>by rcases he with r|r;(·rw[<- r,<- z,ee]at mu;exact mu);(·rw[<- z,ee]at r;cases r)) q,λb u q n _ _=>⟨u.slots,k b u (hb b n) q⟩,λb u q n _=>by rw[af (hx b n)];exact n,λb u q _=>?_,
  λb xs q=>by rw[af (hm b _ q λz=>z)];exact q,λb u xs q=>by rw[af (hm b _ q λz=>z)];exact q,λb ps q=>⟨#[],by rw[af (hm b _ q λz=>z),q];simp⟩⟩
 by_cases hbe:b=e
 .subst hbe;exact heo
 .exact⟨u,k b u hbe q⟩
end
noncomputable def LV(h:Heap)(H:Hp):List Addr:=(List.range h.objs.size).filter λa=>(H a).isSome
def rY(h:Heap)(H:Hp):Heap:=PySem.W.hideAll h (LV h H)
def yf(h:Heap)(H:Hp):(rY h H).objs.size=h.objs.size:=PySem.W.hideAll_size _ _
def rZ(e:h.get? b=some o)(n:H b=none):(rY h H).get? b=some o:=PySem.W.hideAll_get _ e λhm=>by have q:(H b).isSome=true:=(O9.mp hm).2;rw[n]at q;simp at q
def CO(e:(rY h H).get? b=some o):h.get? b=some o/\H b=none:=by
 have e':h.get? b=some o:=PySem.W.of_hideAll (LV h H) e;refine⟨e',?_⟩;cases q:H b with
 |none=>rfl
 |some x=>have hm:b∈LV h H:=O9.mpr ⟨N8.mpr (jZ e'),by simp[q]⟩;have z:(rY h H).get? b=none:=PySem.W.hideAll_none (LV h H) hm;rw[z]at e;cases e
noncomputable def CP(g h:Heap)(L:Addr):List (Addr×Obj):=(List.range h.objs.size).filterMap λa=>if a=L\/(g.get? a).isSome=true then none else(h.get? a).map λo=>(a,o)
def aX(g h:Heap)(L d:Addr):List (Addr×Obj):=(CP g h L).filter λp=>decide (p.1≠d)
noncomputable def NG:Rz->V
 |.str x _=>.str x
 |.ref a=>.ref a
 |_=>.fU
def Gf(o:Obj):Option (Addr×List V):=match o.cls with
 |.type n=>if n=="kt" then(match o.data with
  |.seq its _=>(match its.toList with
   |.ref a::r=>some (a,r.map NG)
   |_=>none)
  |_=>none)else none
 |_=>none
def Mm(K:Rx)(H:Hp):Prop:=∀p∈K,∀a xs,Gf p.2=some (a,xs)->H a=some (.tup xs)
structure Mod(K:Rx) (mg:Str->Option Rz) (base:Heap):Prop where
 kH:K.In base
 glob:base.Ns mainGlobals mg
 blt:∃mb,base.Ns builtinsNs mb/\∀x:Str,x≠"__name__"->mb x=bootBuiltins x
 nolimit:base.NoLimit
structure Cx where
 prog:Ry
 w:World
 K:Rx
 mg:Str->Option Rz
 base:Heap
 A:RA
 N:List Str
 s₀:Rv
 H₀:Hp
 env:Env
 outer:List Env
 stack:List Env
 ex:List Addr
 fn:Str->Bool
 calm:Bool
 pn:List (Addr×Obj)
 xe:Rz->Rv->Prop
abbrev wX(X:Cx){α:Type}(m:Sem α):(α->Rv->Prop)->(Rz->Rv->Prop)->Rv->Prop:=wpAny (model X.prog X.w) X.A m
abbrev sE(X:Cx)(e:Expr)(es:List Expr):Prop:=starEach (e::es) X.env=(false,eval e X.env)::starEach es X.env
abbrev bT(X:Cx)(p:Pos)(es:List Expr):Prop:=(backTo p (starEach es X.env)).any (·.1)=false
abbrev dB(x:Str):Prop:=(x==("__debug__" : Str))=false
noncomputable def zL(l:List Env):List Addr:=l.filterMap (·.frame)
abbrev Cx.fs(X:Cx):List Addr:=zL X.outer
def Jx(sc:Scope)(x:Str):Prop:=sc.names.lookup x=some .local\/sc.names.lookup x=some .cell\/sc.names.lookup x=some .free
def CG(sc:Scope)(x:Str):Prop:=sc.names.lookup x=some .local\/sc.names.lookup x=some .cell
def Mn(env:Env)(h:Heap)(m:Str->Option Rz)(x:Str)(u:Rz):Prop:=(env.kindOf x=some .local/\m x=some u)\/((env.kindOf x=some .cell\/env.kindOf x=some .free)/\∃c,env.cells.lookup x=some c/\h.IsCell c (some u))
structure Cx.Ok(X:Cx):Prop where
 mod:Mod X.K X.mg X.base
 kind:X.env.scope.kind=.function
 glob:X.env.globals=mainGlobals
 blt:X.env.builtins=builtinsNs
 above:X.s₀.heap.objs.size<=X.env.locals
 inj:∀x y c,X.env.cells.lookup x=some c->X.env.cells.lookup y=some c->x=y
 has:∀x,(X.env.kindOf x=some .cell\/X.env.kindOf x=some .free)->∃c,X.env.cells.lookup x=some c
 Ju:∀x c,X.fn x=true->X.env.cells.lookup x=some c->X.s₀.heap.objs.size<=c
 hd:X.calm=true->X.A.handled=none
 frames:X.A.frames=some X.stack
 Jh:X.stack=X.outer\/(X.stack=X.env::X.outer/\X.env.frame=some X.env.locals)
 Nm:∀b∈X.ex,b≠X.env.locals/\∀x c,X.env.cells.lookup x=some c->c≠b
 bs:∀b o,X.base.get? b=some o->X.s₀.heap.get? b=some o/\X.H₀ b=none
 E8:X.base.objs.size<=X.s₀.heap.objs.size
 zE:∀b o,X.base.get? b=some o->b∉X.ex
 CC:∀b∈X.ex,b∉X.fs
 me:X.s₀.heap.FunFrames X.base X.outer
 Jk:∀b∈X.fs,X.H₀ b=none
 kt:Mm X.K X.H₀
structure Inv(X:Cx) (aa:List (Addr×Obj)) (σ:List (Option V)) (H:Hp) (s:Rv):Prop where
 ok:X.Ok
 os:s.os=X.s₀.os
 bare:AllBare s.gens
 base:Un X.fs X.ex X.H₀ H X.s₀.heap s.heap
 loc:∃m,s.heap.Ns X.env.locals m/\∀(i:Nat)(x:Str)(v:V),X.N[i]?=some x->σ[i]?=some (some v)->Jx X.env.scope x->∃u,RelV v u/\Mn X.env s.heap m x u
 cell:∀x c,X.env.cells.lookup x=some c->∃v,s.heap.IsCell c v
 free:H X.env.locals=none
 gw:∀x c,X.env.cells.lookup x=some c->H c=none
 pin:∀p∈X.pn++aa,s.heap.get? p.1=some p.2/\H p.1=none/\p.1≠X.env.locals/\p.1∉X.fs/\∀v,p.2.data≠.cell v
 aG:HOk X.prog X.w H s.heap
 len:σ.length=X.N.length
section
variable{X:Cx}{aa:List (Addr×Obj)}{σ:List (Option V)}{H H':Hp}{s:Rv}
def Cx.Ok.Nj(ok:X.Ok)(e:X.base.get? b=some o):b∉X.fs:=λhb=>by have:=(ok.me.mem hb).1;rw[e]at this;cases this
theorem Inv.bs(I:Inv X aa σ H s):∀b o,X.base.get? b=some o->s.heap.get? b=some o/\H b=none:=λb o e=>⟨I.base.keep b o (I.ok.bs b o e).1 (.inl (I.ok.bs b o e).2) (I.ok.Nj e) (I.ok.zE b o e),I.base.free b o (I.ok.bs b o e).1 (I.ok.bs b o e).2 (I.ok.zE b o e)⟩
theorem Inv.kt(I:Inv X aa σ H s):Mm X.K H:=λp hp a xs e=>I.base.oo a xs (I.ok.kt p hp a xs e)
def Inv.bk(I:Inv X aa σ H s):∀b o,X.base.get? b=some o->s.heap.get? b=some o:=λb o e=>(I.bs b o e).1
theorem Inv.mod(I:Inv X aa σ H s):Mod X.K X.mg X.base:=I.ok.mod
def Inv.rT(I:Inv X aa σ H s):X.K.In s.heap:=I.ok.mod.kH.keeps I.bk
theorem Inv.lt(I:Inv X aa σ H s):X.env.locals<s.heap.objs.size:=let ⟨_,hn,_⟩:=I.loc;hn.lt
def Inv.sz(I:Inv X aa σ H s):X.s₀.heap.objs.size<=s.heap.objs.size:=lN I.ok.above (Ou I.lt)
def Inv.Nn(I:Inv X aa σ H s)(h:s.heap.objs.size<=a):a∉X.fs:=λhb=>by obtain⟨_,o,ho,_⟩:=I.ok.me.mem hb;exact absurd (N6 (jZ ho) (lN I.sz h)) (Pd _)
def Inv.Jd(I:Inv X aa σ H s):∀x c,X.env.cells.lookup x=some c->c≠X.env.locals:=λx c e z=>by obtain⟨v,o,ho,hd⟩:=I.cell x c e;obtain⟨m,⟨o',es,ep,ho',hd',_⟩,_⟩:=I.loc;rw[z,ho']at ho;cases ho;rw[hd']at hd;cases hd
theorem Inv.me(I:Inv X aa σ H s):s.heap.FunFrames X.base X.outer:=by
 have all:∀(l:List Env),(∀b∈zL l,b∈X.fs)->X.s₀.heap.FunFrames X.base l->s.heap.FunFrames X.base l:=by
  intro l;induction l with
  |nil=>intro _ _;trivial
  |cons env r ih=>intro hs hl;obtain⟨hk,⟨L,o,hf,hn,ho,hd⟩,hr⟩:=hl;have hL:L∈X.fs:=hs L (by unfold zL;rw[Qf,hf];exact uB);obtain⟨sl,e⟩:=I.base.slot L o ho (I.ok.Jk L hL) hL λz=>I.ok.CC L z hL;exact⟨hk,⟨L,_,hf,hn,e,hd⟩,ih (λb hb=>hs b (by unfold zL;rw[Qf,hf];exact CF _ hb)) hr⟩
 exact all X.outer (λ_ hb=>hb) I.ok.me
theorem Inv.stack(I:Inv X aa σ H s):s.heap.FunFrames X.base X.stack:=by
 rcases I.ok.Jh with e|⟨e,hf⟩
 .rw[e];exact I.me
 .rw[e];obtain⟨m,hn,_⟩:=I.loc;refine .cons (by rw[I.ok.kind];decide) hf hn ?_ I.me;exact Heap.get?_none_of_le (lN I.ok.E8 I.ok.above)
def Inv.rN(I:Inv X aa σ H s):∀b∈zL X.stack,b∈X.env.locals::X.fs:=λb hb=>by
 rcases I.ok.Jh with e|⟨e,hf⟩
 .rw[e]at hb;exact CF _ hb
 .rw[e]at hb;unfold zL at hb;rw[Qf,hf]at hb;exact hb
def Inv.yd(I:Inv X aa σ H s):∀b∈zL X.stack,H b=none:=λb hb=>by
 rcases j5.mp (I.rN b hb)with e|hb
 .rw[e];exact I.free
 .obtain⟨_,o,ho,_⟩:=I.ok.me.mem hb;exact I.base.free b o ho (I.ok.Jk b hb) λz=>I.ok.CC b z hb
def Inv.step{d':Drawn}{ch:List Addr}(I:Inv X aa σ H s)
 (hch:∀b∈ch,(b∈X.ex\/X.s₀.heap.objs.size<=b)/\b≠X.env.locals/\(∀x c,X.env.cells.lookup x=some c->c≠b)/\∀p∈X.pn++aa,p.1≠b)
 (keep:∀b o,b≠X.env.locals->b∉X.fs->b∉ch->s.heap.get? b=some o->Qt H b->h'.get? b=some o)
 (slot:∀b o,b≠X.env.locals->b∈X.fs->b∉ch->s.heap.get? b=some o->H b=none->∃sl,h'.get? b=some {o with slots:=sl}) (free:∀b o,b∉ch->s.heap.get? b=some o->H b=none->H' b=none)
 (there:∀b o,b∉ch->s.heap.get? b=some o->∃o',h'.get? b=some o')
 (oo:∀b xs,H b=some (.tup xs)->H' b=some (.tup xs)) (l_:∀b o u,H b=some (.az o u)->H' b=some (.az o u)) (uD:∀b ps,H b=some (.uC ps)->∃more,H' b=some (.uC (ps++more)))
 (ns:∀m,s.heap.Ns X.env.locals m->h'.Ns X.env.locals m) (aG:HOk X.prog X.w H' h') (hg:AllBare g') :
 Inv X aa σ H' {s with heap:=h',gens:=g',drawn:=d',toks:=t'}:=by
 have neL:∀b o,X.s₀.heap.get? b=some o->b≠X.env.locals:=λb o e=>N9 (N6 (jZ e) I.ok.above);have neC:∀b o,X.s₀.heap.get? b=some o->b∉X.ex->b∉ch:=λb o e hx hb=>by
  rcases(hch b hb).1 with z|z
  .exact hx z
  .exact absurd (N6 (jZ e) z) (Pd _)
 have cellK:∀x c,X.env.cells.lookup x=some c->∀v,s.heap.IsCell c v->h'.IsCell c v:=λx c e v ⟨o,ho,hd⟩=>by
  have nch:c∉ch:=λz=>(hch c z).2.2.1 x c e rfl;by_cases hc:c∈X.fs
  .obtain⟨sl,q⟩:=slot c o (I.Jd x c e) hc nch ho (I.gw x c e);exact⟨_,q,hd⟩
  .exact⟨o,keep c o (I.Jd x c e) hc nch ho (.inl (I.gw x c e)),hd⟩
 refine⟨I.ok,I.os,hg,⟨λb o e n hb hx=>?_,λb o e n hb hx=>?_,λb o e n hx=>?_,λb o e hx=>?_,λb xs e=>oo b xs (I.base.oo b xs e),λb o xs e=>l_ b o xs (I.base.l_ b o xs e),λb ps e=>?_⟩,?_,λx c e=>?_,?_,λx c e=>?_,λp hp=>?_,aG,I.len⟩
 .exact keep b o (neL b o e) hb (neC b o e hx) (I.base.keep b o e n hb hx) (n.imp (λn=>I.base.free b o e n hx) λ⟨xs,q⟩=>⟨xs,I.base.oo b xs q⟩)
 .obtain⟨sl,e1⟩:=I.base.slot b o e n hb hx;obtain⟨sl',e2⟩:=slot b _ (neL b o e) hb (neC b o e hx) e1 (I.base.free b o e n hx);exact⟨sl',e2⟩
 .obtain⟨o',e1⟩:=I.base.there b o e hx;exact free b o' (neC b o e hx) e1 (I.base.free b o e n hx)
 .obtain⟨o',e1⟩:=I.base.there b o e hx;exact there b o' (neC b o e hx) e1
 .obtain⟨m1,e1⟩:=I.base.uD b ps e
  grind
 .obtain⟨m,hn,hl⟩:=I.loc;refine⟨m,ns m hn,λi x v e1 e2 e3=>?_⟩;obtain⟨u,r,l⟩:=hl i x v e1 e2 e3;refine⟨u,r,?_⟩;rcases l with l|⟨k,c,e,z⟩
  .exact .inl l
  .exact .inr ⟨k,c,e,cellK x c e _ z⟩
 .obtain⟨v,z⟩:=I.cell x c e;exact⟨v,cellK x c e v z⟩
 .obtain⟨m,⟨o,_,_,ho,_⟩,_⟩:=I.loc;exact free _ o (λz=>(hch _ z).2.1 rfl) ho I.free
 .obtain⟨v,o,ho,hd⟩:=I.cell x c e;exact free c o (λz=>(hch c z).2.2.1 x c e rfl) ho (I.gw x c e)
 .obtain⟨e,n,ne,nf,d⟩:=I.pin p hp;have nch:p.1∉ch:=λz=>(hch p.1 z).2.2.2 p hp rfl;exact⟨keep p.1 p.2 ne nf nch e (.inl n),free p.1 p.2 nch e n,ne,nf,d⟩
def Inv.un{t':Nat}(I:Inv X aa σ H s)(u:Un X.fs [] H H' s.heap h')(aG:HOk X.prog X.w H' h'):Inv X aa σ H' {s with heap:=h',toks:=t'}:=by obtain⟨m,⟨o,es,ep,ho,r⟩,_⟩:=id I.loc;obtain⟨sl,hL⟩:=u.any ho I.free (by simp);exact I.step (g':=s.gens) (d':=s.drawn) (ch:=[]) (λ_ z=>nomatch z) (λb o _ hb _ e n=>u.keep b o e n hb (by simp)) (λb o _ hb _ e n=>u.slot b o e n hb (by simp)) (λb o _ e n=>u.free b o e n (by simp)) (λb o _ e=>u.there b o e (by simp)) u.oo u.l_ u.uD (λm' hm=>by obtain⟨o',es',ep',ho',r'⟩:=hm;rw[ho]at ho';cases ho';exact⟨_,es',ep',hL,r'⟩) aG I.bare
def Inv.call{d':Drawn}{ch:List Addr}(I:Inv X aa σ H s)(u:Un (zL X.stack) ch H H' s.heap h')(aG:HOk X.prog X.w H' h')(hg:AllBare g')
 (hch:∀b∈ch,(b∈X.ex\/X.s₀.heap.objs.size<=b)/\b≠X.env.locals/\(∀x c,X.env.cells.lookup x=some c->c≠b)/\∀p∈X.pn++aa,p.1≠b) :
 Inv X aa σ H' {s with heap:=h',gens:=g',drawn:=d',toks:=t'}:=by
 obtain⟨m,⟨o,es,ep,ho,r⟩,_⟩:=id I.loc;obtain⟨sl,hL⟩:=u.any ho I.free λz=>(hch _ z).2.1 rfl;exact I.step (ch:=ch) hch (λb o hL hb hc e n=>u.keep b o e n (λz=>(j5.mp (I.rN b z)).elim hL hb) hc) (λb o _ _ hc e n=>u.any e n hc) (λb o hc e n=>u.free b o e n hc) (λb o hc e=>u.there b o e hc) u.oo u.l_ u.uD (λm' hm=>by obtain⟨o',es',ep',ho',r'⟩:=hm;rw[ho]at ho';cases ho';exact⟨_,es',ep',hL,r'⟩) aG hg
def Inv.turned{it:Addr}(I:Inv X aa σ H s)(k:∀b o,b≠it->s.heap.get? b=some o->h'.get? b=some o)(hn:H it=none)(hL:it≠X.env.locals)
 (h1:it∈X.ex\/X.s₀.heap.objs.size<=it) (h2:∀x c,X.env.cells.lookup x=some c->c≠it) (h3:∀p∈X.pn++aa,p.1≠it):Inv X aa σ H {s with heap:=h',toks:=t'}:=by
 have nit:∀b u,H b=some u->b≠it:=λb u e z=>by rw[z,hn]at e;cases e
 refine I.step (g':=s.gens) (d':=s.drawn) (ch:=[it]) (λb hb=>?_) (λb o _ _ hc e _=>k b o (λz=>hc (by simp[z])) e) (λb o _ _ hc e _=>⟨o.slots,k b o (λz=>hc (by simp[z])) e⟩) (λ_ _ _ _ n=>n)
  (λb o hc e=>⟨o,k b o (λz=>hc (by simp[z])) e⟩) (λ_ _ e=>e) (λ_ _ _ e=>e) (λb ps e=>⟨#[],by rw[e];simp⟩) (λm hm=>?_) (λb u e=>?_) I.bare
 .have e:b=it:=by simpa using hb
  subst e;exact⟨h1,hL,h2,h3⟩
 .obtain⟨o,es,ep,ho,r⟩:=hm;exact⟨o,es,ep,k _ o (Oz hL) ho,r⟩
 .refine(I.aG b u e).stay (λc v hc q=>k c v ?_ q) (λ_ q=>q) λ_ _ q=>q;rcases hc with z|z
  .rw[z];exact nit b u e
  .exact nit c _ z
def Inv.tok(I:Inv X aa σ H s)(t:Nat):Inv X aa σ H {s with toks:=t}:=I.un (h':=s.heap) (t':=t) Un.refl I.aG
theorem Inv.kept(I:Inv X aa σ H s)(k:∀b u,s.heap.get? b=some u->h'.get? b=some u):Inv X aa σ H {s with heap:=h',toks:=t'}:=I.un (Un.kept k) (I.aG.kept k)
theorem Inv.laid(I:Inv X aa σ H s)(k:∀b u,s.heap.get? b=some u->h'.get? b=some u)(hp:s.heap.objs.size<=a)(new:ObjOk X.prog X.w (aC H a o) h' a o) :
 Inv X aa σ (aC H a o) {s with heap:=h',toks:=t'}:=I.un (Un.laid k hp (I.aG.fresh hp)) (I.aG.laid k hp new)
theorem Inv.write(I:Inv X aa σ H s)(mu:Jw (H x))(he:e=x\/H e=some (.own x))(k:∀b u,b≠e->s.heap.get? b=some u->h'.get? b=some u)(heo:∃u,h'.get? e=some u)
 (new:ObjOk X.prog X.w (aC H x o) h' x o):Inv X aa σ (aC H x o) {s with heap:=h',toks:=t'}:=I.un (Un.write mu he k heo) (I.aG.write mu he k heo new)
def Inv.x_(I:Inv X aa σ H s)(h:∀p∈pins',s.heap.get? p.1=some p.2/\H p.1=none/\p.1≠X.env.locals/\p.1∉X.fs/\∀v,p.2.data≠.cell v):Inv X pins' σ H s:=⟨I.ok,I.os,I.bare,I.base,I.loc,I.cell,I.free,I.gw,λp hp=>(gZ.mp hp).elim (λz=>I.pin p (lP _ z)) (h p),I.aG,I.len⟩
def r_{N:List Str}(hN:N.Nodup){i j:Nat}{x:Str}(a:N[i]?=some x)(b:N[j]?=some x):i=j:=by obtain⟨h1,e1⟩:=bE.mp a;obtain⟨h2,e2⟩:=bE.mp b;exact(List.getElem_inj hN).mp (e1.trans e2.symm)
def oS{E:Rz->Rv->Prop}{x:Str}{v:V}{u:Rz}{Q:Unit->Rv->Prop}(I:Inv X aa σ H s)(hN:X.N.Nodup)(hi:X.N[i]?=some x)(hx:CG X.env.scope x)(r:RelV v u)
 (h:∀s',Inv X aa (σ.set i (some v)) H s'->(∃a,Heap.SameBut a s.heap s'.heap/\(a=X.env.locals\/X.env.cells.lookup x=some a))->Q () s') (hf:autoParam (X.fn x=true\/X.env.scope.names.lookup x=some .local) RH):wpAny M A (storeName X.env x u) Q E s:=by
 obtain⟨m,hn,hl⟩:=id I.loc;have hcls:(X.env.scope.kind==.class ||(X.env.scope.kind==.module&&X.env.locals != X.env.globals))=false:=by rw[I.ok.kind];rfl
 have hiσ:i<σ.length:=by rw[I.len];exact(bE.mp hi).1
 have Jd:=I.Jd;have tracked:∀{a:Addr}{h':Heap},(∃o,s.heap.get? a=some o/\H a=none)->Heap.SameBut a s.heap h'->HOk X.prog X.w H h':=λ{a h'} ha hs b ob e=>by
  obtain⟨_,_,hfree⟩:=ha;refine(I.aG b ob e).stay (λc w' hc q=>(hs.2 c ?_).trans q) (λ_ q=>q) λ_ _ q=>q
  grind
 rcases hx with hk|hk
 .refine wpAny_storeName_local hk hn (λh' hn' hs=>?_) hcls;obtain⟨oL,_,_,hoL,_⟩:=id hn;refine h _ ⟨I.ok,I.os,I.bare,⟨λb o e n hb hx=>?_,λb o e n hb hx=>?_,I.base.free,λb o e hx=>?_,I.base.oo,I.base.l_,I.base.uD⟩,⟨_,hn',λj y v' e1 e2 e3=>?_⟩,λy c e=>?_,I.free,I.gw,λp hp=>?_,tracked ⟨oL,hoL,I.free⟩ hs,by simpa using I.len⟩ ⟨_,hs,.inl rfl⟩
  .exact(hs.2 b (N9 (N6 (jZ e) I.ok.above))).trans (I.base.keep b o e n hb hx)
  .obtain⟨sl,e1⟩:=I.base.slot b o e n hb hx;exact⟨sl,(hs.2 b (N9 (N6 (jZ e) I.ok.above))).trans e1⟩
  .obtain⟨o',e1⟩:=I.base.there b o e hx;exact⟨o',(hs.2 b (N9 (N6 (jZ e) I.ok.above))).trans e1⟩
  .by_cases hj:j=i
   .subst hj;rw[hi]at e1;cases e1;rw[i7 hiσ]at e2;cases e2;exact⟨u,r,.inl ⟨hk,by simp⟩⟩
   .rw[eG (Oz hj)]at e2;obtain⟨u',r',q⟩:=hl j y v' e1 e2 e3;refine⟨u',r',?_⟩;rcases q with⟨k,e⟩|⟨k,c,e,z⟩
    .refine .inl ⟨k,?_⟩;have:y≠x:=λe=>hj (r_ hN e1 (e▸hi));simp[this,e]
    .exact .inr ⟨k,c,e,z.sameBut hs (Jd y c e)⟩
  .obtain⟨w',z⟩:=I.cell y c e;exact⟨w',z.sameBut hs (Jd y c e)⟩
  .obtain⟨e,n,ne,nf,d⟩:=I.pin p hp;exact⟨(hs.2 p.1 ne).trans e,n,ne,nf,d⟩
 .have hfn:X.fn x=true:=by
   rcases hf with z|z
   .exact z
   .rw[z]at hk;cases hk
  obtain⟨c,hc⟩:=I.ok.has x (.inl hk);obtain⟨w',z⟩:=I.cell x c hc;refine wpAny_storeName_cell I.ok.kind hk hc z (λh' hc' hs=>?_);obtain⟨oc,hoc,hocd⟩:=id z;refine h {s with heap:=h'} ⟨I.ok,I.os,I.bare,⟨λb o e n hb hx=>?_,λb o e n hb hx=>?_,I.base.free,λb o e hx=>?_,I.base.oo,I.base.l_,I.base.uD⟩,⟨m,hn.sameBut hs (Oz (Jd x c hc)),λj y v' e1 e2 e3=>?_⟩,λy c' e=>?_,I.free,I.gw,λp hp=>?_,tracked ⟨oc,hoc,I.gw x c hc⟩ hs,by simpa using I.len⟩ ⟨c,hs,.inr hc⟩
  .exact(hs.2 b (N9 (N6 (jZ e) (I.ok.Ju x c hfn hc)))).trans (I.base.keep b o e n hb hx)
  .obtain⟨sl,e1⟩:=I.base.slot b o e n hb hx;exact⟨sl,(hs.2 b (N9 (N6 (jZ e) (I.ok.Ju x c hfn hc)))).trans e1⟩
  .obtain⟨o',e1⟩:=I.base.there b o e hx;exact⟨o',(hs.2 b (N9 (N6 (jZ e) (I.ok.Ju x c hfn hc)))).trans e1⟩
  .by_cases hj:j=i
   .subst hj;rw[hi]at e1;cases e1;rw[i7 hiσ]at e2;cases e2;exact⟨u,r,.inr ⟨.inl hk,c,hc,hc'⟩⟩
   .rw[eG (Oz hj)]at e2;obtain⟨u',r',q⟩:=hl j y v' e1 e2 e3;refine⟨u',r',?_⟩;rcases q with q|⟨k,c',e,z'⟩
    .exact .inl q
    .refine .inr ⟨k,c',e,z'.sameBut hs ?_⟩;rintro rfl;exact hj (r_ hN e1 (I.ok.inj _ _ _ e hc▸hi))
  .by_cases hcc:c'=c
   .subst hcc;exact⟨_,hc'⟩
   .obtain⟨w2,z2⟩:=I.cell y c' e;exact⟨w2,z2.sameBut hs hcc⟩
  .obtain⟨e,n,ne,nf,d⟩:=I.pin p hp;refine⟨(hs.2 p.1 ?_).trans e,n,ne,nf,d⟩
   grind
def mJ(I:Inv X aa σ H s)(hN:X.N.Nodup)(hi:X.N[i]?=some x)(hx:CG X.env.scope x)(r:RelV v u)
 (h:∀s',Inv X aa (σ.set i (some v)) H s'->Q () s') (hf:autoParam (X.fn x=true\/X.env.scope.names.lookup x=some .local) RH):wpAny M A (storeName X.env x u) Q E s:=
 oS I hN hi hx r (λs' I' _=>h s' I') hf
def Inv.LK(I:Inv X aa σ H s)(ho:s'.os=s.os)(u:Un (zL X.stack) ch H H' s.heap s'.heap)(aG:HOk X.prog X.w H' s'.heap)(hg:AllBare s'.gens)
 (hch:∀b∈ch,(b∈X.ex\/X.s₀.heap.objs.size<=b)/\b≠X.env.locals/\(∀x c,X.env.cells.lookup x=some c->c≠b)/\∀p∈X.pn++aa,p.1≠b):Inv X aa σ H' s':=by
 obtain⟨h',g',d',t',o'⟩:=s';have e:o'=s.os:=ho;subst e;exact I.call (g':=g') (t':=t') (d':=d') u aG hg hch
end
abbrev XK:=Rz->Option Addr->Hp->Prop
noncomputable abbrev St:=List (Option V)
abbrev VK:=V->Hp->Prop
abbrev TE:=St->Hp->VK->Prop
abbrev TT:=St->Hp->(Bool->Hp->Prop)->Prop
abbrev TA:=St->Hp->(List V->Hp->Prop)->Prop
structure Ends where
 nx:St->Hp->Prop
 rt:VK
 bk:St->Hp->Prop:=λ_ _=>False
 ct:St->Hp->Prop:=λ_ _=>False
abbrev TS:=Ends->St->Hp->Prop
def EP(X:Cx)(aa:List (Addr×Obj))(σ:St)(Q:VK)(u:Rz)(s':Rv):Prop:=∃v H',Inv X aa σ H' s'/\RelV v u/\Q v H'
def TP(X:Cx)(aa:List (Addr×Obj))(σ:St)(Q:Bool->Hp->Prop)(b:Bool)(s':Rv):Prop:=∃H',Inv X aa σ H' s'/\Q b H'
def AP(X:Cx)(aa:List (Addr×Obj))(σ:St)(Q:List V->Hp->Prop)(us:List Rz)(s':Rv):Prop:=∃vs H',Inv X aa σ H' s'/\Vals vs us/\Q vs H'
def SP(X:Cx)(aa:List (Addr×Obj))(D:Ends)(f:Flow)(s':Rv):Prop:=
 match f with
 |.next=>∃σ' H',Inv X aa σ' H' s'/\D.nx σ' H'
 |.brk=>∃σ' H',Inv X aa σ' H' s'/\D.bk σ' H'
 |.cont=>∃σ' H',Inv X aa σ' H' s'/\D.ct σ' H'
 |.ret u=>∃v σ' H',Inv X aa σ' H' s'/\RelV v u/\D.rt v H'
def PE(X:Cx)(e:Expr)(t:TE):Prop:=∀(aa:List (Addr×Obj))(s:Rv)(σ:St)(H:Hp)(Q:VK),Inv X aa σ H s->t σ H Q->wpAny (model X.prog X.w) X.A (eval e X.env) (EP X aa σ Q) X.xe s
def PT(X:Cx)(e:Expr)(t:TT):Prop:=∀(aa:List (Addr×Obj))(s:Rv)(σ:St)(H:Hp)(Q:Bool->Hp->Prop),Inv X aa σ H s->t σ H Q->wpAny (model X.prog X.w) X.A (isTrue e X.env (eval e X.env)) (TP X aa σ Q) X.xe s
def PW(X:Cx)(e:Expr)(t:TT):Prop:=∀(whole:Sem Rz)(aa:List (Addr×Obj))(s:Rv)(σ:St)(H:Hp)(Q:Bool->Hp->Prop),Inv X aa σ H s->t σ H Q->wpAny (model X.prog X.w) X.A (isTrue e X.env whole) (TP X aa σ Q) X.xe s
def PW.pt(h:PW X e t):PT X e t:=h _
def PA(X:Cx)(es:List Expr)(t:TA):Prop:=∀(pos:Pos)(aa:List (Addr×Obj))(s:Rv)(σ:St)(H:Hp)(Q:List V->Hp->Prop),Inv X aa σ H s->t σ H Q->wpAny (model X.prog X.w) X.A (spliced (backTo pos (starEach es X.env))) (AP X aa σ Q) X.xe s
def PS(X:Cx)(st:Stmt)(t:TS):Prop:=∀(aa:List (Addr×Obj))(s:Rv)(σ:St)(H:Hp)(D:Ends),Inv X aa σ H s->t D σ H->wpAny (model X.prog X.w) X.A (exec st X.env) (SP X aa D) X.xe s
def PSs(X:Cx)(st:List Stmt)(t:TS):Prop:=∀(aa:List (Addr×Obj))(s:Rv)(σ:St)(H:Hp)(D:Ends),Inv X aa σ H s->t D σ H->wpAny (model X.prog X.w) X.A (execs st X.env) (SP X aa D) X.xe s
def bV{α:Type}{t:Sem α}{Q Q':α->Rv->Prop}{M:Model}{A:RA}{E:Rz->Rv->Prop}{s:Rv}(h:wpAny M A t Q E s)(hQ:∀a s,Q a s->Q' a s):wpAny M A t Q' E s:=OT h hQ λ_ _ x=>x
section
variable{X:Cx}
noncomputable def bY(i:Nat):TE:=λσ H Q=>∃v,σ[i]?=some (some v)/\Q v H
noncomputable def tC(v:V):TE:=λ_ H Q=>Q v H
def Gg(hN:X.N[i]?=some x)(hv:Jx X.env.scope x)(hd:autoParam (dB x) ab) (hcd:autoParam ((x==("__classdict__" : Str))=false) ab):PE X (.Name x pos) (bY i):=by
 intro aa s σ H Q I h;obtain⟨v,e,h⟩:=h;obtain⟨m,hn,hl⟩:=I.loc;obtain⟨u,r,l⟩:=hl i x v hN e hv;have fin:EP X aa σ Q u s:=⟨v,H,I,r,h⟩;rcases l with⟨hk,hm⟩|⟨hk,c,hc,hcell⟩
 .exact wpAny_Name (wpAny_loadName_local I.ok.kind hk hn hm fin) hd
 .rcases hk with hk|hk
  .exact wpAny_Name (wpAny_loadName_cell I.ok.kind hk hc hcell fin) hd
  .exact wpAny_Name (wpAny_loadName_free I.ok.kind hk hc hcell fin hcd) hd
def i8{i j pos}:PE X (.Constant (.int i) j pos) (tC (.int i)):=λ_ _ _ H _ I h=>wpAny_Constant_int ⟨.int i,H,I.tok _,⟨_,rfl⟩,h⟩
def Jy{b j pos}:PE X (.Constant (.bool b) j pos) (tC (.bl b)):=λ_ _ _ H _ I h=>Constant_bool ⟨.bl b,H,I,rfl,h⟩
def Gl(X:Cx)(x:Str):Prop:=X.env.kindOf x=some .globalImplicit
def CQ(I:Inv X aa σ H s)(hg:Gl X x)(hm:X.mg x=some u)(h:Q u s)
 (hd:autoParam (dB x) ab):wX X (eval (.Name x pos) X.env) Q E s:=
 Calls.Name_function_global I.ok.kind hg (Calls.loadGlobal_global (by rw[I.ok.glob];exact I.mod.glob.keeps I.bk) hm h) hd
def mK(I:Inv X aa σ H s)(hg:Gl X x)(hm:X.mg x=none)(hv:bootBuiltins x=some u)(h:Q u s)
 (hn:autoParam (x≠"__name__") ab) (hd:autoParam (dB x) ab):wX X (eval (.Name x pos) X.env) Q E s:=by
 obtain⟨mb,h1,h2⟩:=I.mod.blt;exact Calls.Name_function_global I.ok.kind hg (Calls.loadGlobal_builtin (by rw[I.ok.glob];exact I.mod.glob.keeps I.bk) hm (by rw[I.ok.blt];exact h1.keeps I.bk) ((h2 x hn).trans hv) h) hd
def CS(hg:Gl X x)(hm:X.mg x=none)(hv:bootBuiltins x=some u)(r:RelV v u)(hn:autoParam (x≠"__name__") ab) (hd:autoParam (dB x) ab):PE X (.Name x pos) (tC v):=λ_ _ _ H _ I h=>mK I hg hm hv ⟨v,H,I,r,h⟩ hn hd
variable{a b:Expr}{ta tb:TE}{pos:Pos}
variable{tA tB':TT}{aX:List Expr}
noncomputable def NH(t u:TT):TT:=λσ H Q=>t σ H λc H1=>if c=true then Q true H1 else u σ H1 Q
noncomputable def Mo(t:TT):TT:=λσ H Q=>t σ H λc H1=>Q (!c) H1
def Gh(ha:PT X a tA):PW X (.BoolOp .Or [a] pos) tA:=by
 intro wh aa s σ H Q I h;refine isTrue_or (bV (ha aa s σ H Q I h) λc s1 e=>?_);cases c with
 |false=>exact isTrue_or_nil e
 |true=>exact e
def Jz(ha:PT X a tA)(hb:PW X (.BoolOp .Or (b::aX) pos) tB'):PW X (.BoolOp .Or (a::b::aX) pos) (NH tA tB'):=by
 intro wh aa s σ H Q I h;refine isTrue_or (bV (ha aa s σ H _ I h) λc s1 ⟨H1,I1,q1⟩=>?_);cases c with
 |true=>exact⟨H1,I1,q1⟩
 |false=>exact hb wh aa s1 σ H1 Q I1 q1
def Gi(ha:PT X a tA):PT X (.UnaryOp .Not a pos) (Mo tA):=by intro aa s σ H Q I h;exact isTrue_not (ha aa s σ H (λc H1=>Q (!c) H1) I h)
noncomputable def JA(ta tb:TE):TE:=λσ H Q=>ta σ H λx H1=>∃c,x=.bl c/\if c=true then tb σ H1 Q else Q (.bl false) H1
noncomputable def JB(ta:TE):TE:=λσ H Q=>ta σ H λx H1=>∃c,x=.bl c/\Q (.bl (!c)) H1
def Gj{op}(h:PE X a t):PE X (.BoolOp op [a] pos) t:=λaa s σ H Q I hw=>BoolOp_one (h aa s σ H Q I hw)
def Gk(ha:PE X a ta)(hb:PE X (.BoolOp .And (b::aX) pos) tb):PE X (.BoolOp .And (a::b::aX) pos) (JA ta tb):=by
 intro aa s σ H Q I h;refine BoolOp_and (bV (ha aa s σ H _ I h) λv s1 ⟨x,H1,I1,r1,q1⟩=>?_);obtain⟨c,rfl,q1⟩:=q1;cases r1;refine OX ?_;cases c with
 |true=>exact hb aa s1 σ H1 Q I1 q1
 |false=>exact⟨.bl false,H1,I1,rfl,q1⟩
def Gm(ha:PE X a ta):PE X (.UnaryOp .Not a pos) (JB ta):=by intro aa s σ H Q I h;refine UnaryOp_ (bV (ha aa s σ H _ I h) λv s1 ⟨x,H1,I1,r1,q1⟩=>?_);obtain⟨c,rfl,q1⟩:=q1;cases r1;exact not_of (OX ⟨.bl (!c),H1,I1,rfl,q1⟩)
end
def SqL(K:Rx)(H:Hp)(a:Addr)(xs:List V):Prop:=
 Rd H a (.lst xs)\/
  ∃(o:Obj)(its:Array Rz)(n:Nat),K.lookup a=some o/\o.cls=.type "list"/\o.dict=none/\o.data=.seq its n/\its.size<=sizeLine/\Vals xs its.toList
def SqT(K:Rx)(H:Hp)(a:Addr)(xs:List V):Prop:=
 Rd H a (.tup xs)\/
  ∃(o:Obj)(its:Array Rz)(n:Nat),K.lookup a=some o/\o.cls=.type "tuple"/\o.data=.seq its n/\its.size<=sizeLine/\Vals xs its.toList
noncomputable def Mp:Rz->Option V
 |.none=>some .fU
 |.bool b=>some (.bl b)
 |.int i _=>some (.int i)
 |.str x _=>some (.str x)
 |.bytes b _=>some (.LQ b)
 |.float b _=>some (.Jr b)
 |.ref a=>some (.ref a)
 |.type n=>some (.ty n)
 |_=>none
def RelV.abs(r:RelV x u):Mp u=some x:=by
 cases x with
 |fU=>cases r;rfl
 |bl _=>cases r;rfl
 |int _=>obtain⟨t,rfl⟩:=r;rfl
 |str _=>obtain⟨t,rfl⟩:=r;rfl
 |LQ _=>obtain⟨t,rfl⟩:=r;rfl
 |Jr _=>obtain⟨t,rfl⟩:=r;rfl
 |ref _=>cases r;rfl
 |ty _=>cases r;rfl
def RelV.inj(r:RelV x u)(q:RelV y u):x=y:=Oi (r.abs.symm.trans q.abs)
theorem Vals.inj{xs ys:List V}{us:List Rz}(h:Vals xs us)(k:Vals ys us):xs=ys:=by
 induction h generalizing ys with
 |nil=>cases k;rfl
 |cons r _ ih=>
  cases k with
  |cons r' t'=>rw[r.inj r',ih t']
section
def SqL.of{K:Rx}(h:H a=some (.lst xs)):SqL K H a xs:=.inl (.inl h)
def SqT.of{K:Rx}(h:H a=some (.tup xs)):SqT K H a xs:=.inl (.inl h)
def Inv.list(I:Inv X aa σ H s)(h:SqL X.K H a xs):∃its:List Rz,Vals xs its/\PlainL s.heap a its.toArray/\xs.length<=sizeLine:=by
 rcases h with h|⟨o,its,n,hk,hc,hd,hs,hz,r⟩
 .obtain⟨z,its,n,r,e⟩:=h.ok I.aG;exact⟨its,r,⟨_,n,e,rfl,rfl,rfl⟩,z⟩
 .refine⟨its.toList,r,⟨o,n,I.rT a o hk,hc,hd,by simpa using hs⟩,?_⟩;have e:=r.length;simp only[p7]at e;lia
def Inv.tuple(I:Inv X aa σ H s)(h:SqT X.K H a xs):∃its:List Rz,Vals xs its/\IsTup s.heap a its.toArray/\xs.length<=sizeLine:=by
 rcases h with h|⟨o,its,n,hk,hc,hs,hz,r⟩
 .obtain⟨z,its,r,p⟩:=h.ok I.aG;exact⟨its,r,p,z⟩
 .refine⟨its.toList,r,⟨o,I.rT a o hk,hc,n,by simpa using hs⟩,?_⟩;have e:=r.length;simp only[p7]at e;lia
def Inv.uE(I:Inv X aa σ H s)(h:SqL X.K H a xs)(h':SqL X.K H a ys):xs=ys:=by
 obtain⟨its,r,⟨o,n,e,_,_,d⟩,_⟩:=I.list h;obtain⟨its',r',⟨o',n',e',_,_,d'⟩,_⟩:=I.list h';rw[e]at e';cases e';rw[d]at d';injection d' with d1 _;have:its=its':=by simpa using N7 Array.toList d1
 subst this;exact r.inj r'
def Inv.zG(I:Inv X aa σ H s)(h:SqT X.K H a xs)(h':SqT X.K H a ys):xs=ys:=by
 obtain⟨its,r,⟨o,e,_,n,d⟩,_⟩:=I.tuple h;obtain⟨its',r',⟨o',e',_,n',d'⟩,_⟩:=I.tuple h';rw[e]at e';cases e';rw[d]at d';injection d' with d1 _;have:its=its':=by simpa using N7 Array.toList d1
 subst this;exact r.inj r'
end
noncomputable abbrev Cx.oQ(X:Cx)(E:Rz->Rv->Prop):Cx:={X with xe:=E}
abbrev Cx.LM(X:Cx):Cx:=X.oQ λ_ _=>False
theorem Cx.Ok.oQ{X:Cx}(ok:X.Ok)(E:Rz->Rv->Prop):(X.oQ E).Ok:=⟨ok.mod,ok.kind,ok.glob,ok.blt,ok.above,ok.inj,ok.has,ok.Ju,ok.hd,ok.frames,ok.Jh,ok.Nm,ok.bs,ok.E8,ok.zE,ok.CC,ok.me,ok.Jk,ok.kt⟩
def Cx.Ok.ir{X:Cx}{E:Rz->Rv->Prop}(ok:(X.oQ E).Ok):X.Ok:=⟨ok.mod,ok.kind,ok.glob,ok.blt,ok.above,ok.inj,ok.has,ok.Ju,ok.hd,ok.frames,ok.Jh,ok.Nm,ok.bs,ok.E8,ok.zE,ok.CC,ok.me,ok.Jk,ok.kt⟩
section
theorem Inv.oQ(I:Inv X aa σ H s)(E:Rz->Rv->Prop):Inv (X.oQ E) aa σ H s:=⟨I.ok.oQ E,I.os,I.bare,I.base,I.loc,I.cell,I.free,I.gw,I.pin,I.aG,I.len⟩
theorem Inv.ir(I:Inv (X.oQ E) aa σ H s):Inv X aa σ H s:=⟨I.ok.ir,I.os,I.bare,I.base,I.loc,I.cell,I.free,I.gw,I.pin,I.aG,I.len⟩
theorem SP.ir(h:SP (X.oQ E) aa D f s'):SP X aa D f s':=by
 cases f with
 |next=>obtain⟨σ',H',I,q⟩:=h;exact⟨σ',H',I.ir,q⟩
 |brk=>obtain⟨σ',H',I,q⟩:=h;exact⟨σ',H',I.ir,q⟩
 |cont=>obtain⟨σ',H',I,q⟩:=h;exact⟨σ',H',I.ir,q⟩
 |ret u=>obtain⟨v,σ',H',I,r,q⟩:=h;exact⟨v,σ',H',I.ir,r,q⟩
theorem PSs.LM{st:List Stmt}(h:PSs X.LM st t):PSs X st t:=λaa s σ H D I hw=>OT (h aa s σ H D (I.oQ _) hw) (λ_ _ q=>q.ir) λ_ _ z=>False.elim z
end
section
variable{X:Cx}{st:Stmt}{aX:List Stmt}{t u:TS}
noncomputable def JC:TS:=λD σ H=>D.nx σ H
noncomputable def Gn(t u:TS):TS:=λD σ H=>t {D with nx:=u D} σ H
def CT:PSs X [] JC:=λ_ _ σ H _ I h=>Q2 ⟨σ,H,I,h⟩
def mL(h1:PS X st t)(h2:PSs X aX u):PSs X (st::aX) (Gn t u):=by
 intro aa s σ H D I h;refine wpAny_execs_cons (bV (h1 aa s σ H {D with nx:=u D} I h) λf s1 q=>?_);cases f with
 |next=>obtain⟨σ',H',I',q⟩:=q;exact h2 aa s1 σ' H' D I' q
 |ret v=>exact q
 |brk=>exact q
 |cont=>exact q
def mh(h1:PS X st t):PSs X [st] t:=by
 intro aa s σ H D I h;refine wpAny_execs_cons (bV (h1 aa s σ H D I h) λf s1 q=>?_);cases f with
 |next=>exact Q2 q
 |ret v=>exact q
 |brk=>exact q
 |cont=>exact q
def Inv.quiet(I:Inv X aa σ H s):interactive X.env=false:=by simp[interactive,I.ok.kind]
noncomputable def zM(te:TE):TS:=λD σ H=>te σ H λ_ H1=>D.nx σ H1
def we(he:PE X e te)(hs:autoParam (swapsWith e none pos.line X.env=pure false) RJ):PS X (.Expr e pos) (zM te):=by intro aa s σ H D I h;exact wpAny_Expr_any (bV (he aa s σ H _ I h) λv s1 ⟨x,H1,I1,r1,q1⟩=>⟨σ,H1,I1,q1⟩) I.quiet hs
noncomputable def JD(te:TE):TS:=λD σ H=>te σ H D.rt
def zN(he:PE X e te):PS X (.Return (some e) pos) (JD te):=by intro aa s σ H D I h;exact wpAny_Return_some (bV (he aa s σ H _ I h) λv s1 ⟨x,H1,I1,r1,q1⟩=>⟨x,σ,H1,I1,r1,q1⟩)
noncomputable def Mq(c:TT)(t u:TS):TS:=λD σ H=>c σ H λb H1=>if b=true then t D σ H1 else u D σ H1
def JE(hc:PT X c tc)(ha:PSs X a t)(hb:PSs X b u):PS X (.If c a b pos) (Mq tc t u):=by
 intro aa s σ H D I h;refine wpAny_If (bV (hc aa s σ H _ I h) λd s1 ⟨H1,I1,q1⟩=>?_);cases d with
 |true=>exact ha aa s1 σ H1 D I1 q1
 |false=>exact hb aa s1 σ H1 D I1 q1
end
abbrev TG:=V->St->Hp->(St->Hp->Prop)->Prop
abbrev Jm:=List V->St->Hp->(St->Hp->Prop)->Prop
def PG(X:Cx)(target:Expr)(t:TG):Prop:=
 ∀(aa:List (Addr×Obj))(s:Rv)(σ:St)(H:Hp)(v:V)(u:Rz)(Q:St->Hp->Prop),Inv X aa σ H s->RelV v u->t v σ H Q->
  wpAny (model X.prog X.w) X.A (assign target X.env u) (λ_ s'=>∃σ' H',Inv X aa σ' H' s'/\Q σ' H') X.xe s
def Gq(X:Cx)(ts:List Expr)(t:Jm):Prop:=
 ∀(aa:List (Addr×Obj))(s:Rv)(σ:St)(H:Hp)(vs:List V)(us:List Rz)(Q:St->Hp->Prop),Inv X aa σ H s->Vals vs us->t vs σ H Q->
  wpAny (model X.prog X.w) X.A (assignInOrder ((assignEach ts X.env).map (·.2)) us) (λ_ s'=>∃σ' H',Inv X aa σ' H' s'/\Q σ' H') X.xe s
abbrev JF:=V->V->V->Hp->(Hp->Prop)->Prop
def JG(X:Cx)(t:JF):Prop:=
 ∀(aa:List (Addr×Obj))(s:Rv)(σ:St)(H:Hp)(o i v:V)(ov iv u:Rz)(Q:Hp->Prop),Inv X aa σ H s->RelV o ov->RelV i iv->RelV v u->t o i v H Q->
  wpAny (model X.prog X.w) X.A (setItem ov iv u) (λ_ s'=>∃H',Inv X aa σ H' s'/\Q H') X.xe s
abbrev Mr:=V->V->Hp->VK->Prop
def Nu(X:Cx)(op:Operator)(t:Mr):Prop:=
 ∀(aa:List (Addr×Obj))(s:Rv)(σ:St)(H:Hp)(x y:V)(v u:Rz)(Q:VK),Inv X aa σ H s->RelV x v->RelV y u->t x y H Q->
  wpAny (model X.prog X.w) X.A (inplaceOp op v u) (EP X aa σ Q) X.xe s
section
noncomputable def d7(i:Nat):TG:=λv σ H Q=>Q (σ.set i (some v)) H
def gD(hN:X.N.Nodup)(hi:X.N[i]?=some x)(hx:CG X.env.scope x)(hf:autoParam (X.fn x=true\/X.env.scope.names.lookup x=some .local) RH):PG X (.Name x pos) (d7 i):=by intro aa s σ H v u Q I r h;exact wpAny_assign_Name (mJ I hN hi hx r (λs' I'=>⟨_,H,I',h⟩) hf)
noncomputable def CU:Jm:=λvs σ H Q=>vs=[]/\Q σ H
noncomputable def jf(t:TG)(u:Jm):Jm:=λvs σ H Q=>∃v r,vs=v::r/\t v σ H λσ' H'=>u r σ' H' Q
def p9:Gq X [] CU:=by intro aa s σ H vs us Q I r h;obtain⟨e,h⟩:=h;subst e;cases r;exact assignInOrder_nil ⟨σ,H,I,h⟩
def aJ(h1:PG X e t)(h2:Gq X es u)
 (hs:autoParam ((assignEach (e::es) X.env).map (·.2)=assign e X.env::(assignEach es X.env).map (·.2)) RJ):Gq X (e::es) (jf t u):=by
 intro aa s σ H vs us Q I r h;obtain⟨v,vr,e1,h⟩:=h;subst e1;cases r with
 |cons r rr=>rw[hs];refine assignInOrder_cons (bV (h1 aa s σ H _ _ _ I r h) λ_ s1 ⟨σ1,H1,I1,q1⟩=>?_);exact h2 aa s1 σ1 H1 _ _ Q I1 rr q1
noncomputable def CV(K:Rx)(n:Nat)(t:Jm):TG:=λv σ H Q=>∃a xs,v=.ref a/\SqT K H a xs/\xs.length=n/\t xs σ H Q
def uK(hc:X.calm=true)(h:Gq X es t)
 (hn:autoParam ((assignEach es X.env).length=n) RJ) (hst:autoParam ((assignEach es X.env).findIdx? (·.1)=none) RJ):PG X (.Tuple es k pos) (CV X.K n t):=by
 intro aa s σ H v u Q I r hw;obtain⟨a,xs,e1,hq,hl,hw⟩:=hw;subst e1;cases r;obtain⟨its,rv,ht,hz⟩:=I.tuple hq;refine assign_Tuple_tuple (I.ok.hd hc) ht (by simp[hn,<- hl,rv.length]) hst λh' hx=>?_;have I1:Inv X aa σ H {s with heap:=h'}:=I.kept (t':=s.toks) λb o e=>hx b o (N9 (jZ e)) e;exact h aa _ σ H xs _ Q I1 (by simpa using rv) hw
noncomputable def Ms(to ti:TE)(t:JF):TG:=λv σ H Q=>to σ H λo H1=>ti σ H1 λi H2=>t o i v H2 λH3=>Q σ H3
def Gr(ho:PE X o to)(hi:PE X i ti)(hs:JG X t)
 (ha:autoParam (∀v,assign (.Subscript o i pos) X.env v=(do
   let ov <- holding [v] (eval o X.env)
   let iv <- holding [v,ov] (eval i X.env)
   standAt pos
   holding [v,ov,iv] (setItem ov iv v)
   release [v,ov,iv] [])) RI):PG X (.Subscript o i pos) (Ms to ti t):=by
 intro aa s σ H v u Q I r h;rw[ha];refine bo (On (bV (ho aa s σ H _ I h) λov s1 ⟨x,H1,I1,r1,q1⟩=>?_));refine bo (On (bV (hi aa s1 σ H1 _ I1 q1) λiv s2 ⟨y,H2,I2,r2,q2⟩=>?_));refine bo (wpAny_standAt (bo (On (bV (hs aa s2 σ H2 x y v ov iv u _ I2 r1 r2 r q2) λ_ s3 ⟨H3,I3,q3⟩=>?_))));exact wpAny_release ⟨σ,H3,I3,q3⟩
noncomputable def yg(te:TE)(g:TG):TS:=λD σ H=>te σ H λx H1=>g x σ H1 D.nx
def zO(he:PE X e te)(hg:PG X tg g)(hs:autoParam (swapsWithSole [tg] e pos.line X.env=pure false) RJ)(hw:autoParam (swappedStores [tg] e X.env=pure none) RJ)
 (h1:autoParam ((assignEach [tg] X.env).map (·.2)=[assign tg X.env]) RJ):PS X (.Assign [tg] e pos) (yg te g):=by
 intro aa s σ H D I h;refine wpAny_Assign_stores (bV (he aa s σ H _ I h) λv s1 ⟨x,H1,I1,r1,q1⟩=>?_) hs hw;rw[h1];exact bV (hg aa s1 σ H1 x v _ I1 r1 q1) λ_ s2 q=>q
def mM(hN:X.N.Nodup)(hi:X.N[i]?=some x)(hx:CG X.env.scope x)(he:PE X e te)(hs:autoParam (swapsWith e (some (.Name x pos')) pos.line X.env=pure false) RJ)(hf:autoParam (X.fn x=true\/X.env.scope.names.lookup x=some .local) RH) :
 PS X (.Assign [.Name x pos'] e pos) (yg te (d7 i)):=by
 intro aa s σ H D I h;refine wpAny_Assign_Name (bV (he aa s σ H _ I h) λv s1 ⟨y,H1,I1,r1,q1⟩=>?_) hs;exact mJ I1 hN hi hx r1 (λs2 I2=>⟨_,H1,I2,q1⟩) hf
noncomputable def Mt(i:Nat)(te:TE)(ti:Mr):TS:=λD σ H=>∃x,σ[i]?=some (some x)/\te σ H λy H1=>ti x y H1 λz H2=>D.nx (σ.set i (some z)) H2
def Gs(hN:X.N.Nodup)(hi:X.N[i]?=some x)(hx:CG X.env.scope x)(he:PE X e te)(ho:Nu X op ti)(hf:autoParam (X.fn x=true\/X.env.scope.names.lookup x=some .local) RH) :
 PS X (.AugAssign (.Name x pos') op e pos) (Mt i te ti):=by
 intro aa s σ H D I h;obtain⟨v,e1,h⟩:=h;obtain⟨m,hn,hl⟩:=I.loc;have vis:Jx X.env.scope x:=by rcases hx with k|k;exact .inl k;exact .inr (.inl k)
 obtain⟨u,r,l⟩:=hl i x v hi e1 vis;refine wpAny_AugAssign_Name ?_;have go:wX X (eval e X.env) (λw s₂=>wX X (inplaceOp op u w) (λr s₃=>wX X (storeName X.env x r) (λ_=>SP X aa D .next) X.xe s₃) X.xe s₂) X.xe s:=by refine bV (he aa s σ H _ I h) λw s1 ⟨y,H1,I1,r1,q1⟩=>?_;refine bV (ho aa s1 σ H1 v y u w _ I1 r r1 q1) λz s2 ⟨zv,H2,I2,r2,q2⟩=>?_;exact mJ I2 hN hi hx r2 (λs3 I3=>⟨_,H2,I3,q2⟩) hf
 rcases l with⟨hk,hm⟩|⟨hk,c,hc,hcell⟩
 .exact wpAny_loadName_local I.ok.kind hk hn hm go
 .rcases hk with hk|hk
  .exact wpAny_loadName_cell I.ok.kind hk hc hcell go
  .rcases hx with k|k
   .have:X.env.scope.names.lookup x=some .free:=hk;rw[k]at this;cases this
   .have:X.env.scope.names.lookup x=some .free:=hk;rw[k]at this;cases this
noncomputable def NI(f:Int->Int->Int):Mr:=λx y H Q=>∃i j,x=.int i/\y=.int j/\Q (.int (f i j)) H
def Gu:Nu X .Add (NI λi j=>i+j):=by intro aa s σ H x y v u Q I r1 r2 h;obtain⟨i,j,e1,e2,q⟩:=h;subst e1;subst e2;obtain⟨t,rfl⟩:=r1;obtain⟨t',rfl⟩:=r2;exact iadd_int ⟨.int _,H,I.tok _,⟨_,rfl⟩,q⟩
end
section
def Gv(c:TT)(tb:TS):TS:=λD σ H=>∃W:Nat->St->Hp->Prop,(∃m,W m σ H)/\∀m σ H,W m σ H->
 c σ H λb H1=>if b=true then ∃N:St->Hp->Prop,(∀σ' H',N σ' H'->∃m',m'<m/\W m' σ' H')/\tb {D with nx:=N,ct:=N,bk:=D.nx} σ H1 else D.nx σ H1
def zP(hp:PassesOwn (model X.prog X.w) X.A X.env X.xe)(hc:PT X c tc)(hb:PSs X body tb):PS X (.While c body [] pos) (Gv tc tb):=by
 intro aa s σ H D I h;obtain⟨W,⟨m0,w0⟩,turn⟩:=h;refine wpAny_While (codeAny_whileLoop (λn s'=>∃σ' H',Inv X aa σ' H' s'/\W n σ' H') ?_ m0 ⟨σ,H,I,w0⟩);rintro n s1 ⟨σ1,H1,I1,w1⟩;refine Po hp (bV (hc aa s1 σ1 H1 _ I1 (turn n σ1 H1 w1)) λb s2 ⟨H2,I2,q2⟩=>?_);cases b with
 |true=>
  obtain⟨N,hN,q2⟩:=q2;rw[ck rfl];refine Po hp (bV (hb aa s2 σ1 H2 _ I2 q2) λf s3 q3=>?_);cases f with
  |next=>obtain⟨σ3,H3,I3,n3⟩:=q3;obtain⟨m',hm,w3⟩:=hN σ3 H3 n3;exact⟨m',hm,σ3,H3,I3,w3⟩
  |cont=>obtain⟨σ3,H3,I3,n3⟩:=q3;obtain⟨m',hm,w3⟩:=hN σ3 H3 n3;exact⟨m',hm,σ3,H3,I3,w3⟩
  |brk=>exact q3
  |ret v=>exact q3
 |false=>rw[cO Pe];exact Q2 ⟨σ1,H2,I2,q2⟩
end
structure It where
 go:Nat->Hp->Prop
 CM:Nat->Hp->V->Hp->Prop
 stop:Nat->Hp->Prop
def iM(X:Cx)(aa:List (Addr×Obj))(H:Hp)(b:Addr):Prop:=H b=none/\b≠X.env.locals/\b∉X.fs/\(b∈X.ex\/X.s₀.heap.objs.size<=b)/\(∀x c,X.env.cells.lookup x=some c->c≠b)/\∀p∈X.pn++aa,p.1≠b
def Inv.oP(I:Inv X aa σ H s)(hb:s.heap.objs.size<=b)(hn:H' b=none):iM X aa H' b:=by
 refine⟨hn,QI (N6 I.lt hb),I.Nn hb,.inr (lN I.sz hb),λx c e z=>?_,λp hp z=>?_⟩
 .obtain⟨v,q⟩:=I.cell x c e;exact absurd (N6 q.lt (by rw[z];exact hb)) (Pd _)
 .exact absurd (N6 (jZ (I.pin p hp).1) (by rw[z];exact hb)) (Pd _)
structure Turn(P:Ry) (w:World) (K:Rx) (tg:Expr) (J:It) (fp:List Addr) (it:Addr) (tn:Nat->Heap->Prop):Prop where
 mem:it∈fp
 obj:∀i h,tn i h->∀b∈fp,∃o,h.get? b=some o/\∀v,o.data≠.cell v
 keep:∀i h h',tn i h->(∀b∈fp,∀o,h.get? b=some o->h'.get? b=some o)->tn i h'
 item:∀(X:Cx),X.prog=P->X.w=w->X.K=K->X.calm=true->∀(i:Nat)(aa:List (Addr×Obj))(s:Rv)(σ:St)(H:Hp)(E:Rz->Rv->Prop),Inv X aa σ H s->(∀b∈fp,iM X aa H b)->tn i s.heap->J.go i H->
  wpAny (model P w) X.A (pyNext (.ref it)) (λr s1=>∃u,r=some u/\
   wpAny (model P w) X.A (letOwnedTupleGo tg (.ref it) u) (λ_ s2=>∃x H',Inv X aa σ H' s2/\RelV x u/\J.CM i H x H'/\tn (i+1) s2.heap/\∀b∈fp,H' b=none) E s1) E s
 done:∀(X:Cx),X.prog=P->X.w=w->X.K=K->X.calm=true->∀(i:Nat)(aa:List (Addr×Obj))(s:Rv)(σ:St)(H:Hp)(E:Rz->Rv->Prop),Inv X aa σ H s->(∀b∈fp,iM X aa H b)->tn i s.heap->J.stop i H->
  wpAny (model P w) X.A (pyNext (.ref it)) (λr s1=>r=none/\Inv X aa σ H s1) E s
 self:∀(A:RA)(i:Nat)(s:Rv)(Q:Rz->Rv->Prop)(E:Rz->Rv->Prop),tn i s.heap->Q (.ref it) s->wpAny (model P w) A (pyIter (.ref it)) Q E s
abbrev TI:=St->Hp->(It->Hp->Prop)->Prop
def JJ(X:Cx)(aa:List (Addr×Obj))(σ:St)(tg:Expr)(R:It->Hp->Prop)(itv:Rz)(s2:Rv):Prop:=∃(it:Addr)(fp:List Addr)(tn:Nat->Heap->Prop)(J:It)(H':Hp),itv=.ref it/\Inv X aa σ H' s2/\Turn X.prog X.w X.K tg J fp it tn/\tn 0 s2.heap/\(∀b∈fp,iM X aa H' b)/\R J H'
def PI(X:Cx)(tg iter:Expr)(wi:TI):Prop:=
 ∀(aa:List (Addr×Obj))(s:Rv)(σ:St)(H:Hp)(R:It->Hp->Prop),Inv X aa σ H s->wi σ H R->
  wpAny (model X.prog X.w) X.A (eval iter X.env) (λv s1=>wpAny (model X.prog X.w) X.A (pyIter v) (JJ X aa σ tg R) X.xe s1) X.xe s
def sh(ho:s.heap.get? it=some o)(hc:o.cls=.type n)(hd:o.data=.fields vs)
 (hn:["enumerate","zip","dict_itemiterator","dict_reverseitemiterator","odict_iterator","itertools.zip_longest","itertools.pairwise"].contains n=false) (hQ:Q () s):wpAny M A (letOwnedTupleGo tg (.ref it) u) Q E s:=by
 unfold letOwnedTupleGo;cases tg<;>first
  |exact bF hQ
  |(cases u<;>first
     |exact bF hQ
     |(refine bo (wpAny_load ho ?_)
       rw[hc,hd];show wpAny M A (if(["enumerate","zip","dict_itemiterator","dict_reverseitemiterator","odict_iterator","itertools.zip_longest","itertools.pairwise"].contains n&&vs[0]?==some (rawInt _))=true then _ else _) Q E s;rw[cO (by intro h;rw[hn,Qa]at h;cases h)];exact bF hQ))
noncomputable def Fb(K:Rx)(a:Addr):It:=⟨λi H=>∃xs x,SqL K H a xs/\xs[i]?=some x,λi H x H'=>H'=H/\∀xs,SqL K H a xs->xs[i]?=some x,λi H=>∃xs,SqL K H a xs/\xs.length<=i⟩
noncomputable def Mv(K:Rx)(a:Addr):It:=⟨λi H=>∃xs x,SqT K H a xs/\xs[i]?=some x,λi H x H'=>H'=H/\∀xs,SqT K H a xs->xs[i]?=some x,λi H=>∃xs,SqT K H a xs/\xs.length<=i⟩
noncomputable def LW(lo:Int)(n:Nat):It:=⟨λi _=>i<n,λi H x H'=>H'=H/\x=.int (lo+i),λi _=>n<=i⟩
def oT{K:Rx}{tg:Expr}(a it:Addr):Turn P w K tg (Fb K a) [it] it (λi h=>h.IsListIter it a i) where
 mem:=by simp
 obj:=λi h st b hb=>by
  have e:b=it:=by simpa using hb
  subst e;obtain⟨o,e,c,d⟩:=st;exact⟨o,e,λv z=>by rw[d]at z;cases z⟩
 keep:=λi h h' st k=>st.at λo e=>k it (by simp) o e
 item:=by intro X hP hw hK hc i aa s σ H E I hf st hg;subst hP hw hK;obtain⟨xs,x,hq,hx⟩:=hg;obtain⟨its,rv,p,hz⟩:=I.list hq;obtain⟨u,hu,ru⟩:=rv.get hx;obtain⟨f0,f1,f2,f3,f4,f5⟩:=hf it (by simp);refine wpAny_pyNext_list_item st p.isList (x:=u) (by simpa using hu) λh' st' sb=>?_;have I1:Inv X aa σ H {s with heap:=h'}:=I.turned (t':=s.toks) (λb o hb e=>(sb.2 b hb).trans e) f0 f1 f3 f4 f5;obtain⟨o,e,c,d⟩:=id st';exact⟨u,rfl,sh (s:={s with heap:=h'}) e c d (by decide) ⟨x,H,I1,ru,⟨rfl,λys hy=>by rw[I.uE hy hq];exact hx⟩,st',λb hb=>(hf b hb).1⟩⟩
 done:=by intro X hP hw hK hc i aa s σ H E I hf st hg;subst hP hw hK;obtain⟨xs,hq,hx⟩:=hg;obtain⟨its,rv,p,hz⟩:=I.list hq;obtain⟨f0,f1,f2,f3,f4,f5⟩:=hf it (by simp);have hl:=rv.length;exact wpAny_pyNext_list_end (I.ok.hd hc) st p.isList (by simp;lia) λh' eb=>⟨rfl,I.turned (t':=s.toks) (λb o hb e=>eb b o hb e) f0 f1 f3 f4 f5⟩
 self:=λ_ _ _ _ _ st h=>wpAny_pyIter_listiter st h
def uL{K:Rx}{tg:Expr}(a it:Addr):Turn P w K tg (Mv K a) [it] it (λi h=>h.IsTupleIter it a i) where
 mem:=by simp
 obj:=λi h st b hb=>by
  have e:b=it:=by simpa using hb
  subst e;obtain⟨o,e,c,d⟩:=st;exact⟨o,e,λv z=>by rw[d]at z;cases z⟩
 keep:=λi h h' st k=>st.at λo e=>k it (by simp) o e
 item:=by intro X hP hw hK hc i aa s σ H E I hf st hg;subst hP hw hK;obtain⟨xs,x,hq,hx⟩:=hg;obtain⟨its,rv,p,hz⟩:=I.tuple hq;obtain⟨u,hu,ru⟩:=rv.get hx;obtain⟨f0,f1,f2,f3,f4,f5⟩:=hf it (by simp);refine wpAny_pyNext_tuple_item st (show s.heap.IsTuple a its.toArray from p) (x:=u) (by simpa using hu) λh' st' sb=>?_;have I1:Inv X aa σ H {s with heap:=h'}:=I.turned (t':=s.toks) (λb o hb e=>(sb.2 b hb).trans e) f0 f1 f3 f4 f5;obtain⟨o,e,c,d⟩:=id st';exact⟨u,rfl,sh (s:={s with heap:=h'}) e c d (by decide) ⟨x,H,I1,ru,⟨rfl,λys hy=>by rw[I.zG hy hq];exact hx⟩,st',λb hb=>(hf b hb).1⟩⟩
 done:=by intro X hP hw hK hc i aa s σ H E I hf st hg;subst hP hw hK;obtain⟨xs,hq,hx⟩:=hg;obtain⟨its,rv,p,hz⟩:=I.tuple hq;obtain⟨f0,f1,f2,f3,f4,f5⟩:=hf it (by simp);have hl:=rv.length;exact wpAny_pyNext_tuple_end (I.ok.hd hc) st (show s.heap.IsTuple a its.toArray from p) (by simp;lia) λh' eb=>⟨rfl,I.turned (t':=s.toks) (λb o hb e=>eb b o hb e) f0 f1 f3 f4 f5⟩
 self:=λ_ _ _ _ _ st h=>wpAny_pyIter_tupleiter st h
def uM{K:Rx}{tg:Expr}(it:Addr)(lo:Int)(n:Nat):Turn P w K tg (LW lo n) [it] it (λi h=>IsRangeIter h it (lo+(i:Nat)*1) ((n:Int)-(i:Nat)) 1) where
 mem:=by simp
 obj:=λi h st b hb=>by grind
 keep:=λi h h' st k=>k it (by simp) _ st
 item:=by intro X hP hw hK hc i aa s σ H E I hf st hg;subst hP hw hK;obtain⟨f0,f1,f2,f3,f4,f5⟩:=hf it (by simp);have W:=Walks.range (prog:=X.prog) (w:=X.w) (I.ok.hd hc) it lo 1 n;refine W.item i s _ _ hg st λv h' tk hv st' kk=>?_;obtain⟨t,rfl⟩:=hv;have I1:Inv X aa σ H {s with heap:=h',toks:=tk}:=I.turned (λb o hb e=>kk b o (by simpa using hb) e) f0 f1 f3 f4 f5;refine⟨_,rfl,sh (s:={s with heap:=h',toks:=tk}) (n:="range_iterator") st' rfl rfl (by decide) ⟨.int (lo+i),H,I1,⟨t,?_⟩,⟨rfl,rfl⟩,st',λb hb=>(hf b hb).1⟩⟩;rw[Int.mul_one]
 done:=by intro X hP hw hK hc i aa s σ H E I hf st hg;subst hP hw hK;obtain⟨f0,f1,f2,f3,f4,f5⟩:=hf it (by simp);exact wpAny_pyNext_range_end (I.ok.hd hc) st (by have:n<=i:=hg;lia) λh' eb=>⟨rfl,I.turned (t':=s.toks) (λb o hb e=>eb b o hb e) f0 f1 f3 f4 f5⟩
 self:=λ_ _ _ _ _ st h=>wpAny_pyIter_rangeiter st h
section
def zQ(K:Rx)(tl:TE):TI:=λσ H R=>tl σ H λx H1=>∃a,x=.ref a/\(∃xs,SqL K H1 a xs)/\R (Fb K a) H1
def CW{tl:TE}(hl:PE X l tl):PI X tg l (zQ X.K tl):=by
 intro aa s σ H R I h;refine bV (hl aa s σ H _ I h) λv s1 ⟨x,H1,I1,r1,q1⟩=>?_;obtain⟨a,e,⟨xs,hq⟩,q⟩:=q1;subst e;cases r1;obtain⟨its,rv,p,hz⟩:=I1.list hq;refine P2 p.isList ?_;refine⟨s1.heap.objs.size,[s1.heap.objs.size],_,_,H1,rfl,I1.kept (t':=s1.toks) λb o e=>cj _ e,oT a _,⟨_,jY _ rfl,rfl,rfl⟩,λb hb=>?_,q⟩;have e:b=s1.heap.objs.size:=by simpa using hb
 subst e;exact I1.oP (cN _) (I1.aG.fresh (cN _))
def zR{s:Rv}{R:It->Hp->Prop}{E:Rz->Rv->Prop}{lo hi:Int}{t u v:Tok}{tk:Nat}(I:Inv X aa σ H s)(h1:-(2^62)<=lo)(h2:lo<2^62)(h3:-(2^62)<=hi)(h4:hi<2^62)
 (q:R (LW lo (hi-lo).toNat) H):wX X (pyIter (.ref s.heap.objs.size)) (JJ X aa σ tg R) E { s with heap:=s.heap.push { cls:=.type "range",data:=.fields #[.int lo t,.int hi u,.int 1 v] },toks:=tk }:=by
 refine wpAny_pyIter_range (IsRange.new ..) (small_one h1 h2 h3 h4) ?_;have I1:Inv X aa σ H { s with heap:=s.heap.push { cls:=.type "range",data:=.fields #[.int lo t,.int hi u,.int 1 v] },toks:=tk }:=I.kept λb o e=>cj _ e;refine⟨(s.heap.push { cls:=.type "range",data:=.fields #[.int lo t,.int hi u,.int 1 v] }).objs.size,[(s.heap.push { cls:=.type "range",data:=.fields #[.int lo t,.int hi u,.int 1 v] }).objs.size],_,_,H,rfl,
  I1.kept (t':=tk) λb o e=>cj _ e,uM _ lo (hi-lo).toNat,?_,λb hb=>?_,q⟩
 .have e1:lo+((0:Nat):Int)*1=lo:=by simp
  have e2:(((hi-lo).toNat:Nat):Int)-((0:Nat):Int)=Builtin.Range.rangeSize lo hi 1:=by rw[rangeSize_one];split<;>lia
  show IsRangeIter _ _ (lo+((0:Nat):Int)*1) ((((hi-lo).toNat:Nat):Int)-((0:Nat):Int)) 1;rw[e1,e2];exact jY _ rfl
 .have e:b=(s.heap.push { cls:=.type "range",data:=.fields #[.int lo t,.int hi u,.int 1 v] }).objs.size:=by simpa using hb
  subst e;exact I1.oP (cN _) (I1.aG.fresh (cN _))
def JK(ta:TA):TI:=λσ H R=>ta σ H λvs H1=>∃j:Int,vs=[.int j]/\-(2^62)<=j/\j<2^62/\R (LW 0 j.toNat) H1
def yh{a:Expr}{ta:TA}{p pos:Pos}(hg:Gl X "range") (hm:X.mg "range"=none) (ha:PA X [a] ta) (hs:autoParam (starEach [a] X.env=[(false,eval a X.env)]) RJ):PI X tg (.Call (.Name "range" p) [a] [] pos) (JK ta):=by
 intro aa s σ H R I h;refine Call_ (mK I hg hm boot_range (PX (bV (ha pos aa s σ H _ I h) λus s1 ⟨vs,H1,I1,r1,q1⟩=>?_) hs rfl));obtain⟨j,e,q1,q2,q⟩:=q1;subst e;cases r1 with
 |cons r rr=>cases rr;obtain⟨t,rfl⟩:=r;exact call_range_1 (zR I1 (by lia) (by lia) q1 q2 (by simpa using q))
def JL(wi:TI)(g:TG)(tb:TS):TS:=λD σ H=>wi σ H λJ H1=>∃W:Nat->Nat->St->Hp->Prop,(∃m,W 0 m σ H1)/\∀i m σ H,W i m σ H->
 (J.stop i H/\D.nx σ H)\/(J.go i H/\∃N:St->Hp->Prop,(∀σ' H',N σ' H'->∃m',m'<m/\W (i+1) m' σ' H')/\∀x H',J.CM i H x H'->g x σ H' λσ2 H2=>tb {D with nx:=N,ct:=N,bk:=D.nx} σ2 H2)
noncomputable def mN(fp:List Addr)(h:Heap):List (Addr×Obj):=fp.filterMap λb=>(h.get? b).map λo=>(b,o)
def gE(hb:b∈fp)(e:h.get? b=some o):(b,o)∈mN fp h:=Qj.mpr ⟨b,hb,by rw[e];rfl⟩
def yi(hp:p∈mN fp h):p.1∈fp/\h.get? p.1=some p.2:=by
 obtain⟨b,hb,e⟩:=Qj.mp hp;cases q:h.get? b with
 |none=>rw[q]at e;cases e
 |some o=>rw[q]at e;have e':(b,o)=p:=Oi e;subst e';exact⟨hb,q⟩
def Inv.pinned(I:Inv X aa σ H s)(hf:∀b∈fp,iM X aa H b)(ho:∀b∈fp,∃o,s.heap.get? b=some o/\∀v,o.data≠.cell v):Inv X (aa++mN fp s.heap) σ H s:=
 I.x_ λp hp=>(gZ.mp hp).elim (λz=>I.pin p (p6 _ z)) λz=>by
  obtain⟨hb,e⟩:=yi z;obtain⟨f0,f1,f2,_⟩:=hf p.1 hb
  grind
def Inv.j6(I:Inv X (aa++pl) σ H s):Inv X aa σ H s:=I.x_ λp hp=>I.pin p (p6 _ (lP _ hp))
def p_(hp:PassesOwn (model X.prog X.w) X.A X.env X.xe)(hc:X.calm=true)(hi:PI X tg iter wi)(hg:PG X tg g)(hb:PSs X body tb)
 (hs:autoParam (∀x,foldedSetIterable iter X.env x=pure x) RI):PS X (.For tg iter body [] pos) (JL wi g tb):=by
 intro aa s σ H D I h;refine wpAny_For (bV (hi aa s σ H _ I h) λv s1 h1=>bV h1 λitv s2 h2=>?_) hs;obtain⟨it,fp,tn,J,H2,e,I2,T,st2,f2,W,⟨m0,w0⟩,turn⟩:=h2;subst e;have stat:∀{H':Hp},(∀b∈fp,H' b=none)->∀b∈fp,iM X aa H' b:=λhn b hb=>⟨hn b hb,(f2 b hb).2⟩;refine codeAny_forLoop_any (λn s'=>∃i σ' H',Inv X aa σ' H' s'/\tn i s'.heap/\(∀b∈fp,H' b=none)/\W i n σ' H') ?_ m0 ⟨0,σ,H2,I2,st2,λb hb=>(f2 b hb).1,w0⟩;rintro n s3 ⟨i,σ3,H3,I3,st3,fr3,w3⟩;rcases turn i n σ3 H3 w3 with⟨stop,qn⟩|⟨go,N,hN,step⟩
 .refine Po hp (bV (T.done X rfl rfl rfl hc i aa s3 σ3 H3 X.xe I3 (stat fr3) st3 stop) λr s4 ⟨hr,I4⟩=>?_);subst hr;exact Q2 ⟨σ3,H3,I4,qn⟩
 .refine Po hp (bV (T.item X rfl rfl rfl hc i aa s3 σ3 H3 X.xe I3 (stat fr3) st3 go) λr s4 ⟨u,hr,h4⟩=>?_);subst hr;refine Po hp (bV h4 λ_ s5 ⟨x,H5,I5,r5,y5,st5,fr5⟩=>?_);have I5':=I5.pinned (stat fr5) (T.obj _ _ st5);refine Po hp (bV (hg _ s5 σ3 H5 x u _ I5' r5 (step x H5 y5)) λ_ s6 ⟨σ6,H6,I6,q6⟩=>?_);refine Po hp (bV (hb _ s6 σ6 H6 _ I6 q6) λf s7 q7=>?_);have again:∀{σ7:St}{H7:Hp},Inv X (aa++mN fp s5.heap) σ7 H7 s7->N σ7 H7->∃m,m<n/\∃i σ' H',Inv X aa σ' H' s7/\tn i s7.heap/\(∀b∈fp,H' b=none)/\W i m σ' H':=λ{σ7 H7} I7 n7=>by obtain⟨m',hm,w7⟩:=hN σ7 H7 n7;refine⟨m',hm,i+1,σ7,H7,I7.j6,T.keep _ _ _ st5 λb hb o e=>(I7.pin (b,o) (p6 _ (p6 _ (gE hb e)))).1,λb hb=>?_,w7⟩;obtain⟨o,e,d⟩:=T.obj _ _ st5 b hb;exact(I7.pin (b,o) (p6 _ (p6 _ (gE hb e)))).2.1
  cases f with
  |next=>obtain⟨σ7,H7,I7,n7⟩:=q7;exact again I7 n7
  |cont=>obtain⟨σ7,H7,I7,n7⟩:=q7;exact again I7 n7
  |brk=>obtain⟨σ7,H7,I7,q7⟩:=q7;exact⟨σ7,H7,I7.j6,q7⟩
  |ret v=>obtain⟨x7,σ7,H7,I7,r7,q7⟩:=q7;exact⟨x7,σ7,H7,I7.j6,r7,q7⟩
end
def zS{K:Rx}{a:Addr}{xs:List V}{g:TG}{tb:TS}{D:Ends}{σ:St}{H:Hp}(Pv:Nat->St->Hp->Prop)(h0:Pv 0 σ H)(hl:∀i σ H,i<=xs.length->Pv i σ H->SqL K H a xs)
 (hs:∀i x σ H,xs[i]?=some x->Pv i σ H->g x σ H λσ2 H2=>tb {D with nx:=Pv (i+1),ct:=Pv (i+1),bk:=D.nx} σ2 H2) (hd:∀σ H,Pv xs.length σ H->D.nx σ H) :
 ∃W:Nat->Nat->St->Hp->Prop,(∃m,W 0 m σ H)/\∀i m σ H,W i m σ H->
  ((Fb K a).stop i H/\D.nx σ H)\/((Fb K a).go i H/\∃N:St->Hp->Prop,(∀σ' H',N σ' H'->∃m',m'<m/\W (i+1) m' σ' H')/\∀x H',(Fb K a).CM i H x H'->g x σ H' λσ2 H2=>tb {D with nx:=N,ct:=N,bk:=D.nx} σ2 H2):=by
 refine⟨λi m σ H=>m=xs.length-i/\i<=xs.length/\Pv i σ H,⟨xs.length,by simp,N3 _,h0⟩,?_⟩;rintro i m σ H ⟨rfl,hi,p⟩;have q:=hl i σ H hi p;by_cases hlt:i<xs.length
 .refine .inr ⟨⟨xs,xs[i],q,by simp[hlt]⟩,Pv (i+1),λσ' H' p'=>⟨xs.length-(i+1),by lia,rfl,hlt,p'⟩,λx H' y=>?_⟩;obtain⟨e,y⟩:=y;subst e;exact hs i x σ _ (y xs q) p
 .have e:i=xs.length:=by lia
  subst e;exact .inl ⟨⟨xs,q,cN _⟩,hd σ H p⟩
abbrev R2:=V->V->Hp->VK->Prop
def OpR(X:Cx)(f:Rz->Rz->Sem Rz)(r:R2):Prop:=
 ∀(aa:List (Addr×Obj))(s:Rv)(σ:St)(H:Hp)(x y:V)(v u:Rz)(Q:VK),Inv X aa σ H s->RelV x v->RelV y u->r x y H Q->
  wpAny (model X.prog X.w) X.A (f v u) (EP X aa σ Q) X.xe s
def Mw(X:Cx)(f:Rz->Sem Rz)(r:V->Hp->VK->Prop):Prop:=
 ∀(aa:List (Addr×Obj))(s:Rv)(σ:St)(H:Hp)(x:V)(v:Rz)(Q:VK),Inv X aa σ H s->RelV x v->r x H Q->
  wpAny (model X.prog X.w) X.A (f v) (EP X aa σ Q) X.xe s
def CallR(X:Cx)(f:Rz)(r:List V->Hp->VK->Prop):Prop:=
 ∀(aa:List (Addr×Obj))(s:Rv)(σ:St)(H:Hp)(xs:List V)(us:List Rz)(Q:VK),Inv X aa σ H s->Vals xs us->r xs H Q->
  wpAny (model X.prog X.w) X.A (call f us) (EP X aa σ Q) X.xe s
def Mx(X:Cx)(r:V->Hp->(Bool->Hp->Prop)->Prop):Prop:=
 ∀(aa:List (Addr×Obj))(s:Rv)(σ:St)(H:Hp)(x:V)(v:Rz)(Q:Bool->Hp->Prop),Inv X aa σ H s->RelV x v->r x H Q->
  wpAny (model X.prog X.w) X.A (truthy v) (TP X aa σ Q) X.xe s
noncomputable def uN(r:R2)(ta tb:TE):TE:=λσ H Q=>ta σ H λx H1=>tb σ H1 λy H2=>r x y H2 Q
noncomputable def NJ(r:V->Hp->VK->Prop)(ta:TE):TE:=λσ H Q=>ta σ H λx H1=>r x H1 Q
noncomputable def rI(C:Int->Int->Prop)(g:Int->Int->V):R2:=λx y H Q=>∃i j,x=.int i/\y=.int j/\C i j/\Q (g i j) H
noncomputable def CY(g:Int->Int->V):R2:=λx y H Q=>∃i j,x=.int i/\y=.int j/\Q (g i j) H
noncomputable def rU(g:Int->V):V->Hp->VK->Prop:=λx H Q=>∃i,x=.int i/\Q (g i) H
section
def Gw(ha:PE X a ta)(hb:PE X b tb){R:V->V->Hp->Prop}(I:Inv X aa σ H s)
 (h:ta σ H λx H1=>tb σ H1 λy H2=>R x y H2) {Q:Rz->Rv->Prop} {f:Rz->Rz->Sem Rz}
 (hf:∀v u s2 x y H2,Inv X aa σ H2 s2->RelV x v->RelV y u->R x y H2->wX X (f v u) Q X.xe s2) :
 wX X (eval a X.env) (λv s₁=>wX X (eval b X.env) (λu s₂=>wX X (f v u) Q X.xe s₂) X.xe s₁) X.xe s:=by
 refine bV (ha aa s σ H _ I h) λv s1 ⟨x,H1,I1,r1,q1⟩=>?_;refine bV (hb aa s1 σ H1 _ I1 q1) λu s2 ⟨y,H2,I2,r2,q2⟩=>?_;exact hf v u s2 x y H2 I2 r1 r2 q2
def zT{op:Operator}(ho:OpR X (binaryOp op) r)(ha:PE X a ta)(hb:PE X b tb):PE X (.BinOp a op b pos) (uN r ta tb):=by intro aa s σ H Q I h;exact wpAny_BinOp (Gw ha hb I h λv u s2 x y H2 I2 rx ry q=>ho aa s2 σ H2 x y v u Q I2 rx ry q)
def JN(ho:Mw X (unaryOp op) r)(ha:PE X a ta):PE X (.UnaryOp op a pos) (NJ r ta):=by intro aa s σ H Q I h;exact UnaryOp_ (bV (ha aa s σ H _ I h) λv s1 ⟨x,H1,I1,r1,q1⟩=>ho aa s1 σ H1 x v Q I1 r1 q1)
def My{f:Rz->Rz->Sem Rz}{C:Int->Int->Prop}{g:Int->Int->Int}
 (rule:∀(i j:Int)(t u:Tok)(s:Rv)(Q:Rz->Rv->Prop)(E:Rz->Rv->Prop),C i j->Q (.int (g i j) s.toks) {s with toks:=s.toks+1}->wX X (f (.int i t) (.int j u)) Q E s) :
 OpR X f (rI C λi j=>.int (g i j)):=by
 intro aa s σ H x y v u Q I rx ry h;obtain⟨i,j,rfl,rfl,hc,q⟩:=h;obtain⟨t,rfl⟩:=rx;obtain⟨t',rfl⟩:=ry;exact rule i j t t' s _ _ hc ⟨.int (g i j),H,I.tok _,⟨_,rfl⟩,q⟩
def Mz{f:Rz->Rz->Sem Rz}{g:Int->Int->Int}
 (rule:∀(i j:Int)(t u:Tok)(s:Rv)(Q:Rz->Rv->Prop)(E:Rz->Rv->Prop),Q (.int (g i j) s.toks) {s with toks:=s.toks+1}->wX X (f (.int i t) (.int j u)) Q E s) :
 OpR X f (CY λi j=>.int (g i j)):=by
 intro aa s σ H x y v u Q I rx ry h;obtain⟨i,j,rfl,rfl,q⟩:=h;obtain⟨t,rfl⟩:=rx;obtain⟨t',rfl⟩:=ry;exact rule i j t t' s _ _ ⟨.int (g i j),H,I.tok _,⟨_,rfl⟩,q⟩
def Gx{f:Rz->Rz->Sem Rz}{g:Int->Int->Bool}
 (rule:∀(i j:Int)(t u:Tok)(s:Rv)(Q:Rz->Rv->Prop)(E:Rz->Rv->Prop),Q (.bool (g i j)) s->wX X (f (.int i t) (.int j u)) Q E s) :
 OpR X f (CY λi j=>.bl (g i j)):=by
 intro aa s σ H x y v u Q I rx ry h;obtain⟨i,j,rfl,rfl,q⟩:=h;obtain⟨t,rfl⟩:=rx;obtain⟨t',rfl⟩:=ry;exact rule i j t t' s _ _ ⟨.bl (g i j),H,I,rfl,q⟩
def MA(i j:Int):Prop:=0<j/\j<1073741824
def CMul(i j:Int):Prop:=(-(2^64)<i/\i<2^64)\/(-(2^64)<j/\j<2^64)
def CMul.ok(h:CMul i j):IntMulOk i j:=by
 rcases h with⟨h1,h2⟩|⟨h1,h2⟩
 .exact .of_left (intBits_le_64 h1 h2)
 .exact .of_right (intBits_le_64 h1 h2)
def op_add:OpR X (binaryOp .Add) (CY λi j=>.int (i+j)):=Mz λ_ _ _ _ _ _ _ q=>add_int q
def Gy:OpR X (binaryOp .Mult) (rI CMul λi j=>.int (i*j)):=My λ_ _ _ _ _ _ _ hc q=>mul_int q hc.ok
def CZ:OpR X (binaryOp .FloorDiv) (rI MA λi j=>.int (i/j)):=My λi j _ _ _ _ _ hc q=>by have h1:(0:Int)<j:=hc.1;have h2:j<1073741824:=hc.2;exact floordiv_int (by lia) (by rw[Int.fdiv_eq_ediv_of_nonneg i (by lia)];exact q) (.inl (PyProof.noPylong_small (by lia)))
def Gz:OpR X (binaryOp .Mod) (rI (λ_ j=>0<j) λi j=>.int (i%j)):=My λi j _ _ _ _ _ hc q=>by have h1:(0:Int)<j:=hc;exact mod_int' (by lia) (by rw[Int.fmod_eq_emod_of_nonneg i (by lia)];exact q)
def NL{f:Rz->Sem Rz}{g:Int->Int}
 (rule:∀(i:Int)(t:Tok)(s:Rv)(Q:Rz->Rv->Prop)(E:Rz->Rv->Prop),Q (.int (g i) s.toks) {s with toks:=s.toks+1}->wX X (f (.int i t)) Q E s) :
 Mw X f (rU λi=>.int (g i)):=by
 intro aa s σ H x v Q I rx h;obtain⟨i,rfl,q⟩:=h;obtain⟨t,rfl⟩:=rx;exact rule i t s _ _ ⟨.int (g i),H,I.tok _,⟨_,rfl⟩,q⟩
def GA:Mw X (unaryOp .USub) (rU λi=>.int (-i)):=NL λ_ _ _ _ _ q=>neg_int q
end
section
def JO:OpR X (compareOp .Lt) (CY λi j=>.bl (decide (i<j))):=Gx λ_ _ _ _ _ _ _ q=>lt_int q
def JP:OpR X (compareOp .LtE) (CY λi j=>.bl (decide (i<=j))):=Gx λ_ _ _ _ _ _ _ q=>le_int q
def JQ:OpR X (compareOp .Gt) (CY λi j=>.bl (decide (j<i))):=Gx λ_ _ _ _ _ _ _ q=>gt_int q
def OpR.or(h:OpR X f r)(h':OpR X f r'):OpR X f (λx y H Q=>r x y H Q\/r' x y H Q):=by
 intro aa s σ H x y v u Q I rx ry q;rcases q with q|q
 .exact h aa s σ H x y v u Q I rx ry q
 .exact h' aa s σ H x y v u Q I rx ry q
def cT(b:Expr)(h:autoParam (op≠.In) ab)(h2:autoParam (op≠.NotIn) ab):behindInMarks op b=false:=by
 have e1:(op==CmpOp.In)=false:=by cases op<;>first|rfl|exact absurd rfl h
 have e2:(op==CmpOp.NotIn)=false:=by cases op<;>first|rfl|exact absurd rfl h2
 cases b<;>simp[behindInMarks,e1,e2]
def wf(ho:OpR X (compareOp op) r)(ha:PE X a ta)(hb:PE X b tb)(hm:behindInMarks op b=false):PE X (.Compare a [op] [b] pos) (uN r ta tb):=by intro aa s σ H Q I h;exact wpAny_Compare1 (Gw ha hb I h λv u s2 x y H2 I2 rx ry q=>ho aa s2 σ H2 x y v u Q I2 rx ry q) hm
noncomputable def zU(t:TE):TT:=λσ H Q=>t σ H λx H'=>∃k,x=.bl k/\Q k H'
def qf(ho:OpR X (compareOp op) r)(ha:PE X a ta)(hb:PE X b tb)(hm:behindInMarks op b=false):PT X (.Compare a [op] [b] pos) (zU (uN r ta tb)):=by intro aa s σ H Q I h;refine wpAny_isTrue_Compare1 (bV (ha aa s σ H _ I h) λv s1 ⟨x,H1,I1,r1,q1⟩=>bV (hb aa s1 σ H1 _ I1 q1) λu s2 ⟨y,H2,I2,r2,q2⟩=>bV (ho aa s2 σ H2 x y v u _ I2 r1 r2 q2) λc s3 ⟨z,H3,I3,r3,k,e,q3⟩=>?_) hm;subst e;cases r3;exact OX ⟨H3,I3,q3⟩
noncomputable def zV(r r':R2)(ta tb tc:TE):TE:=λσ H Q=>ta σ H λx H1=>tb σ H1 λy H2=>r x y H2 λz H3=>∃k,z=.bl k/\
 (if k=true then tc σ H3 λw' H4=>r' y w' H4 Q else Q (.bl false) H3)
def zW(ho:OpR X (compareOp op) r)(ho':OpR X (compareOp op') r')(ha:PE X a ta)(hb:PE X b tb)(hc:PE X c tc)
 (hm:lastMarks [op,op'] [b,c]=false:=by with_unfolding_all rfl):PT X (.Compare a [op,op'] [b,c] pos) (zU (zV r r' ta tb tc)):=by
 intro aa s σ H Q I h;refine isTrue_chain (bV (ha aa s σ H _ I h) λv s1 ⟨x,H1,I1,r1,q1⟩=>test_link (bV (hb aa s1 σ H1 _ I1 q1) λu s2 ⟨y,H2,I2,r2,q2⟩=>bV (ho aa s2 σ H2 x y v u _ I2 r1 r2 q2) λd s3 ⟨z,H3,I3,r3,k,e,q3⟩=>?_)) hm;subst e;cases r3;refine OX ?_;cases k with
 |false=>obtain⟨k',e',q'⟩:=q3;cases e';exact ite_ff ⟨H3,I3,q'⟩
 |true=>refine ite_tt (test_last (bV (hc aa s3 σ H3 _ I3 q3) λw' s4 ⟨z',H4,I4,r4,q4⟩=>bV (ho' aa s4 σ H4 y z' u w' _ I4 r2 r4 q4) λd' s5 ⟨z2,H5,I5,r5,k2,e2,q5⟩=>?_));subst e2;cases r5;exact OX ⟨H5,I5,q5⟩
def GB(K:Rx)(x:V)(H:Hp)(k:Bool):Prop:=
 match x with
 |.fU=>k=false
 |.bl b=>k=b
 |.int i=>k=(i != 0)
 |.str y=>y.length<=sizeLine/\k=((y.length:Int) != 0)
 |.LQ y=>y.size<=sizeLine/\k=((y.size:Int) != 0)
 |.ref p=>(∃xs,SqL K H p xs/\k=!xs.isEmpty)\/(∃xs,SqT K H p xs/\k=!xs.isEmpty)\/∃kvs,H p=some (.dK kvs)/\k=!kvs.isEmpty
 |_=>False
def uO{κ:Type}{kvs:List (κ×V)}{vs:List (κ×Rz)}(r:KV kvs vs):(!vs.isEmpty)=!kvs.isEmpty:=by cases r<;>rfl
def mO(r:Vals xs its):(!its.toArray.isEmpty)=!xs.isEmpty:=by cases r<;>simp
def i9:(sizeLine:Nat)<2^63:=by rw[Od];decide
def GC:Mx X (λx H Q=>∃k,GB X.K x H k/\Q k H):=by
 intro aa s σ H x v Q I rx h;obtain⟨k,e,q⟩:=h;have hl:=i9;have hs:sizeLine=16777216:=Od;cases x with
 |fU=>cases rx;have e':k=false:=e;subst e';exact truthy_none ⟨H,I,q⟩
 |bl b=>cases rx;have e':k=b:=e;subst e';exact OX ⟨H,I,q⟩
 |int i=>obtain⟨t,rfl⟩:=rx;have e':k=(i != 0):=e;subst e';exact PySem.P.truthy_int ⟨H,I,q⟩
 |str y=>obtain⟨t,rfl⟩:=rx;obtain⟨hy,e'⟩ : y.length<=sizeLine/\k=((y.length:Int) != 0):=e;subst e';exact PySem.P.truthy_str (by lia) ⟨H,I.tok _,q⟩
 |LQ y=>obtain⟨t,rfl⟩:=rx;obtain⟨hy,e'⟩ : y.size<=sizeLine/\k=((y.size:Int) != 0):=e;subst e';exact PySem.W.truthy_bytes (by lia) ⟨H,I.tok _,q⟩
 |ref p=>
  cases rx;have e':(∃xs,SqL X.K H p xs/\k=!xs.isEmpty)\/(∃xs,SqT X.K H p xs/\k=!xs.isEmpty)\/∃kvs,H p=some (.dK kvs)/\k=!kvs.isEmpty:=e;rcases e' with⟨xs,hx,e'⟩|⟨xs,hx,e'⟩|⟨kvs,hx,e'⟩
  .subst e';obtain⟨its,r,pl,hz⟩:=I.list hx;have bN:=r.length;exact wpAny_truthy_list pl.isList (by simp only[cQ];lia) ⟨H,I.tok _,by rw[mO r];exact q⟩
  .subst e';obtain⟨its,r,pl,hz⟩:=I.tuple hx;have bN:=r.length;exact truthy_tuple pl (by simp only[cQ];lia) ⟨H,I.tok _,by rw[mO r];exact q⟩
  .subst e';obtain⟨hz,hS,vs,r,m⟩ : kvs.length<=sizeLine/\(p==sysModules)=false/\∃vs,KV kvs vs/\s.heap.DictOf (aq X.prog X.w) p vs:=I.aG p _ hx;have bN:kvs.length=vs.length:=Pw r;exact wpAny_truthy_dict hS m (by lia) ⟨H,I.tok _,by rw[uO r];exact q⟩
 |_=>exact(show False from e).elim
def zX(ha:PE X a ta)(he:∀whole,isTrue a X.env whole=(do let v <- whole;standAt a.pos;holding [v] (truthy v))) :
 PT X a (λσ H Q=>ta σ H λx H'=>∃k,GB X.K x H' k/\Q k H'):=by
 intro aa s σ H Q I h;exact isTrue_plain (bV (ha aa s σ H _ I h) λv s1 ⟨x,H1,I1,r1,q1⟩=>GC aa s1 σ H1 x v Q I1 r1 q1) (he _)
def uP:OpR X (binaryOp .Add) (λx y H Q=>∃i j,x=.str i/\y=.str j/\i.length+j.length<=sizeLine/\Q (.str (i++j)) H):=by intro aa s σ H x y v u Q I rx ry h;obtain⟨i,j,rfl,rfl,hz,q⟩:=h;obtain⟨t,rfl⟩:=rx;obtain⟨t',rfl⟩:=ry;exact add_str (λt' tk=>⟨.str (i++j),H,I.tok _,⟨_,rfl⟩,q⟩) hz
def eJ(r:Vals [x] us):∃u,us=[u]/\RelV x u:=by
 cases r with
 |cons r1 r2=>cases r2;exact⟨_,rfl,r1⟩
def Fc(r:Vals [x,y] us):∃u w',us=[u,w']/\RelV x u/\RelV y w':=by
 cases r with
 |cons r1 r2=>
  cases r2 with
  |cons r3 r4=>cases r4;exact⟨_,_,rfl,r1,r3⟩
end
structure Jg(h:Heap) (x dx C:Addr) (mA:Str->Option Rz):Prop where
 obj:h.get? x=some (PySem.W.instObj C dx)
 ns:h.Ns1 dx mA
 ne:dx≠x
def yj{h:Heap}{mA:Str->Option Rz}(n:h.Ns1 dx mA):∃od,h.get? dx=some od/\∀name,PySem.W.lookIn name od=some (mA name):=by
 obtain⟨o,es,ep,ho,hd,hk,_,hm⟩:=n;refine⟨o,ho,λname=>?_⟩;have e:=hm name;unfold nsFind findBy at e;rw[<- Array.find?_toList]at e;unfold PySem.W.lookIn;rw[hd];dsimp only;split
 .rename_i y q;rw[q]at e;exact N7 some e
 .rename_i q;rw[q]at e;have a:es.toList.any (·.refKey)=false:=by rw[List.any_eq_false];intro y hy;obtain⟨z,t,l9⟩:=hk y (Array.mem_toList_iff.mp hy);simp[DictEntry.refKey,l9]
  have a':¬es.toList.any (·.refKey)=true:=by rw[a];exact Pe
  rw[cO a'];exact N7 some e
def Jg.look(I:Jg h x dx C mA):∃od,PySem.W.InstAt h x (PySem.W.instObj C dx) C (some od)/\∀name,PySem.W.lookIn name od=some (mA name):=
 let ⟨od,ho,hl⟩:=yj I.ns
 ⟨od,⟨I.obj,rfl,rfl,ho⟩,hl⟩
def RelO.some_of(r:RelO (some v) o):∃u,o=some u/\RelV v u:=by
 cases o with
 |none=>exact(show False from r).elim
 |some u=>exact⟨u,rfl,r⟩
section
def C0(aG:HOk P w H h)(e:H a=some (.ins C dx fs)):∃mA,Jg h a dx C mA/\(∀f,RelO (fs.lookup f) (mA f))/\PySem.Within mA (fs.map (·.1))/\fs.length<=1000/\H dx=some (.own a):=by obtain⟨d,z,ne,ob,mA,n,r,q⟩:=(show ObjOk P w H h a (.ins C dx fs)from aG a _ e);exact⟨mA,⟨ob,n,ne⟩,r,q,z,d⟩
end
structure Nr(K:Rx) (C:Addr):Prop where
 pg:PySem.W.plainGet K C Str.empty=true
 hd:PySem.W.hasDictIn K C=true
 po:PySem.W.plainOver K C=true
 sa:PySem.W.findIn K (.ref C) "__setattr__"=some (some (.builtin "object.__setattr__"))
def Nr.get{K:Rx}(c:Nr K C)(f:Str):PySem.W.plainGet K C f=true:=c.pg
section
inductive kX(K:Rx) (H:Hp):V->Rz->Prop where
 |fU:kX K H .fU (.type "NoneType")
 |bl (x:Bool):kX K H (.bl x) (.type "bool")
 |int (i:Int):kX K H (.int i) (.type "int")
 |str (x:Str):kX K H (.str x) (.type "str")
 |Jr (x:UInt64):kX K H (.Jr x) (.type "float")
 |lst {a:Addr} {xs:List V} (e:H a=some (.lst xs)):kX K H (.ref a) (.type "list")
 |az {a:Addr} {o:Obj} {xs:List V} (e:H a=some (.az o (.lst xs))):kX K H (.ref a) (.type "list")
 |tup {a:Addr} {xs:List V} (e:H a=some (.tup xs)):kX K H (.ref a) (.type "tuple")
 |dK {a:Addr} {kvs:List (bu×V)} (e:H a=some (.dK kvs)):kX K H (.ref a) (.type "dict")
 |dT {a:Addr} {kvs:List (List bu×V)} (e:H a=some (.dT kvs)):kX K H (.ref a) (.type "dict")
 |ins {a C dx:Addr} {fs:List (Str×V)} (e:H a=some (.ins C dx fs)) (cl:Nr K C) (ha:PySem.W.findIn K (.ref C) "__class__"=some (some (.builtin "object.__class__")))
  (hn:PySem.W.specialIn K (.builtin "object.__class__") "__get__"=some (some (.builtin "getset_descriptor.__get__"))) (htk:PySem.W.takesIn K (.builtin "object.__class__")=some true)
  (hm:PySem.W.mroIn K C (.type "object")=some true):kX K H (.ref a) (.ref C)
def ym(I:Inv X aa σ H s)(rx:RelV x u)(ty:kX X.K H x t)(e:PySem.W.kitOne X.K t c=some b)(h:∀tk,Q (.bool b) {s with toks:=tk}) :
 wpAny (model X.prog X.w) A (call (.builtin "isinstance") [u,c]) Q E s:=by
 cases ty with
 |fU=>cases(show u=Value.none from rx);exact OJ PySem.W.kitx_none I.rT True.intro e (λz=>nomatch z) h
 |bl y=>cases(show u=Value.bool y from rx);exact OJ PySem.W.kitx_bool I.rT True.intro e (λz=>nomatch z) h
 |int i=>obtain⟨t,q⟩:=(show ∃t,u=Value.int i t from rx);cases q;exact OJ PySem.W.kitx_int I.rT True.intro e (λz=>nomatch z) h
 |str y=>obtain⟨t,q⟩:=(show ∃t,u=Value.str y t from rx);cases q;exact OJ PySem.W.kitx_str I.rT True.intro e (λz=>nomatch z) h
 |Jr y=>obtain⟨t,q⟩:=(show ∃t,u=Value.float y t from rx);cases q;exact OJ PySem.W.kitx_float I.rT True.intro e (λz=>nomatch z) h
 |@lst a xs ea=>cases(show u=Value.ref a from rx);obtain⟨_,_,n,_,h1⟩:=(show ObjOk X.prog X.w H s.heap a (.lst xs)from I.aG a _ ea);exact OJ PySem.W.kitx_list I.rT ⟨_,h1,rfl⟩ e (λz=>nomatch z) h
 |@az a ob xs ea=>cases(show u=Value.ref a from rx);obtain⟨_,_,_,n,_,h1⟩:=(show ObjOk X.prog X.w H s.heap a (.az ob (.lst xs))from I.aG a _ ea);exact OJ PySem.W.kitx_list I.rT ⟨_,h1,rfl⟩ e (λz=>nomatch z) h
 |@tup a xs ea=>cases(show u=Value.ref a from rx);obtain⟨_,_,_,p⟩:=(show ObjOk X.prog X.w H s.heap a (.tup xs)from I.aG a _ ea);obtain⟨o,h1,h2,_⟩:=p;exact OJ PySem.W.kitx_tuple I.rT ⟨o,h1,h2⟩ e (λz=>nomatch z) h
 |@dK a kvs ea=>cases(show u=Value.ref a from rx);obtain⟨_,_,vs,_,p⟩:=(show ObjOk X.prog X.w H s.heap a (.dK kvs)from I.aG a _ ea);obtain⟨o,es,ep,h1,h2,_⟩:=p;exact OJ Rj I.rT ⟨o,h1,h2.1⟩ e (λz=>nomatch z) h
 |@dT a kvs ea=>cases(show u=Value.ref a from rx);obtain⟨_,_,xs,_,o,es,ep,h1,h2,_⟩:=(show ObjOk X.prog X.w H s.heap a (.dT kvs)from I.aG a _ ea);exact OJ Rj I.rT ⟨o,h1,h2.1⟩ e (λz=>nomatch z) h
 |@ins a C dx fs ea cl ha hn htk hm=>cases(show u=Value.ref a from rx);obtain⟨mA,O,_⟩:=C0 I.aG ea;obtain⟨od,J,_⟩:=O.look;exact OJ (PySem.W.kitx_own (cl.get _) cl.hd ha hn htk hm) I.rT J e (λz=>nomatch z) h
end
structure gC(k:Nat) (A:RA):Prop where
 hd:A.handled=none
 dp:A.depth+3*k+5<recursionLimit
 un:A.units+16*k+200<cLine
def gC.mono(r:gC k A)(h:j<=k):gC j A:=⟨r.hd,by have:=r.dp;lia,by have:=r.un;lia⟩
theorem gC.deeper(r:gC (k+1) A)(env:Env):gC k (A.deeper env):=⟨r.hd,by have:=r.dp;show A.depth+1+3*k+5<_;lia,by have:=r.un;show A.units+3+16*k+200<_;lia⟩
theorem gC.depth(r:gC k A):A.depth<recursionLimit:=by have:=r.dp;lia
theorem gC.units(r:gC k A):A.units+64<cLine:=by have:=r.un;lia
noncomputable def kc:TA:=λ_ H Q=>Q [] H
noncomputable def cE(ta:TE)(tr:TA):TA:=λσ H Q=>ta σ H λx H1=>tr σ H1 λxs H2=>Q (x::xs) H2
section
def bR:PA X [] kc:=λ_ _ _ _ H Q I h=>Calls.spliced_nil ⟨[],H,I,.nil,h⟩
def aI(ha:PE X e te)(hr:PA X es t)(hs:autoParam (starEach (e::es) X.env=(false,eval e X.env)::starEach es X.env) RJ):PA X (e::es) (cE te t):=by intro pos aa s σ H Q I h;rw[hs];show wpAny _ _ (spliced ((false,eval e X.env)::backTo pos (starEach es X.env))) _ _ s;refine Calls.spliced_cons (bV (ha aa s σ H _ I h) λu s1 ⟨x,H1,I1,r1,q1⟩=>?_);exact bV (hr pos aa s1 σ H1 _ I1 q1) λus s2 ⟨xs,H2,I2,r2,q2⟩=>⟨x::xs,H2,I2,.cons r1 r2,q2⟩
def zY(t:TA):TE:=λσ H Q=>t σ H λxs H1=>xs.length<=sizeLine/\∀p,H1 p=none->Q (.ref p) (aC H1 p (.tup xs))
def JR(t:TA):TE:=λσ H Q=>t σ H λxs H1=>xs.length<=sizeLine/\∀p,H1 p=none->Q (.ref p) (aC H1 p (.lst xs))
def qg{x1}(h:PA X es t):PE X (.Tuple es x1 pos) (zY t):=by intro aa s σ H Q I hq;refine wpAny_Tuple_spliced (bV (h pos aa s σ H _ I hq) λus s1 ⟨xs,H1,I1,r,z,q⟩=>⟨by rw[<- r.length];exact z,?_⟩);have hf:H1 s1.heap.objs.size=none:=I1.aG.fresh (cN _);refine⟨.ref s1.heap.objs.size,aC H1 s1.heap.objs.size (.tup xs),I1.laid (t':=s1.toks) (λb u e=>cj _ e) (cN _) ?_,rfl,q _ hf⟩;exact⟨z,us,r,⟨_,jY _ rfl,rfl,_,rfl⟩⟩
def zZ(h:PA X es t):PE X (.List es pos) (JR t):=by intro aa s σ H Q I hq;refine wpAny_List_spliced (bV (h pos aa s σ H _ I hq) λus s1 ⟨xs,H1,I1,r,z,q⟩=>⟨by rw[<- r.length];exact z,?_⟩);have hf:H1 s1.heap.objs.size=none:=I1.aG.fresh (cN _);refine⟨.ref s1.heap.objs.size,aC H1 s1.heap.objs.size (.lst xs),I1.laid (t':=s1.toks) (λb u e=>cj _ e) (cN _) ?_,rfl,q _ hf⟩;exact⟨z,us,0,r,jY _ rfl⟩
end
abbrev Sp:=List V->Hp->VK->XK->Prop
abbrev CH:=List Env->Hp->Rv->XK->Rz->Rv->Prop
structure Fa(P:Ry) (w:World) (K:Rx) (mg:Str->Option Rz) (base:Heap) (A:RA) (outer:List Env) (s:Rv) (H:Hp):Prop where
 frames:A.frames=some outer
 mod:Mod K mg base
 bs:∀b o,base.get? b=some o->s.heap.get? b=some o/\H b=none
 E8:base.objs.size<=s.heap.objs.size
 me:s.heap.FunFrames base outer
 Jk:∀b∈zL outer,H b=none
 aG:HOk P w H s.heap
 bare:AllBare s.gens
 kt:Mm K H
def CE(outer:List Env)(P:Ry)(w:World)(H:Hp)(s:Rv)(Q:VK)(u:Rz)(s':Rv):Prop:=∃v H',s'.os=s.os/\AllBare s'.gens/\Un (zL outer) [] H H' s.heap s'.heap/\HOk P w H' s'.heap/\RelV v u/\Q v H'
def CR(CX:CH)(outer:List Env)(P:Ry)(w:World)(H:Hp)(s:Rv)(Q:VK)(E:XK)(r:Result)(s':Rv):Prop:=
 match r with
 |.ok (.ret u)=>CE outer P w H s Q u s'
 |.ok _=>False
 |.error e=>CX outer H s E e s'
structure cS(P:Ry) (w:World) (K:Rx) (mg:Str->Option Rz) (base:Heap) (CX:CH) (k:Nat) (f:Addr) (fd:FuncData) (ps:List Str) (sp:Sp):Prop where
 len:∀vs H Q E,sp vs H Q E->vs.length=ps.length
 run:∀(A:RA)(outer:List Env)(s:Rv)(H:Hp)(args:Args)(us:List Rz)(vs:List V)(Q:VK)(E:XK),gC k A->Fa P w K mg base A outer s H->BindsTo s fd args (ps.zip us)->Vals vs us->sp vs H Q E->
  codeAny (model P w) A (.call (.ref f) args) (CR CX outer P w H s Q E) s
def cS.imp{P:Ry}{w:World}{K:Rx}{mg:Str->Option Rz}{base:Heap}{CX:CH}(F:cS P w K mg base CX k f fd ps sp)
 (h:∀vs H Q E,sp' vs H Q E->sp vs H Q E):cS P w K mg base CX k f fd ps sp':=
 ⟨λvs H Q E q=>F.len vs H Q E (h _ _ _ _ q),λA outer s H args us vs Q E hr he hb hv hs=>F.run A outer s H args us vs Q E hr he hb hv (h _ _ _ _ hs)⟩
section
def Inv.Nq(I:Inv X aa σ H s):Fa X.prog X.w X.K X.mg X.base X.A X.stack s H:=⟨I.ok.frames,I.ok.mod,I.bs,lN I.ok.E8 I.sz,I.stack,I.yd,I.aG,I.bare,I.kt⟩
def Inv.after(I:Inv X aa σ H s)(h:CE X.stack X.prog X.w H s Q u s'):EP X aa σ Q u s':=by obtain⟨v,H',os,bare,un,aG,r,q⟩:=h;obtain⟨hh,g,d,t,os'⟩:=s';obtain rfl:os'=s.os:=os;exact⟨v,H',I.call (h':=hh) (g':=g) (d':=d) (t':=t) (ch:=[]) un aG bare (λb z=>absurd z (by simp)),r,q⟩
end
noncomputable def z4(sp:Sp)(dvs:List V)(E:XK)(t:TA):TE:=λσ H Q=>t σ H λvs H1=>sp (vs++dvs) H1 Q E
def Binds(K:Rx)(fd:FuncData)(ps:List Str)(ds:List Rz):Prop:=∀(s:Rv)(us:List Rz),K.In s.heap->(us++ds).length=ps.length->BindsTo s fd ⟨us,[]⟩ (ps.zip (us++ds))
def Binds.all{K:Rx}(h:∀us:List Rz,us.length=ps.length->bindArgs fd ⟨us,[]⟩=pure (ps.zip us)):Binds K fd ps []:=λs us _ hl=>by rw[Oo]at hl ⊢;exact .of_eq (h us hl)
def ke(CX:CH)(X:Cx)(E:XK):Prop:=∀(aa:List (Addr×Obj))(σ:St)(H:Hp)(s:Rv)(e:Rz)(s':Rv),Inv X aa σ H s->CX X.stack H s E e s'->X.xe e s'
section
def GD(F:cS X.prog X.w X.K X.mg X.base CX k f fd ps sp)(hr:gC k X.A)(hb:Binds X.K fd ps ds)(hd:Vals dvs ds)(hx:ke CX X E)
 (I:Inv X aa σ H s) (r:Vals vs us) (h:sp (vs++dvs) H Q E):wX X (call (.ref f) us) (EP X aa σ Q) X.xe s:=by
 have r2:Vals (vs++dvs) (us++ds):=r.append hd;have hl:(us++ds).length=ps.length:=by rw[<- r2.length];exact F.len _ _ _ _ h
 refine wpAny_call (Q6 (F.run X.A X.stack s H ⟨us,[]⟩ (us++ds) (vs++dvs) Q E hr I.Nq (hb s us I.rT hl) r2 h) λr s' hq=>?_);cases r with
 |error e=>exact hx aa σ H s e s' I hq
 |ok fl=>
  cases fl with
  |ret u=>exact I.after hq
  |next=>exact False.elim hq
  |brk=>exact False.elim hq
  |cont=>exact False.elim hq
def wg(F:cS X.prog X.w X.K X.mg X.base CX k f fd ps sp)(hr:gC k X.A)(hg:Gl X x)(hm:X.mg x=some (.ref f))(hk:keepIn X.K (.ref f)=true)(hb:Binds X.K fd ps ds)(hd:Vals dvs ds)(hx:ke CX X E)
 (ha:PA X (e::es) t) (hdb:autoParam (dB x) ab) (he:autoParam (sE X e es) RJ) (hpl:autoParam (bT X pos es) RJ) :
 PE X (.Call (.Name x p) (e::es) [] pos) (z4 sp dvs E t):=by
 intro aa s σ H Q I h;refine wpAny_Call_Name_kw (CQ I hg hm ?_ hdb);refine PySem.W.callWith_K (h₀:=X.base) I.ok.mod.kH hk (bV (ha pos aa s σ H _ I h) λus s1 ⟨vs,H1,I1,r,q⟩=>⟨I1.rT,?_⟩) he hpl;exact GD F hr hb hd hx I1 r q
end
structure bt(N P:List Str) (sc:Scope):Prop where
 kind:sc.kind=.function
 co:sc.isCoroutine=false
 gen:sc.isGenerator=false
 nd:N.Nodup
 pre:N.take P.length=P
 par:∀x∈P,sc.names.lookup x=some .local\/sc.names.lookup x=some .cell
 Jl:∀y∈sc.names,y.2≠.free
theorem oU{kindOf:Str->Option NameKind}:∀{binds:List (Str×Rz)}{m:Str->Option Rz},(∀v,(x,v)∉binds)->bindL kindOf binds m x=m x
 |[],_,_=>rfl
 |(n,v)::r,m,h=>by
  unfold bindL;rw[oU λw hw=>h w (CF _ hw)];split
  .have:x≠n:=by rintro rfl;exact h v uB
   simp[this]
  .rfl
theorem oV{kindOf:Str->Option NameKind}:∀{binds:List (Str×Rz)}{m:Str->Option Rz},(∀v,(x,v)∉binds)->bindC kindOf binds m x=m x
 |[],_,_=>rfl
 |(n,v)::r,m,h=>by
  unfold bindC;rw[oV λw hw=>h w (CF _ hw)];split
  .rfl
  .have:x≠n:=by rintro rfl;exact h v uB
   simp[this]
theorem oW{kindOf:Str->Option NameKind}:∀{P:List Str}{vs:List Rz}{i:Nat}{m:Str->Option Rz},P.Nodup->P[i]?=some x->vs[i]?=some v->kindOf x=some .local->
 bindL kindOf (P.zip vs) m x=some v
 |[],_,_,_,_,h,_,_=>by simp at h
 |_::_,[],_,_,_,_,h,_=>by simp at h
 |p::P,w::vs,0,m,nd,h1,h2,hk=>by simp at h1 h2;subst h1;subst h2;show bindL kindOf ((p,w)::P.zip vs) m p=_;unfold bindL;rw[oU λv hv=>(Qk.mp nd).1 (List.of_mem_zip hv).1,ck hk];simp
 |p::P,w::vs,i+1,m,nd,h1,h2,hk=>by show bindL kindOf ((p,w)::P.zip vs) m x=_;unfold bindL;exact oW (i:=i) (Qk.mp nd).2 (by simpa using h1) (by simpa using h2) hk
theorem oX{kindOf:Str->Option NameKind}:∀{P:List Str}{vs:List Rz}{i:Nat}{m:Str->Option Rz},P.Nodup->P[i]?=some x->vs[i]?=some v->kindOf x≠some .local->
 bindC kindOf (P.zip vs) m x=some v
 |[],_,_,_,_,h,_,_=>by simp at h
 |_::_,[],_,_,_,_,h,_=>by simp at h
 |p::P,w::vs,0,m,nd,h1,h2,hk=>by simp at h1 h2;subst h1;subst h2;show bindC kindOf ((p,w)::P.zip vs) m p=_;unfold bindC;rw[oV λv hv=>(Qk.mp nd).1 (List.of_mem_zip hv).1,cO hk];simp
 |p::P,w::vs,i+1,m,nd,h1,h2,hk=>by show bindC kindOf ((p,w)::P.zip vs) m x=_;unfold bindC;exact oX (i:=i) (Qk.mp nd).2 (by simpa using h1) (by simpa using h2) hk
noncomputable def fZ(N:List Str)(vs:List V):St:=vs.map some++List.replicate (N.length-vs.length) none
noncomputable def uQ(CX:CH)(P:Ry)(w:World)(K:Rx)(mg:Str->Option Rz)(base:Heap)(N:List Str)(qual:Str)(scope:Scope)(f:Addr)(cd:Rz)(A:RA)(outer:List Env)(s:Rv)(H:Hp)(E:XK):Cx where
 prog:=P
 w:=w
 K:=K
 mg:=mg
 base:=base
 A:=A.deeper (envOfC qual scope s.heap.objs.size f cd)
 N:=N
 s₀:=s
 H₀:=H
 env:=envOfC qual scope s.heap.objs.size f cd
 outer:=outer
 stack:=envOfC qual scope s.heap.objs.size f cd::outer
 ex:=[]
 calm:=true
 fn:=λ_=>true
 pn:=[]
 xe:=λe s'=>wpAny (model P w) (A.deeper (envOfC qual scope s.heap.objs.size f cd)) (leaving (envOfC qual scope s.heap.objs.size f cd) e) (λ_ s''=>CX outer H s E e s'') (λe' s''=>CX outer H s E e' s'') s'
def sj{sc:Scope}(h:sc.names.lookup x=some .cell):∃c,(cellsFrom n sc.names []).lookup x=some c:=by have q:=PySem.W.cellsFrom_some sc.names n [] (.inl h);exact Option.isSome_iff_exists.mp q
def yn{CX:CH}{P:Ry}{w:World}{K:Rx}{mg:Str->Option Rz}{base:Heap}{N ps:List Str}{qual:Str}{scope:Scope}
 (S:bt N ps scope) (hd:A.handled=none) (e0:Fa P w K mg base A outer s H) (hl:vs.length=ps.length) (r:Vals vs us)
 (x:InCallC s s.heap.objs.size (bindL (envOfC qual scope s.heap.objs.size f cd).kindOf (ps.zip us) λ_=>none) (cellsFrom (s.heap.objs.size+1) scope.names []) (bindC (envOfC qual scope s.heap.objs.size f cd).kindOf (ps.zip us) λ_=>none) s1) :
 Inv (uQ CX P w K mg base N qual scope f cd A outer s H E) [] (fZ N vs) H s1:=by
 have hpl:ps.length<=N.length:=by have:=N7 List.length S.pre;rw[N5]at this;lia
 obtain⟨h1,tk,rfl,hk⟩:=x.done;have noA:∀b:Addr,b∉(uQ CX P w K mg base N qual scope f cd A outer s H E).ex:=λb z=>absurd (show b∈([]:List Addr)from z) (by simp);refine⟨⟨e0.mod,S.kind,rfl,rfl,cN _,λy z c h1 h2=>?_,λy hy=>?_,λy c _ h=>?_,λ_=>hd,Around.frames_deeper e0.frames,.inr ⟨rfl,rfl⟩,λb z=>absurd z (noA b),e0.bs,e0.E8,λb _ _=>noA b,λb z=>absurd z (noA b),e0.me,e0.Jk,e0.kt⟩,
  rfl,e0.bare,Un.kept hk,⟨_,x.toInCall.ns,λi y v h1 h2 h3=>?_⟩,λy c h=>⟨_,x.cell y c h⟩,e0.aG.fresh (cN _),λy c h=>?_,λp hp=>absurd (show p∈([]:List (Addr×Obj))from hp) (by simp),e0.aG.kept hk,?_⟩
 .exact name_of_addr x.apart (OY h1) (OY h2)
 .have hy:scope.names.lookup y=some .cell\/scope.names.lookup y=some .free:=hy;rcases hy with hy|hy
  .exact sj hy
  .exact absurd rfl (S.Jl _ (OY hy))
 .exact Ou (x.above y c (OY h))
 .have hi:i<vs.length:=by
   grind [fZ]
  have ha:vs[i]?=some v:=by grind [fZ]
  obtain⟨u,hu,rv⟩:=r.get ha;have hp:ps[i]?=some y:=by rw[<- S.pre,List.getElem?_take_of_lt (by lia)];exact h1
  have ndP:ps.Nodup:=by rw[<- S.pre];exact S.nd.sublist (OZ _ _)
  refine⟨u,rv,?_⟩;rcases S.par y (OD hp)with k|k
  .exact .inl ⟨k,oW ndP hp hu k⟩
  .obtain⟨c,e⟩:=sj (n:=s.heap.objs.size+1) k;refine .inr ⟨.inl k,c,e,?_⟩;have q:=x.cell y c e;rw[oX ndP hp hu (by show scope.names.lookup y≠_;rw[k];decide)]at q;exact q
 .exact e0.aG.fresh (Ou (x.above y c (OY h)))
 .unfold fZ;show _=N.length;rw[KE,cM,QJ];lia
def JS{CX:CH}{P:Ry}{w:World}{K:Rx}{mg:Str->Option Rz}{base:Heap}{k:Nat}{f:Addr}{name qual:Str}{params:Arguments}{body:List Stmt}{scope:Scope}{dV kV doc pm cdv ct oc:Rz}{an od:Option Addr}
 {osl:Array (Option Rz)} {N ps:List Str} {sp:Sp} (lk:K.lookup f=some ⟨oc,od,.func (fnOf name qual params body scope dV kV doc pm an cdv ct),osl⟩) (hcd:codeIn K cdv qual=true) (S:bt N ps scope)
 (len:∀vs H Q E,sp vs H Q E->vs.length=ps.length)
 (hbody:∀(A:RA)(outer:List Env)(s:Rv)(H:Hp)(vs:List V)(Q:VK)(E:XK),gC k (A.deeper (envOfC qual scope s.heap.objs.size f cdv))->sp vs H Q E->
   ∃t,PSs (uQ CX P w K mg base N qual scope f cdv A outer s H E) body t/\t {nx:=λ_ H'=>Q .fU H',rt:=Q} (fZ N vs) H) :
 cS P w K mg base CX (k+1) f (fnOf name qual params body scope dV kV doc pm an cdv ct) ps sp:=by
 refine⟨len,λA outer s H args us vs Q E hr e0 hb r hsp=>?_⟩;have hl:=len _ _ _ _ hsp;have KX:K.In s.heap:=e0.mod.kH.keeps λb o e=>(e0.bs b o e).1;have lim:s.heap.NoLimit:=e0.mod.nolimit.keeps λb o e=>(e0.bs b o e).1;have hkind:∀y∈ps.zip us,scope.names.lookup y.1=some .local\/(scope.names.lookup y.1=some .cell/\((cellsFrom (s.heap.objs.size+1) scope.names []).lookup y.1).isSome=true):=λ⟨n,v⟩ hy=>by
  rcases S.par n (List.of_mem_zip hy).1 with q|q
  .exact .inl q
  .exact .inr ⟨q,PySem.W.cellsFrom_some _ _ _ (.inl q)⟩
 refine codeAny_call_function hr.depth (KX _ _ lk) rfl S.co S.gen rfl (PySem.W.codeRec_of KX hcd) (hb _ _ _ _ ?_);refine wpAny_newFunctionEnv_cells S.kind hkind λenv he s1 x=>?_;subst he;refine⟨lim.keeps x.toInCall.keep,codeAny_func ?_⟩;obtain⟨t,ht,hq⟩:=hbody A outer s H vs Q E (hr.deeper _) hsp;have I:Inv (uQ CX P w K mg base N qual scope f cdv A outer s H E) [] (fZ N vs) H s1:=yn S hr.hd e0 hl r x;refine OT (ht [] s1 (fZ N vs) H _ I hq) (λfl s' hs=>?_) λe s' hs=>hs;have fin:∀{σ':St}{H':Hp}{v:V}{u:Rz},Inv (uQ CX P w K mg base N qual scope f cdv A outer s H E) [] σ' H' s'->RelV v u->Q v H'->CE outer P w H s Q u s':=λ{σ' H' v u} J rv q=>⟨v,H',J.os,J.bare,J.base,J.aG,rv,q⟩;cases fl with
 |ret u=>obtain⟨v,σ',H',J,rv,q⟩:=hs;exact fin J rv q
 |next=>obtain⟨σ',H',J,q⟩:=hs;exact fin (v:=V.fU) (u:=Value.none) J rfl q
 |brk=>obtain⟨_,_,_,q⟩:=hs;exact False.elim q
 |cont=>obtain⟨_,_,_,q⟩:=hs;exact False.elim q
section
variable{X:Cx}{x:Str}{p pos:Pos}{e:Expr}{es:List Expr}{t:TA}{id T:String}{r:List V->Hp->VK->Prop}
noncomputable def LX(r:List V->Hp->VK->Prop)(t:TA):TE:=λσ H Q=>t σ H λvs H1=>r vs H1 Q
def f6(hc:CallR X (.builtin id) r) (hg:Gl X x) (hm:X.mg x=none) (hv:bootBuiltins x=some (.builtin id)) (ha:PA X (e::es) t) (hn:autoParam (x≠"__name__") ab) (hdb:autoParam (dB x) ab)
 (he:autoParam (starEach (e::es) X.env=(false,eval e X.env)::starEach es X.env) RJ) (hpl:autoParam (bT X pos es) RJ):PE X (.Call (.Name x p) (e::es) [] pos) (LX r t):=by
 intro aa s σ H Q I h;refine wpAny_Call_Name_kw (mK I hg hm hv ?_ hn hdb);exact PyProof.Rows.callWith_builtin1 (bV (ha pos aa s σ H _ I h) λus s1 ⟨vs,H1,I1,r1,q1⟩=>hc aa s1 σ H1 vs us Q I1 r1 q1) he hpl
def kf(hc:CallR X (.type T) r) (hg:Gl X x) (hm:X.mg x=none) (hv:bootBuiltins x=some (.type T)) (ha:PA X (e::es) t) (hn:autoParam (x≠"__name__") ab) (hdb:autoParam (dB x) ab)
 (he:autoParam (starEach (e::es) X.env=(false,eval e X.env)::starEach es X.env) RJ) (hpl:autoParam (bT X pos es) RJ):PE X (.Call (.Name x p) (e::es) [] pos) (LX r t):=by
 intro aa s σ H Q I h;refine wpAny_Call_Name_kw (mK I hg hm hv ?_ hn hdb);exact PX (bV (ha pos aa s σ H _ I h) λus s1 ⟨vs,H1,I1,r1,q1⟩=>hc aa s1 σ H1 vs us Q I1 r1 q1) he hpl
end
end L2
namespace HT
open PySem PyProof.Rows
section
def cat_tup(ht:IsTup s.heap t vs.toArray)(hb:IsTup s.heap b ws.toArray)(hv:vs≠[])
 (h1:ws=[]->Q (.ref t) s) (h2:ws≠[]->Q (.ref s.heap.objs.size) { s with heap:=s.heap.push { cls:=.type "tuple",data:=.seq (vs++ws).toArray } })
 (hsz:vs.length+ws.length<=sizeLine):wpAny (model prog w) A (binaryOp .Add (.ref t) (.ref b)) Q E s:=by
 obtain⟨⟨cls,dd,data,sl⟩,ho,hc,n,hd⟩:=id ht;obtain⟨⟨cls2,dd2,data2,sl2⟩,ho2,hc2,n2,hd2⟩:=id hb;simp only at hc hd hc2 hd2;subst hc hd hc2 hd2;have e:vs.toArray++ws.toArray=(vs++ws).toArray:=by simp
 by_cases hw:ws=[]
 .exact concat_meets ⟨_,ho,rfl⟩ ⟨_,ho2,rfl⟩ noFill_tuple_add seq_tuple_add Qw Ql (Qh _ _)
   (tuple_addW1 t b vs.toArray ws.toArray n n2 dd dd2 sl sl2 (by simpa using hv) (by simp[hw])) ⟨ho,ho2,h1 hw⟩
 .refine concat_meets ⟨_,ho,rfl⟩ ⟨_,ho2,rfl⟩ noFill_tuple_add seq_tuple_add Qw Ql (Qh _ _)
   (tuple_addW2 t b vs.toArray ws.toArray n n2 dd dd2 sl sl2 (by simpa using hv) (by simpa using hw) (by rw[cQ,cQ];exact hsz)) ⟨ho,ho2,?_⟩
  rw[e];exact h2 hw
noncomputable def sIx(n d:Nat):Option Int->Nat
 |none=>d
 |some v=>if v<0 then(v+(n:Int)).toNat else min v.toNat n
def sIx_nat(n d k:Nat):sIx n d (some (k:Int))=min k n:=by show(if(k:Int)<0 then((k:Int)+(n:Int)).toNat else min (k:Int).toNat n)=min k n;rw[cO (by lia),P3]
def GE(n d:Nat)(hd:d<=n)(o:Option Int):sIx n d o<=n:=by
 cases o with
 |none=>exact hd
 |some v=>
  show(if v<0 then(v+(n:Int)).toNat else min v.toNat n)<=n
  grind
def wj(v:Int)(n d:Nat):(if v<0 then max (v+(n:Int)) 0 else min v (n:Int))=((sIx n d (some v):Nat):Int):=by
 show(if v<0 then max (v+(n:Int)) 0 else min v (n:Int))=(((if v<0 then(v+(n:Int)).toNat else min v.toNat n):Nat):Int)
 grind
def uR(lo hi:Option Int)(n:Nat):Builtin.Slice.sliceAdjust lo hi 1 (n:Int)=(((sIx n 0 lo:Nat):Int),((sIx n n hi:Nat):Int)):=by
 have h1:¬((1:Int)<0):=by lia
 unfold Builtin.Slice.sliceAdjust;simp only[h1,Oh];refine Q7 ?_ ?_
 .cases lo with
  |none=>rfl
  |some v=>exact wj v n 0
 .cases hi with
  |none=>rfl
  |some v=>exact wj v n n
def uS(i j:Nat):Builtin.Slice.slicePlaces (i:Int) (j:Int) 1=j-i:=by
 unfold Builtin.Slice.slicePlaces
 grind
def mP(p:IsPart v o)(h:Q o s):wpAny (model prog w) A (Builtin.Slice.slicePartIndex v) Q E s:=by
 cases p with
 |none=>exact slicePart_none h
 |int i t=>exact slicePart_int h
def sliceApplied_gen{lo hi:Option Int}{n:Nat}{Q:Int×Int×Nat->Rv->Prop}(hs:s.heap.IsSliceOf sl vl vu .none)(pl:IsPart vl lo)(pu:IsPart vu hi)
 (h:Q (((sIx n 0 lo:Nat):Int),1,sIx n n hi-sIx n 0 lo) s):wpAny (model prog w) A (Builtin.Slice.sliceApplied (.ref sl) (pure (n:Int))) Q E s:=by
 obtain⟨os,hos,hcs,hds⟩:=id hs;unfold Builtin.Slice.sliceApplied Builtin.Slice.sliceFields;refine bo (bo (Qz hos hds (x:=vl) rfl (bo (Qz hos hds (x:=vu) rfl (bo (Qz hos hds (x:=.none) rfl (bF ?_)))))));refine bo (slicePart_none ?_);show wpAny _ _ (if((1:Int)==0)=true then _ else _) _ _ s;rw[cO (by decide)];refine bo (mP pl (bo (mP pu (bo (bF ?_)))));show wpAny _ _ (match Builtin.Slice.sliceAdjust lo hi 1 (n:Int)with|(lo,hi)=>pure (lo,(1:Int),Builtin.Slice.slicePlaces lo hi 1)) _ _ s;rw[uR lo hi n];show wpAny _ _ (pure (((sIx n 0 lo:Nat):Int),(1:Int),Builtin.Slice.slicePlaces ((sIx n 0 lo:Nat):Int) ((sIx n n hi:Nat):Int) 1)) _ _ s;rw[uS];exact bF h
def z5(xs:Array Rz)(i k:Nat):((List.range k).filterMap λ(m:Nat)=>xs[((i:Int)+(m:Int)*1).toNat]?).toArray=((xs.toList.drop i).take k).toArray:=by
 have e:(λ(m:Nat)=>xs[((i:Int)+(m:Int)*1).toNat]?)=λm=>xs[i+m]?:=by grind
 rw[e];have:=pick_run xs i k;rw[List.filterMap_map]at this;have e2:((λx=>xs[x]?) ∘ λx=>i+x)=λm=>xs[i+m]?:=rfl;rw[e2]at this;rw[this]
def getItem_tuple_cut{vl vu:Rz}{lo hi:Option Int}{Q:Rz->Rv->Prop}(ht:IsTup s.heap t items)(hs:s.heap.IsSliceOf sl vl vu .none)(pl:IsPart vl lo)(pu:IsPart vu hi)
 (hw:¬(sIx items.size 0 lo=0/\sIx items.size items.size hi=items.size))
 (h:Q (.ref s.heap.objs.size) { s with heap:=s.heap.push { cls:=.type "tuple",data:=.seq ((items.toList.drop (sIx items.size 0 lo)).take (sIx items.size items.size hi-sIx items.size 0 lo)).toArray } })
 (hsz:items.size<=sizeLine):wpAny (model prog w) A (getItem (.ref t) (.ref sl)) Q E s:=by
 have htake:sizeOk (.seq ((items.toList.drop (sIx items.size 0 lo)).take (sIx items.size items.size hi-sIx items.size 0 lo)).toArray):=by
  show((items.toList.drop (sIx items.size 0 lo)).take (sIx items.size items.size hi-sIx items.size 0 lo)).toArray.size<=sizeLine
  grind
 have hj:sIx items.size items.size hi<=items.size:=GE _ _ (cN _) hi;obtain⟨os,hos,hcs,hds⟩:=id hs;have hTs:s.TypeIs (.ref sl) "slice":=⟨os,hos,hcs⟩;unfold getItem
 try with_reducible refine On ?_
 first|refine bo (bF ?_)|skip
 refine bo (wpAny_sequenceKey ht.typeIs (by decide) ?_);refine bo (OM (name:=Str.ofString "__getitem__") ht.typeIs Ox
  (Ow Ox ht.typeIs entry_tuple_getitem ?_ (args_tuple_getitem _ _)))
 show wpAny _ _ (Builtin.Tuple.tupleItemsOf (.ref t) >>= _) _ _ s;refine bo (tupleItemsOf_ ht ?_);refine bo (QK hTs ?_);rw[ck (by decide)];refine bo (sliceApplied_gen hs pl pu ?_);have hno:¬((((sIx items.size 0 lo:Nat):Int)==0&&(1:Int)==1&&(sIx items.size items.size hi-sIx items.size 0 lo)==items.size)=true):=by grind
 show wpAny _ _ (if(((sIx items.size 0 lo:Nat):Int)==0&&(1:Int)==1&&(sIx items.size items.size hi-sIx items.size 0 lo)==items.size)=true then _ else _) _ _ s;rw[cO hno,z5]
 first
  |exact bo (m:=Builtin.Tuple.tupleExact _) (Oy (bF ⟨_,rfl,bF h⟩) htake)
  |exact bo (m:=Builtin.Tuple.tupleExact _) (Oy (bo (bF (bF ⟨_,rfl,bF h⟩))) htake)
  |exact bo (bo (m:=Builtin.Tuple.tupleExact _) (Oy (bF (bF ⟨_,rfl,bF h⟩)) htake))
  |exact bo (bo (m:=Builtin.Tuple.tupleExact _) (Oy (bF ⟨_,rfl,bF h⟩) htake))
end
end HT
namespace L2
open PySem PySem.Spec PyProof.Rows
abbrev TO:=St->Hp->(Option Int->Hp->Prop)->Prop
def PO(X:Cx)(e:Option Expr)(t:TO):Prop:=
 ∀(aa:List (Addr×Obj))(s:Rv)(σ:St)(H:Hp)(Q:Option Int->Hp->Prop),Inv X aa σ H s->t σ H Q->
  wpAny (model X.prog X.w) X.A (evalPart e X.env) (λu s'=>∃o H',Inv X aa σ H' s'/\IsPart u o/\Q o H') X.xe s
noncomputable def wl:TO:=λ_ H Q=>Q none H
noncomputable def Fd(t:TE):TO:=λσ H Q=>t σ H λx H1=>∃i,x=.int i/\Q (some i) H1
section
variable{X:Cx}{e:Expr}{te:TE}{lo hi:Option Expr}{tl th:TO}{pos p2:Pos}
def wm:PO X none wl:=by intro aa s σ H Q I h;rw[evalPart_none];exact bF ⟨none,H,I,.none,h⟩
def wn(h:PE X e te):PO X (some e) (Fd te):=by intro aa s σ H Q I hw;rw[evalPart_some];refine bV (h aa s σ H _ I hw) λu s1 ⟨x,H1,I1,r1,q1⟩=>?_;obtain⟨i,rfl,q⟩:=q1;obtain⟨t,rfl⟩:=r1;exact⟨some i,H1,I1,.int i t,q⟩
def SlR(X:Cx)(r:V->Option Int->Option Int->Hp->VK->Prop):Prop:=
 ∀(aa:List (Addr×Obj))(s:Rv)(σ:St)(H:Hp)(x:V)(v vl vu:Rz)(lo hi:Option Int)(sl:Addr)(Q:VK),Inv X aa σ H s->RelV x v->s.heap.IsSliceOf sl vl vu .none->IsPart vl lo->IsPart vu hi->r x lo hi H Q->
  ∃T id,typeLookup (.type T) "__getitem__"=pure (some (.builtin id))/\s.TypeIs v T/\wpAny (model X.prog X.w) X.A (getItem v (.ref sl)) (EP X aa σ Q) X.xe s
def SlR.or(h:SlR X r)(h':SlR X r'):SlR X (λx lo hi H Q=>r x lo hi H Q\/r' x lo hi H Q):=by
 intro aa s σ H x v vl vu lo hi sl Q I rx hs pl pu q;rcases q with q|q
 .exact h aa s σ H x v vl vu lo hi sl Q I rx hs pl pu q
 .exact h' aa s σ H x v vl vu lo hi sl Q I rx hs pl pu q
noncomputable def Nv(r:V->Option Int->Option Int->Hp->VK->Prop)(te:TE)(tl th:TO):TE:=λσ H Q=>te σ H λx H1=>tl σ H1 λl H2=>th σ H2 λu H3=>r x l u H3 Q
def sk(hr:SlR X r)(he:PE X e te)(hl:PO X lo tl)(hu:PO X hi th):PE X (.Subscript e (.Slice lo hi none p2) pos) (Nv r te tl th):=by intro aa s σ H Q I h;refine Subscript_ (bV (he aa s σ H _ I h) λv s1 ⟨x,H1,I1,r1,q1⟩=>?_);refine wpAny_Slice (bV (hl aa s1 σ H1 _ I1 q1) λvl s2 ⟨l,H2,I2,pl,q2⟩=>bV (hu aa s2 σ H2 _ I2 q2) λvu s3 ⟨u,H3,I3,pu,q3⟩=>?_);rw[evalPart_none];refine bF ?_;have I4:Inv X aa σ H3 { s3 with heap:=s3.heap.push { cls:=.type "slice",data:=.fields #[vl,vu,.none] } }:=I3.kept (t':=s3.toks) λb ob q=>cj _ q;obtain⟨T,id,hT,ht,hg⟩:=hr aa { s3 with heap:=s3.heap.push { cls:=.type "slice",data:=.fields #[vl,vu,.none] } } σ H3 x v vl vu l u s3.heap.objs.size Q I4 r1 (Heap.IsSliceOf.new ..) pl pu q3;show wX X (subscriptTail e (.Slice lo hi none p2) v (.ref s3.heap.objs.size)) (EP X aa σ Q) X.xe { s3 with heap:=s3.heap.push { cls:=.type "slice",data:=.fields #[vl,vu,.none] } };exact tail_any (ops:=[.ref s3.heap.objs.size,v]) ht hT hg (by with_unfolding_all rfl)
def oq(xs:List V)(lo hi:Option Int):List V:=(xs.drop (HT.sIx xs.length 0 lo)).take (HT.sIx xs.length xs.length hi-HT.sIx xs.length 0 lo)
def kY(xs:List V)(lo hi:Option Int):(oq xs lo hi).length<=xs.length:=by unfold oq;rw[N5,Pc];lia
def MB(K:Rx):V->Option Int->Option Int->Hp->VK->Prop:=λx lo hi H Q=>∃a xs,x=.ref a/\SqT K H a xs/\
 ¬(HT.sIx xs.length 0 lo=0/\HT.sIx xs.length xs.length hi=xs.length)/\∀p,H p=none->Q (.ref p) (aC H p (.tup (oq xs lo hi)))
def sl_tup:SlR X (MB X.K):=by
 intro aa s σ H x v vl vu lo hi sl Q I rx hs pl pu h;obtain⟨a,xs,rfl,hx,hw,q⟩:=h;cases rx;obtain⟨its,r,ht,hz⟩:=I.tuple hx;have bN:its.toArray.size=xs.length:=by rw[cQ];exact r.length.symm
 refine⟨"tuple",_,Ox.lookup,ht.typeIs,?_⟩;refine HT.getItem_tuple_cut ht hs pl pu (by rw[bN];exact hw) ?_ (by rw[bN];exact hz);rw[bN];refine⟨.ref s.heap.objs.size,_,I.laid (t':=s.toks) (o:=.tup (oq xs lo hi)) (λb ob q=>cj _ q) (cN _) ?_,rfl,q _ (I.aG.fresh (cN _))⟩;exact⟨lN (kY xs lo hi) hz,_,(r.drop (HT.sIx xs.length 0 lo)).take (HT.sIx xs.length xs.length hi-HT.sIx xs.length 0 lo),IsTup.new _ _⟩
def JT(K:Rx):R2:=λx y H Q=>∃a b xs ys,x=.ref a/\y=.ref b/\SqT K H a xs/\SqT K H b ys/\xs≠[]/\xs.length+ys.length<=sizeLine/\
 (ys=[]->Q (.ref a) H)/\(ys≠[]->∀p,H p=none->Q (.ref p) (aC H p (.tup (xs++ys))))
def Vals.mG(r:Vals xs us):us=[]↔xs=[]:=by
 cases r with
 |nil=>simp
 |cons _ _=>simp
def op_catT:OpR X (binaryOp .Add) (JT X.K):=by intro aa s σ H x y v u Q I rx ry h;obtain⟨a,b,xs,ys,rfl,rfl,ha,hb,hx,hz,q1,q2⟩:=h;cases rx;cases ry;obtain⟨its,r1,p1,_⟩:=I.tuple ha;obtain⟨its2,r2,p2,_⟩:=I.tuple hb;refine HT.cat_tup p1 p2 (λz=>hx (r1.mG.mp z)) (λz=>⟨.ref a,H,I,rfl,q1 (r2.mG.mp z)⟩) (λz=>?_) (by rw[<- r1.length,<- r2.length];exact hz);refine⟨.ref s.heap.objs.size,_,I.laid (t':=s.toks) (o:=.tup (xs++ys)) (λb ob q=>cj _ q) (cN _) ?_,rfl,q2 (λw=>z (r2.mG.mpr w)) _ (I.aG.fresh (cN _))⟩;exact⟨by rw[KE];exact hz,_,r1.append r2,IsTup.new _ _⟩
end
noncomputable def wo(n:Nat)(i:Int):Option Nat:=if 0<=i then(if i<n then some i.toNat else none)else if -(n:Int)<=i then some (i+n).toNat else none
def fJ{α:Type}(xs:List α)(i:Int):Option α:=(wo xs.length i).bind λj=>xs[j]?
def wq(h:wo n i=some j):seqIndex? i n=some j/\j<n/\-(n:Int)<=i/\i<n:=by
 unfold wo at h;by_cases h0:0<=i
 .rw[ck h0]at h;by_cases h1:i<n
  .rw[ck h1]at h;have e:i.toNat=j:=Oi h;exact⟨by rw[seqIndex_of h0 h1,e],by lia,by lia,h1⟩
  .rw[cO h1]at h;cases h
 .rw[cO h0]at h;by_cases h1:-(n:Int)<=i
  .rw[ck h1]at h;have e:(i+n).toNat=j:=Oi h;exact⟨by rw[seqIndex_neg (by lia) h1,e],by lia,h1,by lia⟩
  .rw[cO h1]at h;cases h
def qh{α:Type}{xs:List α}{i:Int}{v:α}(h:fJ xs i=some v):∃j,seqIndex? i xs.length=some j/\xs[j]?=some v/\j<xs.length/\-(xs.length:Int)<=i/\i<xs.length:=by
 unfold fJ at h;cases e:wo xs.length i with
 |none=>rw[e]at h;cases h
 |some j=>rw[e]at h;obtain⟨h1,h2,h3,h4⟩:=wq e;exact⟨j,h1,h,h2,h3,h4⟩
def wt(b:Expr):Prop:=∀o i,subscripted b false o i=operate [o,i] (getItem o i)
def IxR(X:Cx)(r:R2):Prop:=
 ∀(value slice:Expr)(aa:List (Addr×Obj))(s:Rv)(σ:St)(H:Hp)(x y:V)(v u:Rz)(Q:VK),Inv X aa σ H s->RelV x v->RelV y u->r x y H Q->
  subscripted slice false v u=operate [v,u] (getItem v u)->wpAny (model X.prog X.w) X.A (subscriptTail value slice v u) (EP X aa σ Q) X.xe s
def MC(X:Cx)(id:String)(r:V->List V->Hp->VK->Prop):Prop:=
 ∀(aa:List (Addr×Obj))(s:Rv)(σ:St)(H:Hp)(x:V)(xs:List V)(v:Rz)(us:List Rz)(Q:VK),Inv X aa σ H s->RelV x v->Vals xs us->r x xs H Q->
  wpAny (model X.prog X.w) X.A (call (.builtin id) (v::us)) (EP X aa σ Q) X.xe s
section
variable{X:Cx}
def IxR.or(h:IxR X r)(h':IxR X r'):IxR X (λx y H Q=>r x y H Q\/r' x y H Q):=by
 intro value slice aa s σ H x y v u Q I rx ry q hs;rcases q with q|q
 .exact h value slice aa s σ H x y v u Q I rx ry q hs
 .exact h' value slice aa s σ H x y v u Q I rx ry q hs
def wu(hr:IxR X r)(ha:PE X a ta)(hb:PE X b tb)(hs:wt b):PE X (.Subscript a b pos) (uN r ta tb):=by intro aa s σ H Q I h;exact Subscript_ (Gw ha hb I h λv u s2 x y H2 I2 rx ry q=>hr a b aa s2 σ H2 x y v u Q I2 rx ry q (hs _ _))
def C1(K:Rx):R2:=λx y H Q=>∃p xs i v,x=.ref p/\y=.int i/\SqL K H p xs/\fJ xs i=some v/\Q v H
def C2(K:Rx):R2:=λx y H Q=>∃p xs i v,x=.ref p/\y=.int i/\SqT K H p xs/\fJ xs i=some v/\Q v H
def JU:R2:=λx y H Q=>∃z i c,x=.str z/\y=.int i/\z.length<=sizeLine/\fJ z.cps.toList i=some c/\Q (.str ⟨#[c]⟩) H
def ix_list:IxR X (C1 X.K):=by
 intro value slice aa s σ H x y v u Q I rx ry h hs;obtain⟨p,xs,i,z,rfl,rfl,hq,he,q⟩:=h;cases rx;obtain⟨t,rfl⟩:=ry;obtain⟨its,r,pl,hz⟩:=I.list hq;obtain⟨j,h1,h2,h3,h4,h5⟩:=qh he;obtain⟨w,ew,rw'⟩:=r.get h2;have hl:=r.length;have hn:=i9;have fin:EP X aa σ Q w s:=⟨z,H,I,rw',q⟩;by_cases h0:0<=i
 .have hj:i.toNat=j:=by rw[seqIndex_of h0 h5]at h1;exact Oi h1
  exact item_listR pl.isList h0 (by lia) (by rw[hj];simpa using ew) fin hs
 .have hj:(i+(its.toArray.size:Int)).toNat=j:=by rw[seqIndex_neg (by lia) h4]at h1;rw[cQ,<- hl];exact Oi h1
  exact subscriptTail_builtinR (x:=w) pl.isList.typeIs slot_list_getitem.lookup
   (wpAny_getItem_list_neg (Q:=λr s'=>r=w/\EP X aa σ Q r s') pl.isList (by lia) (by rw[cQ]<;>lia) (by lia) (by rw[hj];simpa using ew) ⟨rfl,fin⟩) hs
def ix_tup:IxR X (C2 X.K):=by
 intro value slice aa s σ H x y v u Q I rx ry h hs;obtain⟨p,xs,i,z,rfl,rfl,hq,he,q⟩:=h;cases rx;obtain⟨t,rfl⟩:=ry;obtain⟨its,r,pl,hz⟩:=I.tuple hq;obtain⟨j,h1,h2,h3,h4,h5⟩:=qh he;obtain⟨w,ew,rw'⟩:=r.get h2;have hl:=r.length;have hn:=i9;have fin:EP X aa σ Q w s:=⟨z,H,I,rw',q⟩;exact subscriptTail_builtinR (x:=w) pl.typeIs slot_tuple_getitem.lookup
  (getItem_tuple (j:=j) (Q:=λr s'=>r=w/\EP X aa σ Q r s') pl (by lia) (by lia) (by rw[cQ,<- hl];exact h1) (by simpa using ew) ⟨rfl,fin⟩) hs
def GF:IxR X JU:=by
 intro value slice aa s σ H x y v u Q I rx ry h hs;obtain⟨z,i,c,rfl,rfl,hz,he,q⟩:=h;obtain⟨t,rfl⟩:=rx;obtain⟨t',rfl⟩:=ry;obtain⟨j,h1,h2,h3,h4,h5⟩:=qh he;have hl:z.cps.toList.length=z.length:=by simp[Str.length]
 rw[hl]at h1 h4 h5;have hn:=i9;exact tail_any (typeIs_str s z t) slot_str_getitem.lookup (getItem_str (c:=c) (by have e1:decide (i < -(2^63:Int))=false:=iA (by lia);have e2:decide (i>=2^63)=false:=iA (by lia);rw[e1,e2,Bool.or_false]) (by rw[h1];simpa using h2) ⟨.str ⟨#[c]⟩,H,I.tok _,⟨_,rfl⟩,q⟩) hs
def NM(K:Rx):R2:=λx y H Q=>C1 K x y H Q\/C2 K x y H Q\/JU x y H Q
def GG:IxR X (NM X.K):=ix_list.or (ix_tup.or GF)
def uT(its:List Rz)(n j:Nat)(u:Rz):Obj.mapSeq (·.setIfInBounds j u) { cls:=.type "list",data:=.seq its.toArray n }={ cls:=.type "list",data:=.seq (its.set j u).toArray n }:=by simp[Obj.mapSeq]
theorem Inv.lst(I:Inv X aa σ H s)(h:H p=some (.lst xs)) :
 ∃(its:List Rz)(n:Nat),Vals xs its/\s.heap.get? p=some { cls:=.type "list",data:=.seq its.toArray n }/\xs.length<=sizeLine:=by
 obtain⟨z,its,n,r,e⟩:=I.aG p _ h;exact⟨its,n,r,e,z⟩
def Inv.Jf{p:Addr}{xs ys:List V}{its its':List Rz}{n n':Nat}{f:Obj->Obj}(I:Inv X aa σ H s)(h:H p=some (.lst xs))
 (ho:s.heap.get? p=some { cls:=.type "list",data:=.seq its.toArray n }) (hf:f { cls:=.type "list",data:=.seq its.toArray n }={ cls:=.type "list",data:=.seq its'.toArray n' }) (r:Vals ys its') (hz:ys.length<=sizeLine) (t:Nat) :
 Inv X aa σ (aC H p (.lst ys)) {s with heap:=s.heap.update p f,toks:=t}:=by
 have e:(s.heap.update p f).get? p=some { cls:=.type "list",data:=.seq its'.toArray n' }:=by rw[OU f ho (by rw[hf]<;>rfl),hf]
 refine I.write (x:=p) (e:=p) (by rw[h];trivial) (.inl rfl) (λb u hb q=>(OF _ _ (Oz hb)).trans q) ⟨_,e⟩ ?_;exact⟨hz,its',n',r,e⟩
def JV:V->V->V->Hp->(Hp->Prop)->Prop:=λo i v H Q=>∃p xs k j,o=.ref p/\i=.int k/\H p=some (.lst xs)/\wo xs.length k=some j/\Q (aC H p (.lst (xs.set j v)))
def z6:JG X JV:=by
 intro aa s σ H o i v ov iv u Q I ro ri rv h;obtain⟨p,xs,k,j,rfl,rfl,hp,hj,q⟩:=h;cases ro;obtain⟨t,rfl⟩:=ri;obtain⟨its,n,r,ho,hz⟩:=I.lst hp;obtain⟨h1,h2,h3,h4⟩:=wq hj;have hl:=r.length;have hn:=i9;have I':Inv X aa σ (aC H p (.lst (xs.set j v))) {s with heap:=s.heap.update p (Obj.mapSeq (·.setIfInBounds j u))}:=I.Jf hp ho (uT its n j u) (r.set rv j) (by rw[OQ];exact hz) s.toks;by_cases h0:0<=k
 .have hk:k.toNat=j:=by rw[seqIndex_of h0 h4]at h1;exact Oi h1
  exact PySem.W.ki_setAt ho h0 (by lia) (by rw[cQ,<- hl];exact h4) (by rw[hk];exact⟨_,I',q⟩)
 .have hk:(k+(its.toArray.size:Int)).toNat=j:=by rw[seqIndex_neg (by lia) h3]at h1;rw[cQ,<- hl];exact Oi h1
  exact PySem.W.ki_setBack ho (by lia) (by rw[cQ,<- hl];exact h3) (by lia) (by rw[hk];exact⟨_,I',q⟩)
def qi(lo hi:Option Int)(n:Nat):(sliceBounds lo hi none n).1=((HT.sIx n 0 lo:Nat):Int)/\(sliceBounds lo hi none n).2.1=((HT.sIx n n hi:Nat):Int)/\(sliceBounds lo hi none n).2.2=1:=by
 refine⟨?_,?_,rfl⟩
 .cases lo with
  |none=>simp[sliceBounds,HT.sIx]
  |some i=>
   simp only[sliceBounds,HT.sIx,Option.getD_none,show(1:Int)>0 by decide,O_]
   grind
 .cases hi with
  |none=>simp[sliceBounds,HT.sIx]
  |some i=>
   simp only[sliceBounds,HT.sIx,Option.getD_none,show(1:Int)>0 by decide,O_]
   grind
def ot(its:List Rz)(lo hi:Option Int):slicePick its.toArray lo hi none=((its.drop (HT.sIx its.length 0 lo)).take (HT.sIx its.length its.length hi-HT.sIx its.length 0 lo)).toArray:=by obtain⟨h1,h2,h3⟩:=qi lo hi its.toArray.size;unfold slicePick;rw[h1,h2,h3];simp only[sliceRange_one,pick_run,cQ]<;>rfl
def JW(K:Rx):V->Option Int->Option Int->Hp->VK->Prop:=λx lo hi H Q=>∃a xs,x=.ref a/\SqL K H a xs/\∀p,H p=none->Q (.ref p) (aC H p (.lst (oq xs lo hi)))
def sl_list:SlR X (JW X.K):=by intro aa s σ H x v vl vu lo hi sl Q I rx hs pl pu h;obtain⟨a,xs,rfl,hx,q⟩:=h;cases rx;obtain⟨its,r,ht,hz⟩:=I.list hx;have bN:=r.length;refine⟨"list",_,slot_list_getitem.lookup,ht.isList.typeIs,?_⟩;refine wpAny_getItem_list_slice ht.isList hs pl pu .none (by simp) ?_ (by rw[cQ]<;>lia);rw[ot,<- bN];refine⟨.ref s.heap.objs.size,_,I.laid (t':=s.toks) (o:=.lst (oq xs lo hi)) (λb ob q=>cj _ q) (cN _) ?_,rfl,q _ (I.aG.fresh (cN _))⟩;exact⟨lN (kY xs lo hi) hz,_,0,(r.drop (HT.sIx xs.length 0 lo)).take (HT.sIx xs.length xs.length hi-HT.sIx xs.length 0 lo),jY _ rfl⟩
def call_len_seq:CallR X (.builtin "len") (λxs H Q=>∃p ys,xs=[.ref p]/\(SqL X.K H p ys\/SqT X.K H p ys)/\Q (.int ys.length) H):=by
 intro aa s σ H xs us Q I r h;obtain⟨p,ys,rfl,hq,q⟩:=h;obtain⟨u,rfl,rx⟩:=eJ r;cases rx;have hn:=i9;rcases hq with hq|hq
 .obtain⟨its,r',pl,hz⟩:=I.list hq;have bN:=r'.length;exact Calls.call_len_list pl.isList (by simp only[cQ]<;>lia) ⟨.int ys.length,H,I.tok _,⟨s.toks+1,by rw[cQ,bN]⟩,q⟩
 .obtain⟨its,r',pl,hz⟩:=I.tuple hq;have bN:=r'.length;exact len_tuple pl (by simp only[cQ]<;>lia) ⟨.int ys.length,H,I.tok _,⟨s.toks+1,by rw[cQ,bN]⟩,q⟩
def qj:CallR X (.builtin "len") (λxs H Q=>∃z,xs=[.str z]/\z.length<=sizeLine/\Q (.int z.length) H):=by intro aa s σ H xs us Q I r h;obtain⟨z,rfl,hz,q⟩:=h;obtain⟨u,rfl,t,rfl⟩:=eJ r;have hn:=i9;exact len_str (by lia) ⟨.int z.length,H,I.tok _,⟨_,rfl⟩,q⟩
def CallR.or(h:CallR X f r)(h':CallR X f r'):CallR X f (λxs H Q=>r xs H Q\/r' xs H Q):=by
 intro aa s σ H xs us Q I rs q;rcases q with q|q
 .exact h aa s σ H xs us Q I rs q
 .exact h' aa s σ H xs us Q I rs q
def ql:CallR X (.type "list") (λxs H Q=>∃p ys,xs=[.ref p]/\(SqL X.K H p ys\/SqT X.K H p ys)/\∀l,H l=none->Q (.ref l) (aC H l (.lst ys))):=by
 intro aa s σ H xs us Q I r h;obtain⟨p,ys,rfl,hq,q⟩:=h;obtain⟨u,rfl,rx⟩:=eJ r;cases rx;have fin:∀(its:List Rz),Vals ys its->ys.length<=sizeLine->∀(h':Heap)(c':Nat),(∀b o',s.heap.get? b=some o'->h'.get? b=some o')->
  h'.get? s.heap.objs.size=some { cls:=.type "list",dict:=none,data:=.seq its.toArray c',slots:=#[] }->EP X aa σ Q (.ref s.heap.objs.size) {s with heap:=h'}:=λits r' hz h' c' kp e=>
  ⟨.ref s.heap.objs.size,_,I.laid (t':=s.toks) kp (cN _) (show ObjOk X.prog X.w _ h' _ (.lst ys)from⟨hz,its,c',r',e⟩),rfl,q _ (I.aG.fresh (cN _))⟩
 rcases hq with hq|hq
 .obtain⟨its,r',pl,hz⟩:=I.list hq;have bN:=r'.length;obtain⟨o,ho,hc,n,hd⟩:=pl.isList;exact call_list_seq p (.inl rfl) ho hc hd (λh' c' kp e=>fin its r' hz h' c' kp e) (by simp only[cQ]<;>lia)
 .obtain⟨its,r',pl,hz⟩:=I.tuple hq;have bN:=r'.length;obtain⟨o,ho,hc,n,hd⟩:=pl;exact call_list_seq p (.inr rfl) ho hc hd (λh' c' kp e=>fin its r' hz h' c' kp e) (by simp only[cQ]<;>lia)
def ou:CallR X (.type "tuple") (λxs H Q=>∃p ys,xs=[.ref p]/\((SqL X.K H p ys/\∀l,H l=none->Q (.ref l) (aC H l (.tup ys)))\/(SqT X.K H p ys/\Q (.ref p) H))):=by
 intro aa s σ H xs us Q I r h;obtain⟨p,ys,rfl,h⟩:=h;obtain⟨u,rfl,rx⟩:=eJ r;cases rx;rcases h with⟨hq,q⟩|⟨hq,q⟩
 .obtain⟨its,r',pl,hz⟩:=I.list hq;have bN:=r'.length;refine call_tuple_list pl.isList (λh' kp=>?_) (by simp only[cQ]<;>lia);have I1:Inv X aa σ H {s with heap:=h'}:=I.kept (t':=s.toks) kp;have I2:Inv X aa σ (aC H h'.objs.size (.tup ys)) { s with heap:=h'.push { cls:=.type "tuple",data:=.seq its.toArray } }:=I1.laid (t':=s.toks) (λb o e=>cj _ e) (cN _) (show ObjOk X.prog X.w _ _ _ (.tup ys)from⟨hz,its,r',IsTup.new _ _⟩);exact⟨.ref h'.objs.size,_,I2,rfl,q _ (I1.aG.fresh (cN _))⟩
 .obtain⟨its,r',pl,hz⟩:=I.tuple hq;exact call_tuple_same pl ⟨.ref p,H,I,rfl,q⟩
def MD(K:Rx)(T:String)(x:V)(H:Hp):Prop:=match x with
 |.str _=>T="str"
 |.int _=>T="int"
 |.ref p=>(T="list"/\∃xs,SqL K H p xs)\/(T="tuple"/\∃o,K.lookup p=some o/\o.cls=.type "tuple"/\o.dict=none)\/
  (T="dict"/\((∃kvs,H p=some (.dK kvs))\/∃kvs,H p=some (.dT kvs)))\/(T="set"/\∃S n,H p=some (.set S n))
 |_=>False
def GH(I:Inv X aa σ H s)(r:RelV x v)(ty:MD X.K T x H) :
 s.TypeIs v T/\∀a,v=.ref a->∃ob,s.heap.get? a=some ob/\ob.dict=none:=by
 cases x with
 |str z=>obtain⟨t,rfl⟩:=r;cases(show T="str" from ty);exact⟨typeIs_str s z t,λ_ e=>nomatch e⟩
 |int i=>obtain⟨t,rfl⟩:=r;cases(show T="int" from ty);exact⟨typeIs_int s i t,λ_ e=>nomatch e⟩
 |ref p=>
  cases r;rcases ty with⟨rfl,xs,hq⟩|⟨rfl,o,hk,hc,hd⟩|⟨rfl,hk⟩|⟨rfl,S,n,hk⟩
  .obtain⟨its,_,pl,_⟩:=I.list hq;refine⟨pl.isList.typeIs,λa e=>?_⟩;cases e;obtain⟨o,n,e,c,hd,_⟩:=pl;exact⟨o,e,hd⟩
  .refine⟨⟨o,I.rT p o hk,hc⟩,λa e=>?_⟩;cases e;exact⟨o,I.rT _ o hk,hd⟩
  .have z:∃o,s.heap.get? p=some o/\o.ExactDict:=by
    rcases hk with⟨kvs,hk⟩|⟨kvs,hk⟩
    .obtain⟨_,_,_,_,o,_,_,e,ex,_⟩:=I.aG p _ hk;exact⟨o,e,ex⟩
    .obtain⟨_,_,_,_,o,_,_,e,ex,_⟩:=I.aG p _ hk;exact⟨o,e,ex⟩
   obtain⟨o,e,ex⟩:=z;refine⟨⟨o,e,ex.1⟩,λa e2=>?_⟩;cases e2;exact⟨o,e,ex.2.1⟩
  .obtain⟨o,_,_,_,e,ex,_⟩:=I.aG p _ hk;refine⟨⟨o,e,ex.1⟩,λa e2=>?_⟩;cases e2;exact⟨o,e,ex.2.1⟩
 |_=>exact False.elim ty
noncomputable def LY(K:Rx)(T:String)(r:V->List V->Hp->VK->Prop)(to:TE)(t:TA):TE:=λσ H Q=>to σ H λx H1=>MD K T x H1/\t σ H1 λxs H2=>r x xs H2 Q
variable{o e:Expr}{es:List Expr}{to:TE}{t:TA}{name:Str}{apos cpos:Pos}{T id:String}{r:V->List V->Hp->VK->Prop}
def wv(pa:PlainAttrs T)(slot:Slot T name id)(hty:typeOf (.builtin id)=pure (.type "method_descriptor")) (hm:MC X id r) (ho:PE X o to) (ha:PA X (e::es) t)
 (hbase:autoParam (attributeBase o name X.env (eval o X.env)=eval o X.env) RJ)
 (hfew:autoParam (((backTo cpos (starEach (e::es) X.env)).all (λx=>!x.1)&&(backToKw cpos (keywordEach [] X.env)).all (λx=>x.1.isSome)
   && decide ((e::es).length+([]:List Keyword).length+(if([]:List Keyword).isEmpty then 0 else 1)<30))=true) RJ)
 (hline:autoParam ((apos.endLine==cpos.line)=true) RJ) (hs:autoParam (starEach (e::es) X.env=(false,eval e X.env)::starEach es X.env) RJ) (hplain:autoParam (bT X cpos es) RJ) :
 PE X (.Call (.Attribute o name apos) (e::es) [] cpos) (LY X.K T r to t):=by
 intro aa s σ H Q I h;refine wpAny_Call_method_late hbase hfew hline rfl (bV (ho aa s σ H _ I h) λv s1 ⟨x,H1,I1,r1,ty,q1⟩=>?_);obtain⟨h1,h2⟩:=GH I1 r1 ty;refine⟨T,id,pa,slot,hty,h1,h2,?_⟩;have hA:=ha cpos aa s1 σ H1 _ I1 q1;rw[hs]at hA ⊢;refine Qx (by show(false ||(backTo cpos (starEach es X.env)).any (·.1))=false;rw[hplain]<;>rfl) (Calls.evalArgs_plain ?_);exact bV hA λus s2 ⟨vs,H2,I2,r2,q2⟩=>hm aa s2 σ H2 x vs v us Q I2 r1 r2 q2
end
def NN(X:Cx)(id:String)(r:V->List V->Hp->VK->Prop):Prop:=
 ∀(aa:List (Addr×Obj))(s:Rv)(σ:St)(H:Hp)(x:V)(xs:List V)(v:Rz)(us:List Rz)(Q:VK),Inv X aa σ H s->RelV x v->Vals xs us->r x xs H Q->
  wpAny (model X.prog X.w) X.A (call (.builtin id) (v::us)) (EP X aa σ Q) X.xe s
def Vals.one{x:V}{us:List Rz}(h:Vals [x] us):∃u,us=[u]/\RelV x u:=eJ h
section
def Inv.Nl{its its':List Rz}{f:Array Rz->Array Rz}(I:Inv X aa σ H s)(hH:H l=some (.lst xs))
 (e:s.heap.get? l=some { cls:=.type "list",data:=.seq its.toArray n }) (hf:f its.toArray=its'.toArray) (hv:Vals ys its') (hz:ys.length<=sizeLine) :
 Inv X aa σ (aC H l (.lst ys)) {s with heap:=s.heap.update l (Obj.mapSeq f),toks:=t'}:=by
 have q:=PySem.IsL.update e f;rw[hf]at q;refine I.write (x:=l) (e:=l) (by rw[hH];exact trivial) (.inl rfl) (λb' u hb hu=>(OF s.heap (Obj.mapSeq f) (Oz hb)).trans hu) ⟨_,q⟩ ?_;exact⟨hz,its',_,hv,q⟩
def Inv.Nk(I:Inv X aa σ H s)(hv:Vals ys its)(hz:ys.length<=sizeLine) :
 Inv X aa σ (aC H s.heap.objs.size (.lst ys)) { s with heap:=s.heap.push { cls:=.type "list",data:=.seq its.toArray },toks:=t' }:=
 I.laid (λ_ _ q=>cj _ q) (cN _) ⟨hz,its,0,hv,jY _ rfl⟩
theorem Inv.fresh(I:Inv X aa σ H s):H s.heap.objs.size=none:=I.aG.fresh (cN _)
def Inv.Np(I:Inv X aa σ H s)(hH:H l=some (.lst xs)):xs.length<=sizeLine/\∃(its:List Rz)(n:Nat),Vals xs its/\xs.length=its.length/\s.heap.get? l=some { cls:=.type "list",data:=.seq its.toArray n }:=by obtain⟨z,its,n,r,e⟩:=I.aG l _ hH;exact⟨z,its,n,r,r.length,e⟩
end
section
def ww:V->List V->Hp->VK->Prop:=λx vs H Q=>∃l xs y,x=.ref l/\vs=[y]/\H l=some (.lst xs)/\xs.length<sizeLine/\Q .fU (aC H l (.lst (xs++[y])))
def kg:NN X "list.append" ww:=by intro aa s σ H x vs v us Q I rx rv h;obtain⟨l,xs,y,rfl,rfl,hH,hz,q⟩:=h;cases rx;obtain⟨u,rfl,ru⟩:=rv.one;obtain⟨z,its,n,r,hl,e⟩:=I.Np hH;refine call_meets F.slot_list_append ⟨_,e,rfl⟩ F.entry_list_append (F.args_list_append_2 _ _) (PySem.list_append l its.toArray n u (by rw[cQ];lia)) ⟨e,?_⟩;refine⟨.fU,_,I.Nl (its':=its++[u]) hH e (by simp) (r.append (.cons ru .nil)) ?_,rfl,q⟩;rw[KE,PY];lia
end
section
variable{κ:Type}[DecidableEq κ]
noncomputable def dQ(kvs:List (κ×V))(k:κ):Option V:=(kvs.find? λkv=>decide (kv.1=k)).map (·.2)
noncomputable def cU(kvs:List (κ×V))(k:κ)(v:V):List (κ×V):=if(kvs.any λkv=>decide (kv.1=k))=true then kvs.map (λkv=>if kv.1=k then(kv.1,v)else kv)else kvs++[(k,v)]
def f7{p:κ×V}(e:p.1=k):dQ (p::r) k=some p.2:=by simp[dQ,Pa,e]
def f9{p:κ×V}(e:¬p.1=k):dQ (p::r) k=dQ r k:=by simp[dQ,Pa,e]
theorem jg(k:κ):∀kvs:List (κ×V),(kvs.any λkv=>decide (kv.1=k))=(dQ kvs k).isSome
 |[]=>rfl
 |p::r=>by
  rw[Px];by_cases e:p.1=k
  .simp only[f7 e,db e,Bool.true_or,Option.isSome_some]
  .rw[f9 e,iA e,Bool.false_or];exact jg k r
def g8(kvs:List (κ×V))(k:κ)(v:V):(cU kvs k v).length<=kvs.length+1:=by grind [cU]
def sq{kvs:List (κ×V)}(v:V)(h:dQ kvs k=none):cU kvs k v=kvs++[(k,v)]:=by unfold cU;rw[jg,h];exact cO (by decide)
def RelO.gu(r:RelO o u):o.isSome=u.isSome:=by
 cases o with
 |none=>cases u with
  |none=>rfl
  |some _=>exact(show False from r).elim
 |some _=>cases u with
  |none=>exact(show False from r).elim
  |some _=>rfl
theorem RelO.getD(r:RelO o u)(rd:RelV d d'):RelV (o.getD d) (u.getD d'):=by
 cases o with
 |none=>cases u with
  |none=>exact rd
  |some _=>exact(show False from r).elim
 |some _=>cases u with
  |none=>exact(show False from r).elim
  |some _=>exact r
def KV.val{kvs:List (κ×V)}(r:KV kvs vs)(k:κ):RelO (dQ kvs k) (valueAt vs k):=by
 unfold KV at r;induction r with
 |nil=>exact True.intro
 |@cons p q ps qs h t ih=>
  obtain⟨h1,h2⟩:=h;by_cases e:p.1=k
  .have e':q.1=k:=h1.symm.trans e;have b:valueAt (q::qs) k=some q.2:=by simp[valueAt,Pa,e']
   rw[f7 e,b];exact h2
  .have e':¬q.1=k:=λz=>e (h1.trans z);have b:valueAt (q::qs) k=valueAt qs k:=by simp[valueAt,Pa,e']
   rw[f9 e,b];exact ih
theorem KV.any(r:KV kvs vs)(k:κ):(kvs.any λkv=>decide (kv.1=k))=vs.any λkv=>decide (kv.1=k):=by
 unfold KV at r;induction r with
 |nil=>rfl
 |cons h t ih=>rw[Px,Px,ih,h.1]
def KV.Jj(r:KV kvs vs)(k:κ)(ry:RelV y u) :
 KV (kvs.map λkv=>if kv.1=k then(kv.1,y)else kv) (vs.map λkv=>if kv.1=k then(kv.1,u)else kv):=by
 unfold KV at r ⊢;induction r with
 |nil=>exact .nil
 |@cons p q ps qs h t ih=>
  rw[fV,fV];refine .cons ?_ ih
  grind
def KV.put(r:KV kvs vs)(k:κ)(ry:RelV y u):KV (cU kvs k y) (stored vs k u):=by
 unfold cU stored;rw[r.any k];by_cases e:(vs.any λkv=>decide (kv.1=k))=true
 .rw[ck e,ck e];exact r.Jj k ry
 .rw[cO e,cO e];exact Paired.snoc r ⟨rfl,ry⟩
theorem KV.length(r:KV kvs vs):kvs.length=vs.length:=Pw r
end
def mQ(r:RelV (kV k) u):(aq P w).is k u=true:=by
 cases k with
 |inl i=>obtain⟨t,e⟩:=(show ∃t,u=Value.int i t from r);subst e;exact rV P w i t
 |inr x=>obtain⟨t,e⟩:=(show ∃t,u=Value.str x t from r);subst e;exact rW P w x t
theorem oY:∀{ks:List bu}{us:List Rz},Vals (ks.map kV) us->ItemsAre (aq P w) ks us
 |[],_,r=>by rw[Q8]at r;cases r;exact .nil
 |k::ks,_,r=>by
  rw[fV]at r;cases r with
  |cons h t=>exact .cons (mQ h) (oY t)
abbrev KT(H:Hp):List (List bu×V)->List (List bu×Addr×Rz)->Prop:=Paired λp q=>p.1=q.1/\H q.2.1=some (.tup (p.1.map kV))/\RelV p.2 q.2.2
def KT.val{H:Hp}(r:KT H kvs xs)(k:List bu):RelO (dQ kvs k) ((atKey xs k).map (·.2)):=by
 induction r with
 |nil=>exact True.intro
 |@cons p q ps qs h t ih=>
  obtain⟨h1,_,h2⟩:=h;by_cases e:p.1=k
  .have e':q.1=k:=h1.symm.trans e;have b:atKey (q::qs) k=some q.2:=by simp[atKey,Pa,e']
   rw[f7 e,b];exact h2
  .have e':¬q.1=k:=λz=>e (h1.trans z);have b:atKey (q::qs) k=atKey qs k:=by simp[atKey,Pa,e']
   rw[f9 e,b];exact ih
def KT.Jj(r:KT H kvs xs)(k:List bu)(ry:RelV y u) :
 KT H (kvs.map λkv=>if kv.1=k then(kv.1,y)else kv) (xs.map (putAt k u)):=by
 induction r with
 |nil=>exact .nil
 |@cons p q ps qs h t ih=>
  rw[fV,fV];refine .cons ?_ ih;obtain⟨h1,h2,h3⟩:=h;unfold putAt
  grind
def KT.put(r:KT H kvs xs)(k:List bu)(hb:H b=some (.tup (k.map kV)))(ry:RelV y u) :
 KT H (cU kvs k y) (storedH xs k b u):=by
 have e:(kvs.any λkv=>decide (kv.1=k))=(atKey xs k).isSome:=by rw[jg,(r.val k).gu,Rk]
 unfold cU storedH;rw[e];by_cases q:(atKey xs k).isSome=true
 .rw[ck q,ck q];exact r.Jj k ry
 .rw[cO q,cO q];exact Paired.snoc r ⟨rfl,hb,ry⟩
def KT.keeps(r:KT H kvs xs)(ht:∀b ys,H b=some (.tup ys)->H' b=some (.tup ys)):KT H' kvs xs:=Paired.Ja r λ_ _ z=>⟨z.1,ht _ _ z.2.1,z.2.2⟩
section
def Fe(ok:HOk P w H h)(e:Rd H a u):ObjOk P w H h a u:=e.ok ok
def kZ(ok:HOk P w H h)(e:Rd H a (.dK kvs)):kvs.length<=sizeLine/\(a==sysModules)=false/\∃vs,KV kvs vs/\h.DictOf (aq P w) a vs:=show ObjOk P w H h a (.dK kvs)from Fe ok e
def JX(ok:HOk P w H h)(e:H a=some (.dK kvs)):kvs.length<=sizeLine/\(a==sysModules)=false/\∃vs,KV kvs vs/\h.DictOf (aq P w) a vs:=kZ ok (.inl e)
theorem eL(ok:HOk P w H h)(e:H a=some (.tup (ks.map kV))):(tupleKind (aq P w)).is h ks a:=by obtain⟨_,its,r,o,h1,h2,n,h3⟩:=(show ObjOk P w H h a (.tup (ks.map kV))from ok a _ e);exact⟨o,its.toArray,n,h1,h2,h3,by simpa using oY r⟩
def k7(ok:HOk P w H h)(e:Rd H a (.dT kvs)):kvs.length<=sizeLine/\(a==sysModules)=false/\
 ∃xs,KT H kvs xs/\h.DictOfH (tupleKind (aq P w)) a xs:=by
 obtain⟨z,y,xs,r,o,es,ep,h1,h2,h3,h4,h5⟩:=(show ObjOk P w H h a (.dT kvs)from Fe ok e);refine⟨z,y,xs,r,o,es,ep,h1,h2,h3,h4,λx hx=>?_,h5⟩;have all:∀{l:List (List bu×V)}{m:List (List bu×Addr×Rz)},KT H l m->∀x∈m,(tupleKind (aq P w)).is h x.1 x.2.1:=by
  intro l m q;induction q with
  |nil=>intro x hx;exact nomatch hx
  |@cons p q ps qs hq t ih=>grind [eL]
 exact all r x hx
def Ff(ok:HOk P w H h)(e:H a=some (.dT kvs)):kvs.length<=sizeLine/\(a==sysModules)=false/\
 ∃xs,KT H kvs xs/\h.DictOfH (tupleKind (aq P w)) a xs:=k7 ok (.inl e)
end
def yo(H:Hp)(a:Addr)(y:V)(r:Option V):Prop:=(∃kvs k,Rd H a (.dK kvs)/\y=kV k/\r=dQ kvs k)\/∃kvs k b,Rd H a (.dT kvs)/\y=.ref b/\H b=some (.tup (k.map kV))/\r=dQ kvs k
def DPut(H:Hp)(a:Addr)(y v:V)(H':Hp):Prop:=
 (∃kvs k,H a=some (.dK kvs)/\y=kV k/\kvs.length<sizeLine/\H'=aC H a (.dK (cU kvs k v)))\/
 ∃kvs k b,H a=some (.dT kvs)/\y=.ref b/\H b=some (.tup (k.map kV))/\kvs.length<sizeLine/\H'=aC H a (.dT (cU kvs k v))
theorem DPut.k{kvs:List (bu×V)}{k:bu}{v:V}(e:H a=some (.dK kvs))(hl:kvs.length<sizeLine):DPut H a (kV k) v (aC H a (.dK (cU kvs k v))):=.inl ⟨kvs,k,e,rfl,hl,rfl⟩
def DPut.t{kvs:List (List bu×V)}{k:List bu}{v:V}(e:H a=some (.dT kvs))(eb:H b=some (.tup (k.map kV)))(hl:kvs.length<sizeLine) :
 DPut H a (.ref b) v (aC H a (.dT (cU kvs k v))):=.inr ⟨kvs,k,b,e,rfl,eb,hl,rfl⟩
section
def Inv.big(I:Inv X aa σ H s):sysModules<s.heap.objs.size:=by have h:mainGlobals<s.heap.objs.size:=(I.mod.glob.keeps I.bk).lt;exact Nat.lt_trans (by decide) h
def yp(hu:A.units+1<cLine)(I:Inv X aa σ H s)(g:yo H a y (some v))(ry:RelV y u)(h:∀w' s',Inv X aa σ H s'->RelV v w'->Q w' s') :
 wpAny (model X.prog X.w) A (getItem (.ref a) u) Q E s:=by
 rcases g with⟨kvs,k,e,ey,l⟩|⟨kvs,k,b,e,ey,eb,l⟩
 .subst ey;obtain⟨z,hd,vs,rel,dd⟩:=kZ I.aG e;obtain⟨w',hw,rw'⟩:=RelO.some_of (v:=v) (o:=valueAt vs k) (by rw[l];exact rel.val k);exact wpAny_getItem_of (mQ ry) dd.mapOf hw (h w' _ (I.tok _) rw')
 .subst ey;cases(show u=Value.ref b from ry);obtain⟨z,hd,xs,rel,dd⟩:=k7 I.aG e;obtain⟨w',hw,rw'⟩:=RelO.some_of (v:=v) (o:=(atKey xs k).map (·.2)) (by rw[l];exact rel.val k);obtain⟨p,hp,hp2⟩:=N_.mp hw;refine wpAny_getItem_heap (Pf hu) (eL I.aG eb) dd hp ?_;rw[hp2];exact h w' _ (I.tok _) rw'
def ME(hu:A.units+1<cLine)(I:Inv X aa σ H s)(g:yo H a y o)(ry:RelV y u)(h:∀s',Inv X aa σ H s'->Q (.bool o.isSome) s') :
 wpAny (model X.prog X.w) A (compareOp .In u (.ref a)) Q E s:=by
 rcases g with⟨kvs,k,e,ey,l⟩|⟨kvs,k,b,e,ey,eb,l⟩
 .subst ey;obtain⟨z,hd,vs,rel,dd⟩:=kZ I.aG e;refine wpAny_in_of (mQ ry) hd dd.mapOf ?_;rw[<- (rel.val k).gu,<- l];exact h _ (I.tok _)
 .subst ey;cases(show u=Value.ref b from ry);obtain⟨z,hd,xs,rel,dd⟩:=k7 I.aG e;refine wpAny_in_heap (Pf hu) (eL I.aG eb) hd dd ?_;have q:=(rel.val k).gu;rw[Rk]at q;rw[<- q,<- l];exact h _ (I.tok _)
def mj(I:Inv X aa σ H s)(mu:Jw (H a))(hs:Heap.SameBut a s.heap h')(he:∃q,h'.get? a=some q)(new:ObjOk X.prog X.w (aC H a ob) h' a ob) :
 Inv X aa σ (aC H a ob) {s with heap:=h',toks:=t'}:=
 I.write (x:=a) (e:=a) mu (.inl rfl) (λb q hb z=>(hs.2 b hb).trans z) he new
def GI(z:kvs.length<=sizeLine)(hd:(a==sysModules)=false)(rel:KV kvs vs)(dd:h'.DictOf (aq P w) a vs) :
 ObjOk P w H' h' a (.dK kvs):=⟨z,hd,vs,rel,dd⟩
def kh(hu:A.units+1<cLine)(I:Inv X aa σ H s)(g:DPut H a y v H')(ry:RelV y u)(rv:RelV v r)(h:∀s',Inv X aa σ H' s'->Q () s') :
 wpAny (model X.prog X.w) A (setItem (.ref a) u r) Q E s:=by
 rcases g with⟨kvs,k,e,ey,l,eH⟩|⟨kvs,k,b,e,ey,eb,l,eH⟩
 .subst ey eH;obtain⟨z,hd,vs,rel,dd⟩:=JX I.aG e;have hz:vs.length<=sizeLine:=by rw[<- rel.length];exact z
  have hl:(cU kvs k v).length<=sizeLine:=by have:=g8 kvs k v;lia
  refine wpAny_setItem_pairs (hsz:=hz) (mQ ry) dd λh' dd' hs=>h _ ?_;have he:∃q,h'.get? a=some q:=let ⟨q,_,_,hq,_⟩:=dd';⟨q,hq⟩;exact mj I (by rw[e];exact True.intro) hs he (GI hl hd (rel.put k rv) dd')
 .subst ey eH;cases(show u=Value.ref b from ry);obtain⟨z,hd,xs,rel,dd⟩:=Ff I.aG e;have hz:xs.length<=sizeLine:=by rw[<- Pw rel];exact z
  have hl:(cU kvs k v).length<=sizeLine:=by have:=g8 kvs k v;lia
  refine wpAny_setItem_heap (hsz:=hz) (Pf hu) (eL I.aG eb) dd λh' dd' hs=>h _ ?_;obtain⟨q,es,ep,hq,h2,h3,h4,_,h5⟩:=dd';refine mj I (by rw[e];exact True.intro) hs ⟨q,hq⟩ ⟨hl,hd,_,(rel.put k eb rv).keeps λc ys ec=>?_,q,es,ep,hq,h2,h3,h4,h5⟩;rw[af (rX ec e (λz=>nomatch z))];exact ec
end
def GJ(i:Expr):Prop:=∀ov iv,subscripted i false ov iv=operate [ov,iv] (getItem ov iv)
def C3{E:Rz->Rv->Prop}{env:Env}{value slice:Expr}{pos:Pos}{T id:String}{Q:Rz->Rv->Prop}
 (hl:typeLookup (.type T) "__getitem__"=pure (some (.builtin id))) (hs:GJ slice)
 (h:wpAny (model prog w) A (eval value env) (λo s₁=>wpAny (model prog w) A (eval slice env) (λi s₂=>s₂.TypeIs o T/\wpAny (model prog w) A (getItem o i) Q E s₂) E s₁) E s) :
 wpAny (model prog w) A (eval (.Subscript value slice pos) env) Q E s:=by
 refine Subscript_ (OT h (λo s₁ h₁=>OT h₁ (λi s₂ h₂=>?_) λ_ _ x=>x) λ_ _ x=>x);obtain⟨hT,h₂⟩:=h₂;unfold subscriptTail;refine bo ?_;rw[getitemInPython_of_ne hT.not_modules];refine bo (Pp hT hl ?_);have fin:wpAny (model prog w) A (subscripted slice false o i) (λr s₃=>wpAny (model prog w) A (letTemporaryGo value o r >>= λ_=>pure r) Q E s₃) E s₂:=by rw[hs o i];exact wpAny_operating (OT h₂ (λr s₃ h₃=>bo (wpAny_letTemporaryGo (bF h₃))) λ_ _ x=>x)
 first
  |exact bF (bo fin)
  |exact bo (bF (bo fin))
  |exact bo fin
def su(I:Inv X aa σ H s)(g:yo H a y o):s.TypeIs (.ref a) "dict":=by
 rcases g with⟨kvs,k,e,_,_⟩|⟨kvs,k,b,e,_,_,_⟩
 .obtain⟨_,_,vs,_,dd⟩:=kZ I.aG e;exact dd.typeIs
 .obtain⟨_,_,xs,_,dd⟩:=k7 I.aG e;exact dd.typeIs
noncomputable def JY(td ty:TE):TE:=λσ H Q=>td σ H λx H1=>ty σ H1 λy H2=>∃a v,x=.ref a/\yo H2 a y (some v)/\Q v H2
section
def C4(hu:X.A.units+1<cLine)(ho:PE X o td)(hi:PE X i ty)(hs:GJ i):PE X (.Subscript o i pos) (JY td ty):=by intro aa s σ H Q I h;refine C3 PySem.F.slot_dict_getitem.lookup hs (bV (ho aa s σ H _ I h) λu s1 ⟨x,H1,I1,rx,q1⟩=>bV (hi aa s1 σ H1 _ I1 q1) λiv s2 ⟨y,H2,I2,ry,a,v,ex,g,q2⟩=>?_);subst ex;obtain rfl:u=Value.ref a:=rx;exact⟨su I2 g,yp hu I2 g ry λw' s3 I3 rw'=>⟨v,H2,I3,rw',q2⟩⟩
end
def z7(h:Heap)(hb:sysModules<h.objs.size):ObjOk P w H (h.push { cls:=.type "dict",data:=.dict #[] }) h.objs.size (.dK []):=⟨N3 _,beq_eq_false_iff_ne.mpr (Oz (N9 hb)),[],.nil,Heap.DictOf.new h⟩
def GK:TE:=λ_ H Q=>∀p,H p=none->Q (.ref p) (aC H p (.dK []))
section
def z8:PE X (.Dict [] [] pos) GK:=λaa s σ H Q I h=>wpAny_Dict_empty ⟨.ref s.heap.objs.size,_,I.laid (a:=s.heap.objs.size) (o:=.dK []) (t':=s.toks) (λ_ _ q=>cj _ q) (cN _) (z7 s.heap I.big),rfl,h _ (I.aG.fresh (cN _))⟩
end
structure M1(X:Cx) (o:Expr) (m:Str) (apos:Pos) (e:Expr) (cpos:Pos):Prop where
 base:attributeBase o m X.env (eval o X.env)=eval o X.env
 Jb:((backTo cpos (starEach [e] X.env)).all (λx=>!x.1)&&(backToKw cpos (keywordEach [] X.env)).all (λx=>x.1.isSome)
  && decide (([e]:List Expr).length+([]:List Keyword).length+(if([]:List Keyword).isEmpty then 0 else 1)<30))=true
 line:(apos.endLine==cpos.line)=true
 trees:backTo cpos (starEach [e] X.env)=[(false,eval e X.env)]
structure M2(X:Cx) (o:Expr) (m:Str) (apos:Pos) (e f:Expr) (cpos:Pos):Prop where
 base:attributeBase o m X.env (eval o X.env)=eval o X.env
 Jb:((backTo cpos (starEach [e,f] X.env)).all (λx=>!x.1)&&(backToKw cpos (keywordEach [] X.env)).all (λx=>x.1.isSome)
  && decide (([e,f]:List Expr).length+([]:List Keyword).length+(if([]:List Keyword).isEmpty then 0 else 1)<30))=true
 line:(apos.endLine==cpos.line)=true
 trees:backTo cpos (starEach [e,f] X.env)=[(false,eval e X.env),(false,eval f X.env)]
def LZ(H:Hp)(a:Addr):Prop:=(∃kvs,Rd H a (.dK kvs))\/∃kvs,Rd H a (.dT kvs)
def z9(I:Inv X aa σ H s)(d:LZ H a) :
 s.TypeIs (.ref a) "dict"/\(∀b,Value.ref a=.ref b->∃ob,s.heap.get? b=some ob/\ob.dict=none)/\(a==sysModules)=false:=by
 rcases d with⟨kvs,e⟩|⟨kvs,e⟩
 .obtain⟨_,hd,vs,_,dd⟩:=kZ I.aG e;refine⟨dd.typeIs,λb q=>?_,hd⟩;cases q;obtain⟨ob,_,_,h1,h2,_⟩:=dd;exact⟨ob,h1,h2.2.1⟩
 .obtain⟨_,hd,xs,_,dd⟩:=k7 I.aG e;refine⟨dd.typeIs,λb q=>?_,hd⟩;cases q;obtain⟨ob,_,_,h1,h2,_⟩:=dd;exact⟨ob,h1,h2.2.1⟩
section
def GL(hu:A.units+1<cLine)(I:Inv X aa σ H s)(g:yo H a y o)(ry:RelV y u)(rd:RelV d r)(h:∀w' s',Inv X aa σ H s'->RelV (o.getD d) w'->Q w' s') :
 wpAny (model X.prog X.w) A (call (.builtin "dict.get") [.ref a,u,r]) Q E s:=by
 rcases g with⟨kvs,k,e,ey,l⟩|⟨kvs,k,b,e,ey,eb,l⟩
 .subst ey;obtain⟨z,hd,vs,rel,dd⟩:=kZ I.aG e;refine QL Pg dd.typeIs PQ (Py _ _ _) (meets_dict_get_default (aq X.prog X.w) a (mQ ry) hd r) ⟨_,dd.mapOf,h _ _ (I.tok _) ?_⟩;rw[l];exact(rel.val k).getD rd
 .subst ey;cases(show u=Value.ref b from ry);obtain⟨z,hd,xs,rel,dd⟩:=k7 I.aG e;refine QL Pg dd.typeIs PQ (Py _ _ _) (meetsH_dict_get_default (tupleKind (aq X.prog X.w)) a b hd r) ⟨Pf hu,k,xs,eL I.aG eb,dd,h _ _ (I.tok _) ?_⟩;rw[l];exact(rel.val k).getD rd
end
end L2
namespace Att
open PySem PySem.W PySem.Calls PyProof.Rows
def lS:∀(ns:List Int)(vs:List Rz),WellAll P h vs (ns.map WData.int)->IntsAre vs ns:=by
 intro ns;induction ns with
 |nil=>intro vs w;rw[Q8]at w;cases w;exact .nil
 |cons n ns ih=>
  intro vs w;rw[fV]at w;cases w with
  |cons a b=>cases a;exact .cons _ _ (ih _ b)
def yq{l:OpenLaw}{n:Nat}(hn:l.most=some n){P:Params}
 (hpre:l.row.toRowW.claim.pre args=true) (hwl:WellAll P h vals args) :
 ∃a vs ns,vals=[Value.ref a]/\args=[WData.list (ns.map WData.int)]/\h.get? a=some { cls:=.type "list",data:=.seq vs.toArray }/\IntsAre vs ns/\ns.length<=n:=by
 have hsh:WShape.hasAll [] args [.list .int]=true:=(pre_splitW hpre).1;have hc:l.pre.holds [] {args:=args}=true:=(pre_splitW hpre).2;obtain⟨d,r,rfl,h1,h2⟩:=hasAllW_cons hsh;obtain rfl:=hasAllW_nil h2;obtain⟨xs,rfl,h3⟩:=hasW_list h1;obtain⟨ns,rfl⟩:=items_int h3;have bN:ns.length<=n:=by
  unfold OpenLaw.pre at hc;have h4:(WTm.not (.lt (.lit (.int (n:Int))) (.len (.arg 0)))).holds [] {args:=[.list (ns.map .int)]}=true:=by have h4:=(holds_andW hc).1;rw[hn]at h4;exact h4
  have h5:=condW_of h4 (w_not (w_lt w_lit (w_len_list (w_arg rfl))))
  grind
 cases hwl with
 |cons w1 w2=>
  cases w2;cases w1 with
  |list ho hall=>exact⟨_,_,ns,rfl,rfl,ho,lS ns _ hall,bN⟩
def yr(l:OpenLaw)(args:List WData):l.row.toRowW.claim.post args (.bool true) args=true:=
 postW_of (r:=l.row.toRowW) (X:=(true==true))
  (show WShape.has [] (.bool true) .bool=true by first|rfl|decide|simp[WShape.has,WShape.arms,WShape.armsAll])
  (show(WTm.eq .res (.lit (.bool true))).value [] {args:=args,res:=some (.bool true),after:=args}=some (.bool (true==true))from w_eq_bool (w_res rfl) w_lit) rfl
def attach_call{l:OpenLaw}{n:Nat}{XP:(Str->Option Rz)->Heap->Prop}{YP:World->Heap->Prop}
 (hn:l.most=some n) (hdf:d.params.defaults=[])
 (call:∀(w:World)(s₀ s₁:Rv)(mg mb:Str->Option Rz)(fa:Addr)(o:Obj)(pm cd doc:Rz)(a:Addr)(vs:List Rz)(ns:List Int),
   Ground q loose [] XP w s₀ mg mb s₁.heap->YP w s₁.heap->
   s₁.heap.get? fa=some o->o.data=.func (docDef d.name d.params d.body d.scope pm cd doc)->s₁.heap.CodeRec cd d.name->mg d.name=some (.ref fa)->
   s₁.heap.get? a=some { cls:=.type "list",data:=.seq vs.toArray }->IntsAre vs ns->ns.length<=n->s₁.gens=#[]->
   codeAny (model l.prog w) callerA (.call (.ref fa) ⟨[.ref a],[]⟩) (λr s'=>r=.ok (.ret (.bool true))/\OldK s₁.heap s'.heap/\s'.os=s₁.os/\AllBare s'.gens) s₁) :
 WalkO q loose XP YP l.row.toRowW d [] (λf vs=>PySem.call f vs):=by
 intro w s₀ s₁ mg mb G Y fa o pm cd doc dV kV ho hd hcd hD hmg hg args vals as hpre hlay hrd hwl hlo;obtain rfl:dV=.none:=Dflts.none hD hdf;obtain rfl:kV=.none:=Dflts.noKw hD;obtain⟨a,vs,ns,rfl,rfl,hobj,hints,bN⟩:=yq hn hpre hwl;refine enter_call (Q6 (call w s₀ s₁ mg mb fa o pm cd doc a vs ns G Y ho (fd_plain hd) hcd hmg hobj hints bN hg) λr s' hq=>?_);obtain⟨rfl,h2,h3,h4⟩:=hq;exact⟨.inl ⟨.bool true,.bool true,[],rfl,λ_=>rfl,.bool true,yr l _,λ_=>⟨List.Pairwise.nil,λ_ hm=>(nomatch hm)⟩⟩,h2,h3,h4⟩
end Att
namespace L2
open PySem PySem.Spec PyProof.Rows
noncomputable def aY(s:Stmt):Arguments:=match s with
 |.FunctionDef _ a _ _ _ _ _ _ _ _=>a
 |_=>{posonlyargs:=[],args:=[],vararg:=none,kwonlyargs:=[],kw_defaults:=[],kwarg:=none,defaults:=[]}
noncomputable def aO(s:Stmt):List Stmt:=match s with
 |.FunctionDef _ _ b _ _ _ _ _ _ _=>b
 |_=>[]
noncomputable def ao(s:Stmt):Scope:=match s with
 |.FunctionDef _ _ _ _ _ _ sc _ _ _=>sc
 |_=>{kind:=.function,names:=[],isGenerator:=false,isCoroutine:=false}
noncomputable abbrev oz:CH:=λ_ _ _ _ _ _=>False
noncomputable abbrev E0:XK:=λ_ _ _=>False
def JZ:ke oz X E0:=λ_ _ _ _ _ _ _ h=>h.elim
structure F_(K:Rx) (x qual:Str) (st:Stmt) (f:Addr) (fd:FuncData):Prop where
 ex:∃(oc:Rz)(od:Option Addr)(kV doc pm:Rz)(an:Option Addr)(cdv ct:Rz)(osl:Array (Option Rz)),
  fd=fnOf x qual (aY st) (aO st) (ao st) .none kV doc pm an cdv ct/\K.lookup f=some ⟨oc,od,.func fd,osl⟩/\codeIn K cdv qual=true
 kp:keepIn K (.ref f)=true
section
variable{P:Ry}{w:World}{K:Rx}{mg:Str->Option Rz}{base:Heap}
def F_.ok{x qual:Str}{st:Stmt}{f:Addr}{fd:FuncData}{N ps:List Str}{k:Nat}{sp:Sp}(F:F_ K x qual st f fd)(S:bt N ps (ao st))(len:∀vs H Q E,sp vs H Q E->vs.length=ps.length)
 (hbody:∀(cdv:Rz)(A:RA)(outer:List Env)(s:Rv)(H:Hp)(vs:List V)(Q:VK)(E:XK),gC k (A.deeper (envOfC qual (ao st) s.heap.objs.size f cdv))->sp vs H Q E->
   ∃t,PSs (uQ oz P w K mg base N qual (ao st) f cdv A outer s H E).LM (aO st) t/\t {nx:=λ_ H'=>Q .fU H',rt:=Q} (fZ N vs) H):cS P w K mg base oz (k+1) f fd ps sp:=by
 obtain⟨oc,od,kV,doc,pm,an,cdv,ct,osl,rfl,lk,hcd⟩:=F.ex;refine JS lk hcd S len λA outer s H vs Q E hr hsp=>?_;obtain⟨t,h,q⟩:=hbody cdv A outer s H vs Q E hr hsp;exact⟨t,h.LM,q⟩
def F_.binds{x qual:Str}{st:Stmt}(F:F_ K x qual st f fd)
 (h:∀(kV doc pm:Rz)(an:Option Addr)(cdv ct:Rz)(us:List Rz),us.length=ps.length->bindArgs (fnOf x qual (aY st) (aO st) (ao st) .none kV doc pm an cdv ct) ⟨us,[]⟩=pure (ps.zip us)):Binds K fd ps []:=by
 obtain⟨oc,od,kV,doc,pm,an,cdv,ct,osl,rfl,lk,hcd⟩:=F.ex;exact .all (h kV doc pm an cdv ct)
def GM{x qual:Str}{st:Stmt}{f:Addr}{oc:Rz}{od an:Option Addr}{osl:Array (Option Rz)}{kV doc pm cdv ct:Rz}(l:K.lookup f=some ⟨oc,od,.func (fnOf x qual (aY st) (aO st) (ao st) .none kV doc pm an cdv ct),osl⟩)
 (c:codeIn K cdv qual=true) (k:keepIn K (.ref f)=true):F_ K x qual st f (fnOf x qual (aY st) (aO st) (ao st) .none kV doc pm an cdv ct):=⟨⟨oc,od,kV,doc,pm,an,cdv,ct,osl,rfl,l,c⟩,k⟩
end
section
def pv(i:Nat)(hN:autoParam (X.N[i]?=some x) RJ)(hv:autoParam (Jx X.env.scope x) RD._auto_1)(hd:autoParam (dB x) ab)
 (hcd:autoParam ((x==("__classdict__" : Str))=false) ab):PE X (.Name x pos) (bY i):=Gg hN hv hd hcd
end
def uU{A B:Prop}(h:B):if false=true then A else B:=by rw[cO Pe];exact h
def uV{A B:Prop}(h:A):if true=true then A else B:=by rw[ck rfl];exact h
def Same(H H':Hp):Prop:=∀b o,H b=some o->H' b=some o
def Same.refl(H:Hp):Same H H:=λ_ _ h=>h
def Same.trans(a:Same H H1)(b:Same H1 H2):Same H H2:=λc o h=>b c o (a c o h)
def Same.free(e:Same H H')(h:H' l=Option.none):H l=Option.none:=by
 cases q:H l with
 |none=>rfl
 |some o=>rw[e l o q]at h;cases h
abbrev TX:=St->Hp->VK->XK->Prop
end L2
namespace L2
open PySem PySem.Spec PySem.Calls PyProof.Rows
section
variable{prog:Ry}{w:World}
abbrev tK(prog:Ry)(w:World):=tupleKind (aq prog w)
def qo(x:(tK prog w).is h k a)(e:∀b o,h.get? b=some o->h'.get? b=some o):(tK prog w).is h' k a:=by obtain⟨o,items,n,h1,r⟩:=x;exact⟨o,items,n,e _ _ h1,r⟩
end
section
def Inv.Nt(I:Inv X aa σ H s)(e:H a=some (.dT [])):Inv X aa σ (aC H a (.dK [])) s:=by
 obtain⟨z,y,xs,r,o,es,ep,h1,h2,h3,h4,h5⟩:=(show ObjOk X.prog X.w H s.heap a (.dT [])from I.aG a _ e);cases r;exact I.write (x:=a) (e:=a) (t':=s.toks) (h':=s.heap) (by rw[e];exact True.intro) (.inl rfl) (λb u _ q=>q) ⟨o,h1⟩ ⟨z,y,[],.nil,o,es,ep,h1,h2,h3,by
  have e:es=#[]:=by simpa using h4
  subst e;intro x hx;simp at hx,by
  have e:es=#[]:=by simpa using h4
  subst e;constructor,Pj⟩
def Inv.LR(I:Inv X aa σ H s)(e:H a=some (.dK [])):Inv X aa σ (aC H a (.dT [])) s:=by
 obtain⟨z,y,vs,r,o,es,ep,h1,h2,h3,h4,h5⟩:=(show ObjOk X.prog X.w H s.heap a (.dK [])from I.aG a _ e);cases r;exact I.write (x:=a) (e:=a) (t':=s.toks) (h':=s.heap) (by rw[e];exact True.intro) (.inl rfl) (λb u _ q=>q) ⟨o,h1⟩ ⟨z,y,[],.nil,o,es,ep,h1,h2,h3,(by
  generalize es.toList=l at h5;obtain⟨h5,_⟩:=h5;cases l with
  |nil=>rfl
  |cons x r=>cases h5),Pj⟩
end
def oZ(H:Hp)(a:Addr)(y:V)(r:Option V):Prop:=yo H a y r\/(Rd H a (.dT [])/\(∃k,y=kV k)/\r=none)\/(Rd H a (.dK [])/\(∃(b:Addr)(k:List bu),y=.ref b/\H b=some (.tup (k.map kV)))/\r=none)
def Fg(H:Hp)(a:Addr)(y v:V)(H':Hp):Prop:=DPut H a y v H'\/(H a=some (.dT [])/\∃k,y=kV k/\H'=aC H a (.dK [(k,v)]))\/(H a=some (.dK [])/\∃(b:Addr)(k:List bu),y=.ref b/\H b=some (.tup (k.map kV))/\H'=aC H a (.dT [(k,v)]))
section
def mR(x:ObjOk P w H h a (.dT [])):(a==sysModules)=false/\h.DictOf (aq P w) a []:=by
 obtain⟨z,y,xs,r,o,es,ep,h1,h2,h3,h4,h5⟩:=x;cases r;have e:es=#[]:=by grind
 subst e;exact⟨y,o,#[],ep,h1,h2,h3,λx hx=>by simp at hx,by constructor,Pj⟩
def z_(x:ObjOk P w H h a (.dK [])):(a==sysModules)=false/\h.DictOfH (tupleKind (aq P w)) a []:=by
 obtain⟨z,y,vs,r,o,es,ep,h1,h2,h3,h4,h5⟩:=x;cases r;refine⟨y,o,es,ep,h1,h2,h3,?_,λx hx=>(nomatch hx),Pj⟩;generalize es.toList=l at h5;obtain⟨h5,_⟩:=h5;cases l with
 |nil=>rfl
 |cons x r=>cases h5
def J1(hu:A.units+1<cLine)(I:Inv X aa σ H s)(g:oZ H a y o)(ry:RelV y u)(h:∀s',Inv X aa σ H s'->Q (.bool o.isSome) s') :
 wpAny (model X.prog X.w) A (compareOp .In u (.ref a)) Q E s:=by
 rcases g with g|⟨e,⟨k,rfl⟩,rfl⟩|⟨e,⟨b,k,rfl,eb⟩,rfl⟩
 .exact ME hu I g ry h
 .obtain⟨y,dd⟩:=mR (e.ok I.aG);exact wpAny_in_of (mQ ry) y dd.mapOf (h _ (I.tok _))
 .obtain rfl:u=Value.ref b:=ry;obtain⟨y,dd⟩:=z_ (e.ok I.aG);exact wpAny_in_heap (Pf hu) (eL I.aG eb) y dd (h _ (I.tok _))
def uW(hu:A.units+1<cLine)(I:Inv X aa σ H s)(g:Fg H a y v H')(ry:RelV y u)(rv:RelV v r)(h:∀s',Inv X aa σ H' s'->Q () s') :
 wpAny (model X.prog X.w) A (setItem (.ref a) u r) Q E s:=by
 rcases g with g|⟨e,k,rfl,rfl⟩|⟨e,b,k,rfl,eb,rfl⟩
 .exact kh hu I g ry rv h
 .refine kh hu (I.Nt e) (DPut.k (kvs:=[]) (k:=k) (v:=v) ag (by decide)) ry rv λs' I'=>?_;rw[wd]at I';exact h s' I'
 .refine kh hu (I.LR e) (DPut.t (kvs:=[]) (k:=k) (v:=v) ag (by rw[af (rX eb e (λz=>nomatch z))];exact eb) (by decide)) ry rv λs' I'=>?_;rw[wd]at I';exact h s' I'
end
section
noncomputable def Aa(td ty tv:TE):TS:=λD σ H=>tv σ H λv H1=>td σ H1 λx H2=>ty σ H2 λy H3=>∃a H4,x=.ref a/\Fg H3 a y v H4/\D.nx σ H4
def Ac(hu:X.A.units+1<cLine)(ho:PE X o td)(hi:PE X i ty)(hv:PE X value tv)(hs:swapsWith value (some (.Subscript o i pos')) pos.line X.env=pure false) :
 PS X (.Assign [.Subscript o i pos'] value pos) (Aa td ty tv):=by
 intro aa s σ H D I h;refine wpAny_Assign_Subscript (bV (hv aa s σ H _ I h) λr s1 ⟨v,H1,I1,rv,q1⟩=>bV (ho aa s1 σ H1 _ I1 q1) λu s2 ⟨x,H2,I2,rx,q2⟩=>bV (hi aa s2 σ H2 _ I2 q2) λiv s3 ⟨y,H3,I3,ry,a,H4,ex,g,q3⟩=>?_) hs;subst ex;obtain rfl:u=Value.ref a:=rx;exact uW hu I3 g ry rv λs4 I4=>⟨σ,H4,I4,q3⟩
end
section
def C5(hu:A.units+1<cLine)(I:Inv X aa σ H s)(g:oZ H a y o)(ry:RelV y u)(rd:RelV d r)(h:∀w' s',Inv X aa σ H s'->RelV (o.getD d) w'->Q w' s') :
 wpAny (model X.prog X.w) A (call (.builtin "dict.get") [.ref a,u,r]) Q E s:=by
 rcases g with g|⟨e,⟨k,rfl⟩,rfl⟩|⟨e,⟨b,k,rfl,eb⟩,rfl⟩
 .exact GL hu I g ry rd h
 .obtain⟨y,dd⟩:=mR (e.ok I.aG);exact QL Pg dd.typeIs PQ (Py _ _ _) (meets_dict_get_default (aq X.prog X.w) a (mQ ry) y r) ⟨_,dd.mapOf,h _ _ (I.tok _) rd⟩
 .obtain rfl:u=Value.ref b:=ry;obtain⟨y,dd⟩:=z_ (e.ok I.aG);exact QL Pg dd.typeIs PQ (Py _ _ _) (meetsH_dict_get_default (tupleKind (aq X.prog X.w)) a b y r) ⟨Pf hu,k,[],eL I.aG eb,dd,h _ _ (I.tok _) rd⟩
end
noncomputable def C6(td ty tx:TE):TE:=λσ H Q=>td σ H λx H1=>∃a,x=.ref a/\LZ H1 a/\ty σ H1 λy H2=>tx σ H2 λz H3=>∃o,oZ H3 a y o/\Q (o.getD z) H3
section
def yt(hu:X.A.units+1<cLine)(ho:PE X o td)(he:PE X e ty)(hf:PE X f tx)(m:M2 X o "get" apos e f cpos):PE X (.Call (.Attribute o "get" apos) [e,f] [] cpos) (C6 td ty tx):=by intro aa s σ H Q I h;refine wpAny_Call_method m.base m.Jb m.line Pz Pg PySem.F.type_dict_get (bV (ho aa s σ H _ I h) λu s1 ⟨x,H1,I1,rx,a,ex,d,q1⟩=>?_);subst ex;obtain rfl:u=Value.ref a:=rx;obtain⟨t1,t2,_⟩:=z9 I1 d;refine⟨t1,t2,?_⟩;rw[m.trees];refine Qx rfl (Calls.evalArgs_plain (Calls.spliced_cons (bV (he aa s1 σ H1 _ I1 q1) λiv s2 ⟨y,H2,I2,ry,q2⟩=>Calls.spliced_cons (bV (hf aa s2 σ H2 _ I2 q2) λfv s3 ⟨z,H3,I3,rz,ov,g,q3⟩=>Calls.spliced_nil ?_))));exact C5 hu I3 g ry rz λw' s4 I4 rw'=>⟨_,H3,I4,rw',q3⟩
end
noncomputable def fE:HO->Prop
 |.dK _=>True
 |.dT _=>True
 |_=>False
section
def Inv.view(I:Inv X aa σ H s)(hn:∀b,H b=none->H' b=none)(ht:∀b xs,H b=some (.tup xs)->H' b=some (.tup xs))(hf:∀b o u,X.H₀ b=some (.az o u)->H' b=some (.az o u))
 (hb:∀b ps,H b=some (.uC ps)->H' b=some (.uC ps)) (aG:HOk X.prog X.w H' s.heap):Inv X aa σ H' s where
 ok:=I.ok
 os:=I.os
 bare:=I.bare
 base:=⟨I.base.keep,I.base.slot,λb o e n hx=>hn b (I.base.free b o e n hx),I.base.there,λb xs e=>ht b xs (I.base.oo b xs e),hf,λb ps e=>let ⟨m,q⟩:=I.base.uD b ps e;⟨m,hb b _ q⟩⟩
 loc:=I.loc
 cell:=I.cell
 free:=hn _ I.free
 gw:=λx c e=>hn c (I.gw x c e)
 pin:=λp hp=>let ⟨a,b,c⟩:=I.pin p hp;⟨a,hn _ b,c⟩
 aG:=aG
 len:=I.len
def wx(ok:HOk P w H h)(hd:∃u,H d=some u/\(∀y,u≠.own y)/\∀xs,u≠.tup xs)(new:ObjOk P w (aC H d u') h d u'):HOk P w (aC H d u') h:=λb v e=>by
 obtain⟨u,hu,h1,h2⟩:=hd;by_cases hb:b=d
 .subst hb;rw[ag]at e;cases e;exact new
 .rw[af hb]at e;refine(ok b v e).stay (λ_ _ _ q=>q) (λc q=>?_) λc xs q=>?_
  .rw[af]
   .exact q
   .rintro rfl;rw[hu]at q;cases q;exact h1 _ rfl
  .rw[af]
   .exact q
   .rintro rfl;rw[hu]at q;cases q;exact h2 _ rfl
def wy(h:fE u):(∀y,u≠.own y)/\(∀xs,u≠.tup xs)/\(∀ps,u≠.uC ps)/\∀o v,u≠.az o v:=by cases u<;>first|exact h.elim|exact⟨λ_ z=>(nomatch z),λ_ z=>(nomatch z),λ_ z=>(nomatch z),λ_ _ z=>(nomatch z)⟩
def o5(hu:fE u)(x:ObjOk P w H h d u)(ht:∀b xs,H b=some (.tup xs)->H' b=some (.tup xs)):ObjOk P w H' h d u:=by
 cases u with
 |dK kvs=>exact x
 |dT kvs=>obtain⟨z,y,xs,r,q⟩:=x;exact⟨z,y,xs,Paired.Ja r λp q z=>⟨z.1,ht _ _ z.2.1,z.2.2⟩,q⟩
 |_=>exact hu.elim
theorem Inv.az(I:Inv X aa σ H s)(e:H d=some u)(hu:fE u)(ho:s.heap.get? d=some o):Inv X aa σ (aC H d (.az o u)) s:=by
 obtain⟨n1,n2,n3,n4⟩:=wy hu;have ht:∀b xs,H b=some (.tup xs)->aC H d (.az o u) b=some (.tup xs):=λb xs q=>by
  rw[af]
  .exact q
  .rintro rfl;rw[e]at q;cases q;exact n2 _ rfl
 refine I.view (λb hb=>?_) ht (λb o' u' q=>?_) (λb ps q=>?_) (wx I.aG ⟨u,e,n1,n2⟩ ⟨ho,o5 hu (I.aG d u e) ht⟩)
 .rw[af]
  .exact hb
  .rintro rfl;rw[e]at hb;cases hb
 .have q:=I.base.l_ b o' u' q;rw[af]
  .exact q
  .rintro rfl;rw[e]at q;cases q;exact n4 _ _ rfl
 .rw[af]
  .exact q
  .rintro rfl;rw[e]at q;cases q;exact n3 _ rfl
def Inv.F8(I:Inv X aa σ H s)(e:H d=some u)(hu:fE u):∀o v,X.H₀ d≠some (.az o v):=λo v q=>by have:=I.base.l_ d o v q;rw[e]at this;cases this;exact(wy hu).2.2.2 _ _ rfl
def Inv.x9(I:Inv X aa σ H s)(e:H d=some (.az o u))(hu:fE u)(hn:∀o v,X.H₀ d≠some (.az o v)):Inv X aa σ (aC H d u) s:=by
 have ht:∀b xs,H b=some (.tup xs)->aC H d u b=some (.tup xs):=λb xs q=>by
  rw[af]
  .exact q
  .rintro rfl;rw[e]at q;cases q
 have x:ObjOk X.prog X.w H s.heap d u:=(show ObjOk X.prog X.w H s.heap d (.az o u)from I.aG d _ e).2;refine I.view (λb hb=>?_) ht (λb o' u' q=>?_) (λb ps q=>?_) (wx I.aG ⟨_,e,λ_ z=>(nomatch z),λ_ z=>(nomatch z)⟩ (o5 hu x ht))
 .rw[af]
  .exact hb
  .rintro rfl;rw[e]at hb;cases hb
 .have q2:=I.base.l_ b o' u' q;rw[af]
  .exact q2
  .rintro rfl;exact hn _ _ q
 .rw[af]
  .exact q
  .rintro rfl;rw[e]at q;cases q
end
def Fh(d:Addr)(o:Obj)(u:HO)(kvs:List (bu×V)):It:=⟨λi H=>H d=some (.az o u)/\i<kvs.length,λi H x H'=>H'=H/\∃k v,kvs[i]?=some (k,v)/\x=kV k,λi H=>H d=some (.az o u)/\kvs.length<=i⟩
def wz(h:(aq P w).is k u=true):RelV (kV k) u:=by
 rcases aH (show gO k u=true from h)with⟨i,t,rfl,rfl⟩|⟨x,t,rfl,rfl⟩
 .exact⟨t,rfl⟩
 .exact⟨t,rfl⟩
def sv{P:Ry}{w:World}{h h':Heap}(x:h.DictAt (aq P w) d vs ep)(e:h.get? d=some o)(e':h'.get? d=some o):h'.DictAt (aq P w) d vs ep:=by obtain⟨o',es,ho,r⟩:=x;rw[e]at ho;cases ho;exact⟨o,es,e',r⟩
def yu{P:Ry}{w:World}{K:Rx}{tg:Expr}{d it:Addr}{o:Obj}{u0:HO}{kvs:List (bu×V)}{vs:List (bu×Rz)}{ep:Nat}{h0:Heap}(rel:KV kvs vs)(x0:h0.DictAt (aq P w) d vs ep)(e0:h0.get? d=some o) :
 Turn P w K tg (Fh d o u0 kvs) [it] it (λi h=>h.IsKeyIter it d i vs.length ep) where
 mem:=by simp
 obj:=λi h st b hb=>by
  have e:b=it:=by simpa using hb
  subst e;obtain⟨o,e,c,q⟩:=st;exact⟨o,e,λv z=>by rw[q]at z;cases z⟩
 keep:=λi h h' st k=>st.at λo e=>k it (by simp) o e
 item:=by
  intro X hP hw hK hc i aa s σ H E I hf st hg;subst hP hw hK;obtain⟨hd,hi⟩:=hg;obtain⟨eo,_⟩:=(show ObjOk X.prog X.w H s.heap d (.az o u0)from I.aG d _ hd);have x1:=sv x0 e0 eo;obtain⟨f0,f1,f2,f3,f4,f5⟩:=hf it (by simp);have hiv:i<vs.length:=by rw[<- rel.length];exact hi
  have rg:∃k v u,kvs[i]?=some (k,v)/\vs[i]?=some (k,u):=by
   have hk:kvs[i]?=some kvs[i]:=by simp[hi]
   have hv:vs[i]?=some vs[i]:=by simp[hiv]
   have key:∀{a:List (bu×V)}{b:List (bu×Rz)},KV a b->∀(i:Nat) p q,a[i]?=some p->b[i]?=some q->p.1=q.1:=by
    intro a b r;induction r with
    |nil=>intro i p q e;simp at e
    |cons hq t ih=>
     intro i p q e1 e2;cases i with
     |zero=>simp at e1 e2;subst e1 e2;exact hq.1
     |succ i=>exact ih i p q (by simpa using e1) (by simpa using e2)
   have:=key rel i _ _ hk hv;exact⟨kvs[i].1,kvs[i].2,vs[i].2,hk,by rw[hv,this]⟩
  obtain⟨k,v,uv,h1,h2⟩:=rg;refine wpAny_pyNext_dict_item st x1 h2 λkey h' l9 st' sb=>?_;have I1:Inv X aa σ H {s with heap:=h'}:=I.turned (t':=s.toks) (λb o hb e=>(sb.2 b hb).trans e) f0 f1 f3 f4 f5;obtain⟨oi,e,c,q⟩:=id st';exact⟨key,rfl,sh (s:={s with heap:=h'}) e c q (by decide) ⟨kV k,H,I1,wz l9,⟨rfl,k,v,h1,rfl⟩,st',λb hb=>(hf b hb).1⟩⟩
 done:=by intro X hP hw hK hc i aa s σ H E I hf st hg;subst hP hw hK;obtain⟨hd,hi⟩:=hg;obtain⟨eo,_⟩:=(show ObjOk X.prog X.w H s.heap d (.az o u0)from I.aG d _ hd);have x1:=sv x0 e0 eo;obtain⟨f0,f1,f2,f3,f4,f5⟩:=hf it (by simp);have hl:=rel.length;exact wpAny_pyNext_dict_end (I.ok.hd hc) st x1 (by simp;lia) λh' eb=>⟨rfl,I.turned (t':=s.toks) (λb o hb e=>eb b o hb e) f0 f1 f3 f4 f5⟩
 self:=λ_ _ _ _ _ st h=>wpAny_pyIter_keyiter st h
section
def J2(X:Cx)(tl:TE):TI:=λσ H R=>tl σ H λx H1=>∃d kvs u,x=.ref d/\(u=.dK kvs\/(u=.dT []/\kvs=[]))/\((∃o,H1 d=some (.az o u)/\R (Fh d o u kvs) H1)\/(H1 d=some u/\∀o,(∀o' v,X.H₀ d≠some (.az o' v))->R (Fh d o u kvs) (aC H1 d (.az o u))))
def wA{tl:TE}(hl:PE X l tl):PI X tg l (J2 X tl):=by
 intro aa s σ H R I h;refine bV (hl aa s σ H _ I h) λv s1 ⟨x,H1,I1,r1,q1⟩=>?_;obtain⟨d,kvs,u,e,hu,q⟩:=q1;subst e;cases r1;have gs:fE u:=by rcases hu with rfl|⟨rfl,_⟩<;>exact True.intro
 have fin:∀(o:Obj)(H2:Hp),Inv X aa σ H2 s1->H2 d=some (.az o u)->R (Fh d o u kvs) H2->wX X (pyIter (.ref d)) (JJ X aa σ tg R) X.xe s1:=λo H2 I2 e2 q2=>by
  obtain⟨eo,hx⟩:=(show ObjOk X.prog X.w H2 s1.heap d (.az o u)from I2.aG d _ e2);have key:(d==sysModules)=false/\∃vs,KV kvs vs/\s1.heap.DictOf (aq X.prog X.w) d vs:=by
   rcases hu with rfl|⟨rfl,rfl⟩
   .obtain⟨z,hd,vs,rel,dd⟩:=hx;exact⟨hd,vs,rel,dd⟩
   .obtain⟨hd,dd⟩:=mR hx;exact⟨hd,[],.nil,dd⟩
  obtain⟨hd,vs,rel,dd⟩:=key;obtain⟨ep,da⟩:=dd.dictAt;refine wpAny_pyIter_dict hd da ?_;refine⟨s1.heap.objs.size,[s1.heap.objs.size],_,_,H2,rfl,I2.kept (t':=s1.toks) λb o e=>cj _ e,yu rel da eo,⟨_,jY _ rfl,rfl,rfl⟩,λb hb=>?_,q2⟩;have e:b=s1.heap.objs.size:=by grind
  subst e;exact I2.oP (cN _) (I2.aG.fresh (cN _))
 rcases q with⟨o,e1,q⟩|⟨e1,q⟩
 .exact fin o H1 I1 e1 q
 .have hob:∃o,s1.heap.get? d=some o:=by
   rcases hu with rfl|⟨rfl,_⟩
   .obtain⟨_,_,_,_,o,_,_,ho,_⟩:=(show ObjOk X.prog X.w H1 s1.heap d (.dK kvs)from I1.aG d _ e1);exact⟨o,ho⟩
   .obtain⟨_,_,_,_,o,_,_,ho,_⟩:=(show ObjOk X.prog X.w H1 s1.heap d (.dT [])from I1.aG d _ e1);exact⟨o,ho⟩
  obtain⟨o,ho⟩:=hob;exact fin o _ (I1.az e1 gs ho) ag (q o (I1.F8 e1 gs))
def unD(X:Cx)(D:Ends):Ends where
 nx:=λσ H=>D.nx σ H\/∃d o u,H d=some (.az o u)/\fE u/\(∀o v,X.H₀ d≠some (.az o v))/\D.nx σ (aC H d u)
 rt:=D.rt
 bk:=D.bk
 ct:=D.ct
def GN{st:Stmt}(h:PS X st t):PS X st (λD σ H=>t (unD X D) σ H):=by
 intro aa s σ H D I q;refine bV (h aa s σ H _ I q) λf s' r=>?_;cases f with
 |next=>
  obtain⟨σ',H',I',r⟩:=r;rcases r with r|⟨d,o,u,e,hu,hn,r⟩
  .exact⟨σ',H',I',r⟩
  .exact⟨σ',_,I'.x9 e hu hn,r⟩
 |_=>exact r
end
noncomputable def MF(K:Rx)(a:Addr)(n:Nat):It:=⟨λi H=>∃xs,SqL K H a xs/\xs.length=n/\i<n,λi H x H'=>H'=H/\∀xs,SqL K H a xs->xs[n-1-i]?=some x,λi H=>n<=i⟩
def Ad{K:Rx}{tg:Expr}(a it:Addr)(n:Nat):Turn P w K tg (MF K a n) [it] it (λi h=>i<=n/\h.IsRevIter it a ((n:Int)-1-i)) where
 mem:=by simp
 obj:=λi h st b hb=>by
  have e:b=it:=by simpa using hb
  subst e;obtain⟨_,o,e,c,d⟩:=st;exact⟨o,e,λv z=>by rw[d]at z;cases z⟩
 keep:=λi h h' st k=>⟨st.1,st.2.at λo e=>k it (by simp) o e⟩
 item:=by
  intro X hP hw hK hc i aa s σ H E I hf st hg;subst hP hw hK;obtain⟨xs,hq,hn,hi⟩:=hg;obtain⟨its,rv,p,hz⟩:=I.list hq;have hx:xs[n-1-i]?=some xs[n-1-i]:=by simp[show n-1-i<xs.length by lia]
  obtain⟨u,hu,ru⟩:=rv.get hx;obtain⟨f0,f1,f2,f3,f4,f5⟩:=hf it (by simp);have ei:(n:Int)-1-i=((n-1-i:Nat):Int):=by lia
  have st2:=st.2;rw[ei]at st2;refine wpAny_pyNext_rev_item st2 p.isList (x:=u) (by simpa using hu) λh' st' sb=>?_;have I1:Inv X aa σ H {s with heap:=h'}:=I.turned (t':=s.toks) (λb o hb e=>(sb.2 b hb).trans e) f0 f1 f3 f4 f5;obtain⟨o,e,c,d⟩:=id st';have e2:((n-1-i:Nat):Int)-1=(n:Int)-1-((i+1:Nat):Int):=by lia
  exact⟨u,rfl,sh (s:={s with heap:=h'}) e c d (by decide) ⟨xs[n-1-i],H,I1,ru,⟨rfl,λys hy=>by rw[I.uE hy hq];exact hx⟩,⟨by lia,by rw[<- e2];exact st'⟩,λb hb=>(hf b hb).1⟩⟩
 done:=by intro X hP hw hK hc i aa s σ H E I hf st hg;subst hP hw hK;obtain⟨f0,f1,f2,f3,f4,f5⟩:=hf it (by simp);have hin:i=n:=Nat.le_antisymm st.1 hg;have st2:=st.2;rw[hin,show(n:Int)-1-(n:Nat)=-1 by lia]at st2;exact wpAny_pyNext_rev_end (I.ok.hd hc) st2 λh' eb=>⟨rfl,I.turned (t':=s.toks) (λb o hb e=>eb b o hb e) f0 f1 f3 f4 f5⟩
 self:=λ_ _ _ _ _ st h=>wpAny_pyIter_revIter st.2 h
section
variable{X:Cx}{tg:Expr}
def J3(K:Rx)(ta:TA):TI:=λσ H R=>ta σ H λvs H1=>∃a xs,vs=[.ref a]/\SqL K H1 a xs/\R (MF K a xs.length) H1
def Ae{ta:TA}{p pos:Pos}(hg:Gl X "reversed") (hm:X.mg "reversed"=none) (ha:PA X [l] ta) (hs:autoParam (starEach [l] X.env=[(false,eval l X.env)]) RJ):PI X tg (.Call (.Name "reversed" p) [l] [] pos) (J3 X.K ta):=by
 intro aa s σ H R I h;refine Call_ (mK I hg hm boot_reversed (PX (bV (ha pos aa s σ H _ I h) λus s1 ⟨vs,H1,I1,r1,q1⟩=>?_) hs rfl));obtain⟨a,xs,rfl,hq,q⟩:=q1;obtain⟨u,rfl,ru⟩:=eJ r1;obtain rfl:u=Value.ref a:=ru;obtain⟨its,rv,pl,hz⟩:=I1.list hq;refine call_reversed_list pl.isList ?_;have hn:(its.toArray.size:Int)-1=(xs.length:Int)-1-((0:Nat):Int):=by rw[cQ,<- rv.length];simp
 have st0:(s1.heap.push (revObj a ((its.toArray.size:Int)-1))).IsRevIter s1.heap.objs.size a ((xs.length:Int)-1-((0:Nat):Int)):=⟨_,jY _ rfl,rfl,by rw[<- hn];rfl⟩;refine wpAny_pyIter_revIter st0 ?_;refine⟨s1.heap.objs.size,[s1.heap.objs.size],_,_,H1,rfl,I1.kept (t':=s1.toks) λb o e=>cj _ e,Ad a _ xs.length,⟨N3 _,st0⟩,λb hb=>?_,q⟩;have e:b=s1.heap.objs.size:=by simpa using hb
 subst e;exact I1.oP (cN _) (I1.aG.fresh (cN _))
end
end L2
namespace ST
open PySem PySem.SetTable
noncomputable def st(m:Nat)(h:Int):Probe:={j:=bits h%(m+1),more:=runEnd m (bits h%(m+1))-bits h%(m+1),i:=bits h%(m+1),perturb:=bits h,dummy:=none}
noncomputable def rs(m:Nat)(p:Nat×Nat):Probe:={j:=p.1,more:=runEnd m p.1-p.1,i:=p.1,perturb:=p.2,dummy:=none}
noncomputable def uX(m:Nat)(p:Probe):Probe:=if p.more>0 then {p with j:=p.j+1,more:=p.more-1}else {p with j:=(leap m p.i p.perturb).1,more:=runEnd m (leap m p.i p.perturb).1-(leap m p.i p.perturb).1,i:=(leap m p.i p.perturb).1,perturb:=(leap m p.i p.perturb).2}
def uY(t:SetTable)(p:Probe):t.advance p=uX t.mask p:=rfl
def it(m:Nat):Nat->Probe->Probe
 |0,p=>p
 |n+1,p=>it m n (uX m p)
def eM(m:Nat):∀(a b:Nat)(p:Probe),it m (a+b) p=it m b (it m a p):=by intro a b;induction a<;>grind [it,uX]
def C7(m n:Nat)(p:Probe):it m (n+1) p=uX m (it m n p):=eM m n 1 p
structure Va(m:Nat) (p:Probe):Prop where
 i:p.i<=m
 more:p.more<=9
 j:p.j+p.more<=m
 q:p.perturb<2^64
 d:p.dummy=none
def qp(h:Int):bits h<2^64:=by
 unfold bits
 grind
def i_(m i:Nat)(h:i<=m):runEnd m i-i<=9/\i+(runEnd m i-i)<=m:=by unfold runEnd;split<;>lia
theorem Va.rs(h1:p.1<=m)(h2:p.2<2^64):Va m (rs m p):=⟨h1,(i_ m _ h1).1,(i_ m _ h1).2,h2,rfl⟩
theorem Va.st(m:Nat)(h:Int):Va m (st m h):=by have:bits h%(m+1)<=m:=Rl (Nat.mod_lt _ (Nat.succ_pos m));exact⟨this,(i_ m _ this).1,(i_ m _ this).2,qp h,rfl⟩
def qu(m i q:Nat):(leap m i q).1<=m:=by exact Rl (Nat.mod_lt _ (Nat.succ_pos m))
def uZ(m i q:Nat):(leap m i q).2=q/32:=rfl
theorem Va.uX(v:Va m p):Va m (uX m p):=by
 unfold ST.uX;split
 .exact⟨v.i,by dsimp only;have:=v.more;lia,by dsimp only;have:=v.j;lia,v.q,v.d⟩
 .have l:=qu m p.i p.perturb;exact⟨l,(i_ m _ l).1,(i_ m _ l).2,by dsimp only;rw[uZ];have:=v.q;have:=Nat.div_le_self p.perturb 32;lia,v.d⟩
theorem Va.it:∀{n:Nat}{p:Probe},Va m p->Va m (it m n p)
 |0,_,v=>v
 |n+1,_,v=>Va.it (n:=n) v.uX
def Va.ND(v:Va m p):p.j<=m:=by have:=v.j;lia
def ml:∀(k:Nat)(p:Probe),p.more=k->Va m p->it m (k+1) p=rs m (leap m p.i p.perturb):=by intro k;induction k<;>grind [Va,it,rs,uX]
noncomputable def lp(m:Nat):Nat->Nat×Nat->Nat×Nat
 |0,p=>p
 |n+1,p=>lp m n (leap m p.1 p.2)
def GO(m:Nat):∀(a b:Nat)(p:Nat×Nat),lp m (a+b) p=lp m b (lp m a p):=by intro a b;induction a<;>grind [lp]
theorem J4(m:Nat):∀(n:Nat)(p:Nat×Nat),(lp m n p).2=p.2/32^n
 |0,p=>by simp[lp]
 |n+1,p=>by show(lp m n (leap m p.1 p.2)).2=_;rw[J4 m n,uZ,Nat.div_div_eq_div_mul,Nat.pow_succ,Nat.mul_comm]
theorem Fi(m:Nat):∀(n:Nat)(p:Nat×Nat),p.1<=m->(lp m n p).1<=m
 |0,p,h=>h
 |n+1,p,_=>Fi m n _ (qu m _ _)
theorem sw:∀(L:Nat)(p:Probe),Va m p->∃n,n<=10*(L+1)/\it m n p=rs m (lp m (L+1) (p.i,p.perturb))
 |0,p,v=>⟨p.more+1,by have:=v.more;lia,ml _ p rfl v⟩
 |L+1,p,v=>by
  have h1:=ml _ p rfl v;have v1:Va m (rs m (leap m p.i p.perturb)):=by rw[<- h1];exact v.it
  obtain⟨n,hn,e⟩:=sw L _ v1;refine⟨p.more+1+n,by have:=v.more;lia,?_⟩;rw[eM,h1,e];rfl
noncomputable def f5(m i:Nat):Nat:=(i*5+1)%(m+1)
def fN(m:Nat):Nat->Nat->Nat
 |0,i=>i
 |n+1,i=>fN m n (f5 m i)
def Af(m:Nat):Nat->Nat->List Nat
 |0,_=>[]
 |n+1,i=>i::Af m n (f5 m i)
theorem sA(m:Nat):∀(n i k:Nat),k<n->(Af m n i)[k]?=some (fN m k i)
 |n+1,i,0,_=>rfl
 |n+1,i,k+1,h=>sA m n _ k (by lia)
theorem sB(m:Nat):∀(n i:Nat),(Af m n i).length=n
 |0,_=>rfl
 |n+1,i=>by show(Af m n _).length+1=_;rw[sB]
theorem qw(m:Nat):∀(a b i:Nat),fN m (a+b) i=fN m b (fN m a i)
 |0,b,i=>by rw[Qi];rfl
 |a+1,b,i=>by rw[Nat.succ_add];exact qw m a b _
def MG(m:Nat):Bool:=((List.range (m+1)).all λj=>(Af m (m+1) 0).contains j)&&(fN m (m+1) 0==0)
def uH(m:Nat):Prop:=m=7\/m=31\/m=127\/m=511
def wB(h:uH m):MG m=true:=by rcases h with rfl|rfl|rfl|rfl<;>decide +kernel
def Ag(h:uH m)(hj:j<=m):∃n,n<=m/\fN m n 0=j:=by have:=wB h;unfold MG at this;simp only[Of,Om]at this;have h1:=this.1 j (N8.mpr (by lia));rw[List.contains_iff_mem,g4]at h1;obtain⟨n,hn⟩:=h1;have hl:=(bE.mp hn).1;rw[sB]at hl;rw[sA m _ _ _ hl]at hn;exact⟨n,by lia,Oi hn⟩
def GP(h:uH m)(hi:i<=m)(hj:j<=m):∃n,n<=m/\fN m n i=j:=by
 obtain⟨a,ha,ea⟩:=Ag h hi;obtain⟨b,hb,eb⟩:=Ag h hj;by_cases hab:a<=b
 .refine⟨b-a,by lia,?_⟩;rw[<- ea,<- qw,show a+(b-a)=b by lia,eb]
 .refine⟨m+1+b-a,by lia,?_⟩;have z:=wB h;unfold MG at z;simp only[Of,beq_iff_eq]at z;rw[<- ea,<- qw,show a+(m+1+b-a)=m+1+b by lia,qw,z.2,eb]
theorem wC(m:Nat):∀(n i:Nat),lp m n (i,0)=(fN m n i,0)
 |0,_=>rfl
 |n+1,i=>by show lp m n (leap m i 0)=_;have:leap m i 0=(f5 m i,0):=rfl;rw[this];exact wC m n _
def sC(h:uH m)(hj:j<=m)(p:Nat×Nat)(h1:p.1<=m)(h2:p.2<2^64):∃n,13<=n/\n<=m+13/\(lp m n p).1=j:=by
 have hp13:(2:Nat)^64<32^13:=by decide
 have hq:(lp m 13 p).2=0:=by rw[J4];exact Nat.div_eq_of_lt (by lia)
 obtain⟨n,hn,e⟩:=GP h (Fi m 13 p h1) hj;refine⟨13+n,by lia,by lia,?_⟩;rw[GO]
 grind [lp,wC]
def Fj(h:uH m)(hj:j<=m)(v:Va m p):∃n,n<10*turns m/\(it m n p).j=j:=by obtain⟨L,h1,h2,e⟩:=sC h hj (p.i,p.perturb) v.i v.q;obtain⟨n,hn,en⟩:=sw (L-1) p v;rw[show L-1+1=L by lia]at en hn;refine⟨n,by unfold turns;lia,?_⟩;rw[en];exact e
def C8(xs:List Nat):Prop:=xs.Pairwise (·< ·)
theorem mS(hr:C8 xs.toList):∀(fuel lo hi:Nat),lo<=hi->hi<=xs.size->hi-lo<=fuel->
 (∀i (h:i<xs.size),i<lo->xs[i]<j)->(∀i (h:i<xs.size),hi<=i->j<=xs[i])->
 below.go xs j fuel lo hi<=xs.size/\(∀i (h:i<xs.size),i<below.go xs j fuel lo hi->xs[i]<j)/\∀i (h:i<xs.size),below.go xs j fuel lo hi<=i->j<=xs[i]
 |0,lo,hi,h1,h2,h3,h4,h5=>by
  have:lo=hi:=by lia
  subst this;exact⟨h2,h4,h5⟩
 |f+1,lo,hi,h1,h2,h3,h4,h5=>by
  have mono:∀a b (ha:a<xs.size) (hb:b<xs.size),a<=b->xs[a]<=xs[b]:=by
   intro a b ha hb hab;rcases Nat.lt_or_eq_of_le hab with h|h
   .have:=j8.mp hr a b (by simpa using ha) (by simpa using hb) h;simpa using Ou this
   .subst h;exact cN _
  unfold below.go;by_cases hc:lo<hi
  .rw[ck hc];have hm:(lo+hi)/2<xs.size:=by lia
   have eg:xs.getD ((lo+hi)/2) j=xs[(lo+hi)/2]:=by simp[Array.getD,hm]
   dsimp only;rw[eg];by_cases hq:xs[(lo+hi)/2]<j
   .rw[ck hq];refine mS hr f _ _ (by lia) h2 (by lia) (λi h hi'=>?_) h5;exact Nat.lt_of_le_of_lt (mono i _ h hm (by lia)) hq
   .rw[cO hq];refine mS hr f _ _ (by lia) (by lia) (by lia) h4 λi h hi'=>?_;exact lN (by lia) (mono _ i hm h hi')
  .rw[cO hc];have:lo=hi:=by lia
   subst this;exact⟨h2,h4,h5⟩
def cz(j:Nat)(hr:C8 xs.toList):below xs j<=xs.size/\(∀i (h:i<xs.size),i<below xs j->xs[i]<j)/\∀i (h:i<xs.size),below xs j<=i->j<=xs[i]:=by unfold below;exact mS hr xs.size 0 xs.size (N3 _) (cN _) (by lia) (λi h z=>by lia) λi h z=>by lia
def Ah(hr:C8 xs.toList)(h:i<xs.size):below xs xs[i]=i:=by
 obtain⟨a,b,c⟩:=cz xs[i] hr;rcases QA (below xs xs[i]) i with q|q|q
 .have hb:below xs xs[i]<xs.size:=by lia
  have h1:=c (below xs xs[i]) hb (cN _);have h2:=j8.mp hr _ i (by grind) (by grind) q;simp at h2;lia
 .exact q
 .have:=b i h q;lia
theorem o6(j:Nat):has #[] j=false:=rfl
structure Tb(t:SetTable):Prop where
 dc:uH t.mask
 Jq:t.dummies=#[]
 uA:C8 t.place.toList
 le:∀j∈t.place.toList,j<=t.mask
def o7(h:Tb t)(hi:i<t.place.size):t.slot t.place[i]=.live i:=by unfold slot;dsimp only;rw[Ah h.uA hi];rw[ck];simp[hi]
def u3(h:Tb t)(hj:j∉t.place.toList):t.slot j=.empty:=by
 unfold slot;dsimp only;rw[cO,h.Jq,o6]
 .rfl
 .grind
def u4(h:Tb t)(j:Nat):(j∉t.place.toList/\t.slot j=.empty)\/∃i,∃hi:i<t.place.size,t.place[i]=j/\t.slot j=.live i:=by
 by_cases hj:j∈t.place.toList
 .right;obtain⟨i,hi,e⟩:=P8.mp hj;have hi':i<t.place.size:=by simpa using hi
  have e':t.place[i]=j:=by simpa using e
  exact⟨i,hi',e',by rw[<- e'];exact o7 h hi'⟩
 .exact .inl ⟨hj,u3 h hj⟩
def Lv(t:SetTable)(j:Nat):Prop:=j∈t.place.toList
inductive iu(t:SetTable) (ha:Nat->Int) (h:Int) (p:Probe):Option Met->Prop
 |em (n:Nat) (e:¬Lv t (it t.mask n p).j) (b:∀k,k<n->∃i,∃hi:i<t.place.size,t.place[i]=(it t.mask k p).j/\ha i≠h):iu t ha h p (some (.empty (it t.mask n p).j none))
 |ca (n i:Nat) (hi:i<t.place.size) (e:t.place[i]=(it t.mask n p).j) (q:ha i=h) (b:∀k,k<n->∃i,∃hi:i<t.place.size,t.place[i]=(it t.mask k p).j/\ha i≠h) :
  iu t ha h p (some (.candidate (it t.mask n p).j i (it t.mask (n+1) p)))
theorem sD(h:Tb t)(ha:Nat->Int)(x:Int):∀(fuel:Nat)(p:Probe),Va t.mask p->(∃n,n<fuel/\¬Lv t (it t.mask n p).j)->iu t ha x p (probe.go t ha x fuel p)
 |0,p,v,⟨n,hn,_⟩=>by lia
 |f+1,p,v,⟨n,hn,he⟩=>by
  unfold probe.go;rcases u4 h p.j with⟨h1,e⟩|⟨i,hi,h1,e⟩
  .rw[e];dsimp only;have:=iu.em (t:=t) (ha:=ha) (h:=x) (p:=p) 0 h1 λk hk=>by lia
   rw[v.d];exact this
  .rw[e];dsimp only;by_cases hq:ha i=x
   .rw[ck (by simpa using hq)];exact iu.ca (t:=t) (ha:=ha) (h:=x) (p:=p) 0 i hi h1 hq λk hk=>by lia
   .rw[cO (by simpa using hq),uY];have hn0:n≠0:=by rintro rfl;exact he (by show p.j∈t.place.toList;rw[<- h1];simp)
    have ih:=sD h ha x f (uX t.mask p) v.uX ⟨n-1,by lia,by
     have:it t.mask (n-1) (uX t.mask p)=it t.mask n p:=by show _=it t.mask n p;rw[show n=(n-1)+1 by lia];rfl
     rw[this];exact he⟩
    have shift:∀{nn:Nat},(∀k,k<nn->∃i,∃hi:i<t.place.size,t.place[i]=(it t.mask k (uX t.mask p)).j/\ha i≠x)->∀k,k<nn+1->∃i,∃hi:i<t.place.size,t.place[i]=(it t.mask k p).j/\ha i≠x:=by
     intro nn b k hk;cases k with
     |zero=>exact⟨i,hi,h1,hq⟩
     |succ k=>exact b k (by lia)
    generalize probe.go t ha x f (uX t.mask p)=rr at ih;cases ih with
    |em n' e' b=>exact iu.em (t:=t) (ha:=ha) (h:=x) (p:=p) (n'+1) e' (shift b)
    |ca n' i' hi' e' q' b=>exact iu.ca (t:=t) (ha:=ha) (h:=x) (p:=p) (n'+1) i' hi' e' q' (shift b)
theorem mT:∀(l1 l2:List Nat),l1.Nodup->(∀x∈l1,x∈l2)->l1.length<=l2.length
 |[],_,_,_=>N3 _
 |a::l1,l2,nd,hs=>by
  have ha:a∈l2:=hs a (uB ..);have ih:=mT l1 (l2.erase a) (Qk.mp nd).2 λx hx=>by grind
  grind
def mU(h:Tb t)(hs:t.place.size<=t.mask):∃j,j<=t.mask/\¬Lv t j:=by refine O1 λhn=>?_;have hall:∀j,j<=t.mask->j∈t.place.toList:=λj hj=>O1 λz=>hn ⟨j,hj,z⟩;have:=mT (List.range (t.mask+1)) t.place.toList PH λj hj=>hall j (by grind);simp at this;lia
def mV(h:Tb t)(hs:t.place.size<=t.mask)(ha:Nat->Int)(x:Int)(v:Va t.mask p):iu t ha x p (t.probe ha x p):=by obtain⟨j,hj,hn⟩:=mU h hs;obtain⟨n,h1,h2⟩:=Fj h.dc hj v;unfold probe;exact sD h ha x _ p v ⟨n,h1,by grind⟩
def Rea(m:Nat)(lv:Nat->Prop)(h:Int)(j:Nat):Prop:=∃n,(it m n (st m h)).j=j/\∀k,k<n->lv (it m k (st m h)).j
def Rea.mono(r:Rea m lv h j)(s:∀j,lv j->lv' j):Rea m lv' h j:=let ⟨n,e,b⟩:=r;⟨n,e,λk hk=>s _ (b k hk)⟩
structure oj{V:Type} (t:SetTable) (es:Array (Int×V)):Prop where
 tb:Tb t
 len:t.place.size=es.size
 Js:∀q∈t.place.toList.zip es.toList,Rea t.mask (·∈ t.place.toList) q.2.1 q.1
def iU(t:SetTable):Prop:=t.place.size*5<t.mask*3
def insertAt_toList{α:Type}(xs:Array α)(p:Nat)(x:α)(h:p<=xs.size):(insertAt xs p x).toList=xs.toList.take p++x::xs.toList.drop p:=by unfold insertAt;simp[P9,List.extract_eq_drop_take,Oe]
def insertAt_size{α:Type}(xs:Array α)(p:Nat)(x:α)(h:p<=xs.size):(insertAt xs p x).size=xs.size+1:=by rw[<- p7,insertAt_toList xs p x h];simp;lia
def jh(h:Tb t)(j:Nat):(t.put j).1={t with place:=insertAt t.place (below t.place j) j}:=by
 unfold put;dsimp only;rw[h.Jq]
 grind [o6]
def mn(t:SetTable)(j:Nat):(t.put j).2=below t.place j:=rfl
def u5{α β:Type}(xs:List α)(ys:List β)(p:Nat)(x:α)(y:β)(h:xs.length=ys.length):(xs.take p++x::xs.drop p).zip (ys.take p++y::ys.drop p)=(xs.zip ys).take p++(x,y)::(xs.zip ys).drop p:=by rw[List.zip_append (by simp[h]),List.zip_cons_cons];simp[List.zip,List.take_zipWith,List.drop_zipWith]
def u6{V:Type}{t:SetTable}{es:Array (Int×V)}(h:oj t es){j:Nat}(hj:j∉t.place.toList)(hjm:j<=t.mask){hh:Int}{v:V}(r:Rea t.mask (·∈ t.place.toList) hh j) :
 oj (t.put j).1 (insertAt es (t.put j).2 (hh,v))/\(t.put j).1.mask=t.mask/\(t.put j).1.place.size=t.place.size+1:=by
 obtain⟨a,b,c⟩:=cz j h.tb.uA;rw[jh h.tb,mn];have ae:below t.place j<=es.size:=by rw[<- h.len];exact a
 have el:=insertAt_toList t.place _ j a;have ee:=insertAt_toList es (below t.place j) (hh,v) ae;have mem:∀k,k∈(insertAt t.place (below t.place j) j).toList↔k=j\/k∈t.place.toList:=by
  intro k;rw[el,gZ,j5];constructor
  .rintro (z|rfl|z)
   .exact .inr (Ov z)
   .exact .inl rfl
   .exact .inr (OP z)
  .rintro (rfl|z)
   .exact .inr (.inl rfl)
   .rw[<- lR (below t.place j) t.place.toList,gZ]at z;exact z.elim .inl λz=>.inr (.inr z)
 refine⟨⟨⟨h.tb.dc,h.tb.Jq,?_,λk hk=>?_⟩,?_,λq hq=>?_⟩,rfl,insertAt_size _ _ _ a⟩
 .show C8 (insertAt t.place (below t.place j) j).toList;rw[el];unfold C8;rw[OE];refine⟨h.tb.uA.sublist (OZ _ _),?_,?_⟩
  .rw[Ob];refine⟨λk hk=>?_,h.tb.uA.sublist (Pq _ _)⟩;obtain⟨i,hi,e⟩:=P8.mp hk;rw[Pc]at hi;have hi2:below t.place j+i<t.place.size:=by simp at hi;lia
   have e2:t.place[below t.place j+i]=k:=by rw[<- e];simp
   have:=c _ hi2 (by lia);rw[e2]at this;have:k≠j:=λz=>hj (by rw[<- z,<- e2];simp);lia
  .intro k hk l hl;obtain⟨i,hi,e⟩:=P8.mp hk;rw[N5]at hi;have hi2:i<t.place.size:=by simp at hi;lia
   have e2:t.place[i]=k:=by rw[<- e];simp
   have l1:=b i hi2 (by lia);rw[e2]at l1;rw[j5]at hl;rcases hl with rfl|hl
   .exact l1
   .obtain⟨i',hi',e'⟩:=P8.mp hl;rw[Pc]at hi';have hi3:below t.place j+i'<t.place.size:=by simp at hi';lia
    have e3:t.place[below t.place j+i']=l:=by rw[<- e'];simp
    have:=c _ hi3 (by lia);rw[e3]at this;lia
 .rcases (mem k).mp hk with rfl|z
  .exact hjm
  .exact h.tb.le k z
 .show(insertAt t.place (below t.place j) j).size=_;rw[insertAt_size _ _ _ a,insertAt_size _ _ _ ae,h.len]
 .have hq:q∈(insertAt t.place (below t.place j) j).toList.zip (insertAt es (below t.place j) (hh,v)).toList:=hq;rw[el,ee,u5 _ _ _ _ _ (by simpa using h.len)]at hq;have sub:∀k,k∈t.place.toList->k∈(insertAt t.place (below t.place j) j).toList:=λk hk=>(mem k).mpr (.inr hk);rw[gZ,j5]at hq;rcases hq with z|rfl|z
  .exact(h.Js q (Ov z)).mono sub
  .exact r.mono sub
  .exact(h.Js q (OP z)).mono sub
def ow(owner:Array (Option Nat))(j:Nat):Prop:=∃k,owner[j]?=some (some k)
theorem qx(i q:Nat):∀k,k<=runEnd m i-i->it m k (rs m (i,q))={j:=i+k,more:=runEnd m i-i-k,i:=i,perturb:=q,dummy:=none}
 |0,_=>rfl
 |k+1,h=>by
  rw[C7,qx i q k (by lia)]
  grind [uX]
theorem o8(hs:owner.size=m+1):∀(fuel i q:Nat),i<=m->q<2^64->(∃L,L<fuel/\¬ow owner (lp m L (i,q)).1)->
 ∃j,layClean.free m owner fuel i q=some j/\j<=m/\¬ow owner j/\∃n,(it m n (rs m (i,q))).j=j/\∀k,k<n->ow owner (it m k (rs m (i,q))).j
 |0,i,q,_,_,⟨L,h,_⟩=>by lia
 |f+1,i,q,hi,hq,⟨L,hL,hn⟩=>by
  obtain⟨r1,r2⟩:=i_ m i hi;have hre:runEnd m i+1-i=(runEnd m i-i)+1:=by
   have:i<=runEnd m i:=by unfold runEnd;split<;>lia
   lia
  have isn:∀k,k<=runEnd m i-i->((owner.getD (i+k) (some 0)).isNone=true↔¬ow owner (i+k)):=by
   intro k hk;have hb:i+k<owner.size:=by lia
   have e:owner[i+k]?=some owner[i+k]:=by simp[hb]
   have e2:owner.getD (i+k) (some 0)=owner[i+k]:=by simp[Array.getD,hb]
   unfold ow;rw[e2,e];cases owner[i+k]<;>simp
  unfold layClean.free;cases hf:(List.range (runEnd m i+1-i)).find? λk=>(owner.getD (i+k) (some 0)).isNone with
  |some k=>
   dsimp only;rw[List.find?_range_eq_some]at hf;obtain⟨h1,h2,h3⟩:=hf;have h2:=N8.mp h2;have hk:k<=runEnd m i-i:=by lia
   refine⟨i+k,rfl,by lia,(isn k hk).mp h1,k,by rw[qx i q k hk],λk' hk'=>?_⟩
   grind [qx]
  |none=>
   dsimp only;rw[List.find?_range_eq_none]at hf;have hrun:∀k,k<=runEnd m i-i->ow owner (i+k):=by grind
   have hL0:L≠0:=by rintro rfl;exact hn (hrun 0 (N3 _))
   have ih:=o8 hs f (leap m i q).1 (leap m i q).2 (qu m i q) (by rw[uZ];have:=Nat.div_le_self q 32;lia) ⟨L-1,by lia,by
    have:lp m L (i,q)=lp m (L-1) (leap m i q):=by rw[show L=(L-1)+1 by lia];rfl
    rw[this]at hn;exact hn⟩
   obtain⟨j,e,hj,hnj,n,en,hb⟩:=ih;refine⟨j,e,hj,hnj,runEnd m i-i+1+n,?_,λk hk=>?_⟩
   .rw[eM,ml (runEnd m i-i) (rs m (i,q)) rfl (Va.rs hi hq)];exact en
   .by_cases hk2:k<=runEnd m i-i
    .rw[qx i q k hk2];exact hrun k hk2
    .have:it m k (rs m (i,q))=it m (k-(runEnd m i-i+1)) (rs m (leap m i q)):=by rw[show k=(runEnd m i-i+1)+(k-(runEnd m i-i+1)) by lia,eM,ml (runEnd m i-i) (rs m (i,q)) rfl (Va.rs hi hq)];congr 1;lia
     rw[this];exact hb _ (by lia)
structure Own(m:Nat) (hs:List Int) (owner:Array (Option Nat)):Prop where
 size:owner.size=m+1
 all:∀k:Nat,k<hs.length->∃j:Nat,owner[j]?=some (some k)
 lt:∀j k:Nat,owner[j]?=some (some k)->k<hs.length
 Js:∀(j k:Nat)(h:Int),owner[j]?=some (some k)->hs[k]?=some h->Rea m (ow owner) h j
 inj:∀j j' k:Nat,owner[j]?=some (some k)->owner[j']?=some (some k)->j=j'
def Own.LS(o:Own m hs owner)(hl:hs.length<=m):∃j,j<=m/\¬ow owner j:=by
 refine O1 λhn=>?_;have hall:∀j,j<=m->ow owner j:=λj hj=>O1 λz=>hn ⟨j,hj,z⟩
 let g:Nat->Nat:=λj=>((owner[j]?).getD none).getD 0
 have hg:∀j,j<=m->owner[j]?=some (some (g j)):=λj hj=>by obtain⟨k,hk⟩:=hall j hj;show owner[j]?=some (some (((owner[j]?).getD none).getD 0));rw[hk];rfl
 have nd:((List.range (m+1)).map g).Nodup:=by unfold List.Nodup;rw[Oc];have:=PH (n:=m+1);refine O4 (λ{a b} ha hb hab e=>hab ?_) this;have ha:=N8.mp ha;have hb:=N8.mp hb;exact o.inj a b (g a) (hg a (by lia)) (by rw[e];exact hg b (by lia))
 have:=mT _ (List.range hs.length) nd λx hx=>by obtain⟨j,hj,rfl⟩:=j3.mp hx;have hj:=N8.mp hj;exact N8.mpr (o.lt j _ (hg j (by lia)))
 simp at this;lia
def Ai(hm:uH m)(o:Own m hs owner)(hl:hs.length<=m)(h:Int) :
 ∃j,layClean.free m owner (turns m) (bits h%(m+1)) (bits h)=some j/\Own m (hs++[h]) (owner.setIfInBounds j (some hs.length)):=by
 obtain⟨j0,hj0,hn0⟩:=o.LS hl;have hi:bits h%(m+1)<=m:=Rl (Nat.mod_lt _ (Nat.succ_pos m));obtain⟨L,l1,l2,el⟩:=sC hm hj0 (bits h%(m+1),bits h) hi (qp h);obtain⟨j,e,hj,hnj,n,en,hb⟩:=o8 o.size (turns m) _ _ hi (qp h) ⟨L,by unfold turns;lia,by rw[el];exact hn0⟩;refine⟨j,e,?_⟩;have hjb:j<owner.size:=by rw[o.size];lia
 have get:∀i,(owner.setIfInBounds j (some hs.length))[i]?=if i=j then some (some hs.length)else owner[i]?:=by
  intro i;rw[QY];by_cases hij:j=i
  .subst hij;rw[ck rfl,ck hjb,ck rfl]
  .rw[cO hij,cO (λz=>hij z.symm)]
 have sub:∀i,ow owner i->ow (owner.setIfInBounds j (some hs.length)) i:=by
  rintro i ⟨k,hk⟩;by_cases hij:i=j
  .exact⟨_,by rw[get,ck hij]⟩
  .exact⟨k,by rw[get,cO hij];exact hk⟩
 have inv:∀i k,(owner.setIfInBounds j (some hs.length))[i]?=some (some k)->(i=j/\k=hs.length)\/(i≠j/\owner[i]?=some (some k)):=by
  intro i k hk;rw[get]at hk;by_cases hij:i=j
  .rw[ck hij]at hk;exact .inl ⟨hij,by simpa using hk.symm⟩
  .rw[cO hij]at hk;exact .inr ⟨hij,hk⟩
 refine⟨by rw[Array.size_setIfInBounds,o.size],λk hk=>?_,λi k hk=>?_,λi k h' hk hh=>?_,λi i' k h1 h2=>?_⟩
 .rw[KE,PY]at hk;by_cases hkl:k=hs.length
  .exact⟨j,by rw[get,ck rfl,hkl]⟩
  .obtain⟨i,hi⟩:=o.all k (by lia);refine⟨i,?_⟩;rw[get,cO]
   .exact hi
   .rintro rfl;exact hnj ⟨k,hi⟩
 .rw[KE,PY];rcases inv i k hk with⟨_,rfl⟩|⟨_,z⟩
  .lia
  .have:=o.lt i k z;lia
 .rcases inv i k hk with⟨rfl,rfl⟩|⟨hij,z⟩
  .rw[cP (cN _),Nat.sub_self]at hh;cases hh;exact⟨n,en,λk hk=>sub _ (hb k hk)⟩
  .have hkl:=o.lt i k z;rw[gY hkl]at hh;exact(o.Js i k h' z hh).mono sub
 .rcases inv i k h1 with⟨rfl,rfl⟩|⟨hij,z⟩<;>rcases inv i' _ h2 with⟨rfl,e'⟩|⟨hij',z'⟩
  .rfl
  .have:=o.lt _ _ z';lia
  .have:=o.lt _ _ z;lia
  .exact o.inj i i' k z z'
theorem Aj(hm:uH m):∀(suf pre:List Int)(owner:Array (Option Nat)),Own m pre owner->pre.length+suf.length<=m->
 ∃owner',suf.foldl (λacc h=>do
  let (owner,k) <- acc
  let j <- layClean.free m owner (turns m) (bits h%(m+1)) (bits h)
  pure (owner.setIfInBounds j (some k),k+1)) (some (owner,pre.length))=some (owner',pre.length+suf.length)/\Own m (pre++suf) owner'
 |[],pre,owner,o,_=>⟨owner,rfl,by grind⟩
 |h::suf,pre,owner,o,hl=>by
  simp only[lO]at hl;obtain⟨j,e,o'⟩:=Ai hm o (by lia) h;obtain⟨owner',e2,o2⟩:=Aj hm suf (pre++[h]) _ o' (by simp;lia)
  grind
def GQ(hm:uH m)(hs:Array Int)(hl:hs.size<=m):∃owner,layClean m hs=some owner/\Own m hs.toList owner:=by
 have o0:Own m [] (Array.replicate (m+1) none):=by
  have no:∀j k:Nat,(Array.replicate (m+1) (none:Option Nat))[j]?=some (some k)->False:=by grind
  exact⟨by simp,λk hk=>by simp at hk,λj k h=>(no j k h).elim,λj k _ h=>(no j k h).elim,λj _ k h=>(no j k h).elim⟩
 obtain⟨owner,e,o⟩:=Aj hm hs.toList [] _ o0 (by grind);refine⟨owner,?_,by grind⟩;unfold layClean
 grind
theorem Ak{α:Type}(es:Array α):∀(l:List Nat),(∀k∈l,k<es.size)->(l.filterMap (es[·]?)).length=l.length/\∀i:Nat,(l.filterMap (es[·]?))[i]?=(l[i]?).bind (es[·]?)
 |[],_=>⟨rfl,λi=>by simp⟩
 |k::l,h=>by
  have hk:k<es.size:=h k (uB ..);have e:es[k]?=some es[k]:=by simp[hk]
  obtain⟨a,b⟩:=Ak es l λk hk=>h k (CF _ hk);rw[List.filterMap_cons_some e];refine⟨by simp[a],λi=>?_⟩;cases i with
  |zero=>simp[e]
  |succ i=>simpa using b i
theorem mW(o:Nat->Option Nat):∀l:List Nat,(l.filterMap λj=>(o j).map (j,·)).map Prod.fst=l.filter λj=>(o j).isSome
 |[]=>rfl
 |j::l=>by
  rw[Qf,O5];cases e:o j with
  |none=>simpa using mW o l
  |some k=>simpa using mW o l
def Al(owner:Array (Option Nat))(m:Nat)(hs:owner.size=m+1)(j k:Nat):(j,k)∈((List.range (m+1)).filterMap λj=>(owner.getD j none).map (j,·))↔owner[j]?=some (some k):=by
 rw[Qj];constructor
 .rintro⟨a,h1,h2⟩;have h1:=N8.mp h1;have hb:a<owner.size:=by lia
  have e:owner.getD a none=owner[a]:=by simp[Array.getD,hb]
  rw[e]at h2;obtain⟨k',e1,e2⟩:=N_.mp h2;cases e2;rw[show owner[j]?=some owner[j] by simp[hb],e1]
 .intro h;obtain⟨hb,e⟩:=OW.mp h;refine⟨j,N8.mpr (by lia),?_⟩;have e2:owner.getD j none=owner[j]:=by simp[Array.getD,hb]
  rw[e2,e];rfl
structure Laid{V:Type} (m:Nat) (es es':Array (Int×V)) (t':SetTable):Prop where
 uC:oj t' es'
 mask:t'.mask=m
 size:es'.size=es.size
 mem:∀x,x∈es'.toList↔x∈es.toList
 pw:∀R:Int×V->Int×V->Prop,(∀x y,R x y->R y x)->es.toList.Pairwise R->es'.toList.Pairwise R
def sF{V:Type}{m:Nat}(hm:uH m)(es:Array (Int×V))(hl:es.size<=m)(finger moves:Nat)(led plain:Bool) :
 ∃t' order,laid m finger moves led plain (es.map (·.1))=some (t',order)/\Laid m es (order.filterMap (es[·]?)) t'/\t'.led=led/\t'.plain=plain/\order.toList.Perm (List.range es.size):=by
 obtain⟨owner,eo,o⟩:=GQ hm (es.map (·.1)) (by simpa using hl);have len:(es.map (·.1)).toList.length=es.size:=by simp
 let live:=(List.range (m+1)).filterMap λj=>(owner.getD j none).map (j,·)
 have lm:∀j k,(j,k)∈live↔owner[j]?=some (some k):=Al owner m o.size;have uA:C8 (live.map Prod.fst):=by show C8 (((List.range (m+1)).filterMap λj=>(owner.getD j none).map (j,·)).map Prod.fst);rw[mW];exact List.pairwise_lt_range.sublist (List.filter_sublist)
 have ndS:(live.map Prod.snd).Nodup:=by unfold List.Nodup;unfold C8 at uA;rw[Oc]at uA ⊢;refine O4 (λ{a b} ha hb hab e=>?_) uA;have h1:=(lm a.1 a.2).mp ha;have h2:=(lm b.1 b.2).mp hb;rw[<- e]at h2;have:=o.inj _ _ _ h1 h2;lia
 have lt:∀k∈live.map Prod.snd,k<es.size:=by
  intro k hk;obtain⟨p,hp,rfl⟩:=j3.mp hk;have:=o.lt p.1 p.2 ((lm p.1 p.2).mp hp)
  rwa [len]at this
 have all:∀k,k<es.size->k∈live.map Prod.snd:=by intro k hk;obtain⟨j,hj⟩:=o.all k (by rw[len];exact hk);exact j3.mpr ⟨(j,k),(lm j k).mpr hj,rfl⟩
 have ll:live.length=es.size:=by have a:=mT _ (List.range es.size) ndS λk hk=>N8.mpr (lt k hk);have b:=mT (List.range es.size) (live.map Prod.snd) PH λk hk=>all k (N8.mp hk);simp at a b;lia
 obtain⟨f1,f2⟩:=Ak es (live.map Prod.snd) lt;refine⟨{mask:=m,place:=(live.map (·.1)).toArray,dummies:=#[],finger,led,moves,plain},(live.map (·.2)).toArray,?_,?_,rfl,rfl,(List.perm_ext_iff_of_nodup ndS PH).mpr λk=>⟨λh=>N8.mpr (lt k h),λh=>all k (N8.mp h)⟩⟩
 .unfold laid;rw[eo];rfl
 .have el:((live.map (·.2)).toArray.filterMap (es[·]?)).toList=(live.map Prod.snd).filterMap (es[·]?):=by simp
  have es':((live.map (·.2)).toArray.filterMap (es[·]?)).size=es.size:=by rw[<- p7,el,f1,cM,ll]
  refine⟨⟨⟨hm,rfl,by simpa using uA,λj hj=>?_⟩,?_,λq hq=>?_⟩,rfl,es',λx=>?_,λR sy pw=>?_⟩
  .have hj:j∈live.map Prod.fst:=by simpa using hj
   obtain⟨p,hp,rfl⟩:=j3.mp hj;obtain⟨hb,_⟩:=OW.mp ((lm p.1 p.2).mp hp);show p.1<=m;have:=o.size;lia
  .rw[es'];simpa using ll
  .have hq:q∈(live.map Prod.fst).zip ((live.map Prod.snd).filterMap (es[·]?)):=by rw[el]at hq;simpa using hq
   obtain⟨i,hi⟩:=g4.mp hq;rw[Qb,f2]at hi;obtain⟨h1,h2⟩:=hi;rw[ol]at h1 h2;obtain⟨p,hp,e1⟩:=N_.mp h1;rw[hp]at h2;have h2:es[p.2]?=some q.2:=h2;have ho:=(lm p.1 p.2).mp (g4.mpr ⟨i,hp⟩);have hh:(es.map (·.1)).toList[p.2]?=some q.2.1:=by rw[gA,Array.getElem?_map,h2];rfl
   rw[<- e1];refine(o.Js p.1 p.2 q.2.1 ho hh).mono λj ⟨k,hk⟩=>?_;show j∈(live.map (·.1)).toArray.toList;simpa using⟨k,(lm j k).mpr hk⟩
  .rw[el];constructor
   .intro hx;obtain⟨k,_,h2⟩:=Qj.mp hx;exact g4.mpr ⟨k,by rw[gA];exact h2⟩
   .intro hx;obtain⟨k,hk⟩:=g4.mp hx;have hb:k<es.size:=by have:=(bE.mp hk).1;simpa using this
    exact Qj.mpr ⟨k,all k hb,by rw[gA]at hk;exact hk⟩
  .rw[el];rw[j8];intro a b ha hb hab;have ea:=f2 a;have eb:=f2 b;rw[Ol ha]at ea;rw[Ol hb]at eb;rw[f1]at ha hb;rw[Ol ha]at ea;rw[Ol hb]at eb;have hne:(live.map Prod.snd)[a]≠(live.map Prod.snd)[b]:=j8.mp ndS a b ha hb hab;have ea:es[(live.map Prod.snd)[a]]?=some _:=ea.symm;have eb:es[(live.map Prod.snd)[b]]?=some _:=eb.symm;obtain⟨ka,va⟩:=OW.mp ea;obtain⟨kb,vb⟩:=OW.mp eb;have P:=j8.mp pw;rw[<- va,<- vb];rcases Q9 hne with z|z
   .simpa using P _ _ (by simpa using ka) (by simpa using kb) z
   .refine sy _ _ ?_;simpa using P _ _ (by simpa using kb) (by simpa using ka) z
def C9{V:Type}{m:Nat}(hm:uH m)(es:Array (Int×V))(hl:es.size<=m)(finger moves:Nat)(led plain:Bool) :
 ∃t' order,laid m finger moves led plain (es.map (·.1))=some (t',order)/\Laid m es (order.filterMap (es[·]?)) t'/\t'.led=led/\t'.plain=plain:=by
 obtain⟨t',order,a,b,c,d,_⟩:=sF hm es hl finger moves led plain;exact⟨t',order,a,b,c,d⟩
end ST
namespace ST
open PySem PySem.W PyProof.Rows
structure Lt(N:Nat) (lt:Nat->Nat->Bool):Prop where
 N2:∀i,lt i i=false
 tr:∀i j k,lt i j=true->lt j k=true->lt i k=true
 N1:∀i j,i<N->j<N->i≠j->lt i j=true\/lt j i=true
noncomputable abbrev Cmp:=Nat->Nat->(Bool->Rv->Prop)->Rv->Prop
def Fk(N:Nat)(lt:Nat->Nat->Bool)(cmp:Cmp)(s:Rv):Prop:=∀i j C,i<N->j<N->C (lt i j) s->cmp i j C s
def Pm(N:Nat)(p:Array Nat):Prop:=p.toList.Perm (List.range N)
noncomputable def b7(p:Array Nat)(i:Nat):Nat:=p.getD i 0
section
theorem Pm.size(h:Pm N p):p.size=N:=by have:=h.length_eq;simpa using this
def Pm.perm(h:Pm N p)(q:p'.Perm p):Pm N p':=(Array.perm_iff_toList_perm.mp q).trans h
def GR(hi:i<p.size):p[i]?=some (b7 p i):=by unfold b7;simp[Array.getD,hi]
theorem Am(h:p'[i]?=p[k]?):b7 p' i=b7 p k:=by
 simp_all [b7,b7]
def Pm.bd(h:Pm N p)(hi:i<N):b7 p i<N:=by
 have hi':i<p.size:=by rw[h.size];exact hi
 have:b7 p i∈p.toList:=g4.mpr ⟨i,by rw[gA];exact GR hi'⟩;exact N8.mp (h.mem_iff.mp this)
def Pm.ne(h:Pm N p)(hi:i<N)(hj:j<N)(e:i≠j):b7 p i≠b7 p j:=by
 have nd:p.toList.Nodup:=h.nodup_iff.mpr PH;have hi':i<p.size:=by rw[h.size];exact hi
 have hj':j<p.size:=by rw[h.size];exact hj
 have gi:p.toList[i]'(by simpa using hi')=b7 p i:=by simp[b7,Array.getD,hi']
 have gj:p.toList[j]'(by simpa using hj')=b7 p j:=by simp[b7,Array.getD,hj']
 intro z;rcases Q9 e with q|q
 .exact j8.mp nd i j (by simpa using hi') (by simpa using hj') q (by rw[gi,gj];exact z)
 .exact j8.mp nd j i (by simpa using hj') (by simpa using hi') q (by rw[gi,gj];exact z.symm)
def So(lt:Nat->Nat->Bool)(p:Array Nat)(k:Nat):Prop:=∀a b,a<b->b<k->lt (b7 p a) (b7 p b)=true
def De(lt:Nat->Nat->Bool)(p:Array Nat)(k:Nat):Prop:=∀a b,a<b->b<k->lt (b7 p b) (b7 p a)=true
def Lt.v_(o:Lt N lt)(hi:i<N)(hj:j<N)(e:i≠j)(h:lt i j=false):lt j i=true:=by
 grind [Lt]
def So.snoc(o:Lt N lt)(h:So lt p k)(hk:1<=k)(l:lt (b7 p (k-1)) (b7 p k)=true):So lt p (k+1):=by
 grind [Lt,So]
def De.snoc(o:Lt N lt)(h:De lt p k)(hk:1<=k)(l:lt (b7 p k) (b7 p (k-1))=true):De lt p (k+1):=by
 grind [Lt,De]
theorem u7(o:Lt N lt)(an:Fk N lt cmp s)(pm:Pm N p):∀(f n:Nat){Q:Nat->Rv->Prop},1<=n->n+f=N->So lt p n->
 (∀m,n<=m->m<=N->So lt p m->(m<N->lt (b7 p m) (b7 p (m-1))=true)->Q m s)->(kas_asc p f n).kasWp cmp Q s
 |0,n,Q,h1,h2,h3,k=>k n (cN _) (by lia) h3 λz=>by lia
 |f+1,n,Q,h1,h2,h3,k=>by
  refine an _ _ _ (pm.bd (by lia)) (pm.bd (by lia)) ?_;show KasT.kasWp cmp (if lt (b7 p n) (b7 p (n-1))=true then .ret n else kas_asc p f (n+1)) Q s;by_cases c:lt (b7 p n) (b7 p (n-1))=true
  .rw[ck c];exact k n (cN _) (by lia) h3 λ_=>c
  .rw[cO c];have c:lt (b7 p n) (b7 p (n-1))=false:=by grind
   exact u7 o an pm f (n+1) (by lia) (by lia) (h3.snoc o h1 (o.v_ (pm.bd (by lia)) (pm.bd (by lia)) (pm.ne (by lia) (by lia) (by lia)) c)) λm a b c d=>k m (by lia) b c d
theorem wD(o:Lt N lt)(an:Fk N lt cmp s)(pm:Pm N p):∀(f n:Nat){Q:Array Nat×Nat×Nat->Rv->Prop},1<=n->n+f=N->De lt p n->
 (∀m,n<=m->m<=N->De lt p m->Q (p,m,0) s)->(kas_desc f p n 0).kasWp cmp Q s
 |0,n,Q,h1,h2,h3,k=>k n (cN _) (by lia) h3
 |f+1,n,Q,h1,h2,h3,k=>by
  refine an _ _ _ (pm.bd (by lia)) (pm.bd (by lia)) ?_;show KasT.kasWp cmp (if lt (b7 p n) (b7 p (n-1))=true then(if 0>0 then kas_desc f (kas_rev p (n-(0+1)) n) (n+1) 0 else kas_desc f p (n+1) 0)
   else .ask (b7 p (n-1)) (b7 p n) λd=>if d=true then .ret (p,n,0)else kas_desc f p (n+1) (0+1)) Q s
  by_cases c:lt (b7 p n) (b7 p (n-1))=true
  .rw[ck c,cO (by lia)];exact wD o an pm f (n+1) (by lia) (by lia) (h3.snoc o h1 c) λm a b c=>k m (by lia) b c
  .rw[cO c];have c:lt (b7 p n) (b7 p (n-1))=false:=by grind
   refine an _ _ _ (pm.bd (by lia)) (pm.bd (by lia)) ?_;rw[o.v_ (pm.bd (by lia)) (pm.bd (by lia)) (pm.ne (by lia) (by lia) (by lia)) c];show KasT.kasWp cmp (if true=true then _ else _) Q s;rw[ck rfl];exact k n (cN _) (by lia) h3
def An(n:Nat)(hn:n<=p.size)(k:Nat):b7 (kas_rev p 0 n) k=if k<n then b7 p (n-1-k)else b7 p k:=by
 have e:=getElem?_mirror_all (xs:=p) (i:=0) hn k;unfold kas_rev
 grind [Am]
def Ao(o:Lt N lt)(an:Fk N lt cmp s)(pm:Pm N p)(h1:1<=n)(hn:n<=N)(hd:De lt p n)
 (k:∀m p',1<=m->m<=N->Pm N p'->So lt p' m->Q (m,p') s):(kas_tail3 n N p).kasWp cmp Q s:=by
 unfold kas_tail3;rw[Qm];have pm':Pm N (kas_rev p 0 n):=pm.perm (mirror_perm _ _ _ _);refine u7 o an pm' (N-n) n h1 (by lia) ?_ λm a b c _=>k m _ (by lia) b pm' c;intro a b hab hb;rw[An n (by rw[pm.size];exact hn),An n (by rw[pm.size];exact hn),ck (by lia),ck hb];exact hd _ _ (by lia) (by lia)
def Ap(o:Lt N lt)(an:Fk N lt cmp s)(pm:Pm N p)(h2:2<=N)
 (k:∀m p',1<=m->m<=N->Pm N p'->So lt p' m->Q (m,p') s):(kas_count N p).kasWp cmp Q s:=by
 unfold kas_count;rw[Qm];refine u7 o an pm (N-1) 1 (cN _) (by lia) (λa b hab hb=>by lia) λm a b c d=>?_;by_cases e:m=N
 .rw[ck (by simpa using e)];exact k m p a b pm c
 .rw[cO (by simpa using e)];by_cases hm:m>1
  .rw[ck hm];refine an _ _ _ (pm.bd (by lia)) (pm.bd (by lia)) ?_;have:lt (b7 p 0) (b7 p (m-1))=true:=c 0 (m-1) (by lia) (by lia);show KasT.kasWp cmp (if lt (b7 p 0) (b7 p (m-1))=true then _ else _) Q s;rw[ck this];exact k m p a b pm c
  .rw[cO hm];have hm1:m=1:=by lia
   subst hm1;unfold kas_descPart;rw[Qm];have l:=d (by lia);refine wD o an pm (N-(1+1)) (1+1) (by lia) (by lia) (λa b hab hb=>?_) λm' a' b' c'=>?_
   .have:a=0:=by lia
    have:b=1:=by lia
    subst_vars
    exact l
   .show KasT.kasWp cmp (if 0>0 then _ else kas_tail3 m' N p) Q s;rw[cO (by lia)];exact Ao o an pm (by lia) b' c' k
theorem mX(o:Lt N lt)(an:Fk N lt cmp s)(pm:Pm N p)(hi:i<N)(so:So lt p i):∀(f l r:Nat){Q:Nat->Rv->Prop},l<=r->r<=i->r-l<=f->
 (∀a,a<l->lt (b7 p a) (b7 p i)=true)->(∀a,r<=a->a<i->lt (b7 p i) (b7 p a)=true)->
 (∀m,m<=i->(∀a,a<m->lt (b7 p a) (b7 p i)=true)->(∀a,m<=a->a<i->lt (b7 p i) (b7 p a)=true)->Q m s)->(kas_place p i f l r).kasWp cmp Q s
 |0,l,r,Q,h1,h2,h3,h4,h5,k=>k l (by lia) h4 λa x y=>h5 a (by lia) y
 |f+1,l,r,Q,h1,h2,h3,h4,h5,k=>by
  unfold kas_place;by_cases c:l>=r
  .rw[ck c];exact k l (by lia) h4 λa x y=>h5 a (by lia) y
  .rw[cO c];refine an _ _ _ (pm.bd hi) (pm.bd (by lia)) ?_;show KasT.kasWp cmp (if lt (b7 p i) (b7 p ((l+r)/2))=true then _ else _) Q s;by_cases q:lt (b7 p i) (b7 p ((l+r)/2))=true
   .rw[ck q];refine mX o an pm hi so f l ((l+r)/2) (by lia) (by lia) (by lia) h4 (λa x y=>?_) k;by_cases e:a=(l+r)/2
    .rw[e];exact q
    .exact o.tr _ _ _ q (so _ _ (by lia) y)
   .rw[cO q];have q:lt (b7 p i) (b7 p ((l+r)/2))=false:=by grind
    have q:=o.v_ (pm.bd hi) (pm.bd (by lia)) (pm.ne hi (by lia) (by lia)) q;refine mX o an pm hi so f _ r (by lia) h2 (by lia) (λa x=>?_) h5 k;by_cases e:a=(l+r)/2
    .rw[e];exact q
    .exact o.tr _ _ _ (so _ _ (by lia) (by lia)) q
def Aq(hi:i<p.size)(hl:l<=i)(k:Nat):b7 (bubble p i (i-l)) k=if k=l then b7 p i else if l<k/\k<=i then b7 p (k-1)else b7 p k:=by
 have e:=getElem?_bubble hi (i-l) (by lia) k;rw[show i-(i-l)=l by lia]at e;by_cases h1:k=l
 .rw[ck h1]at e ⊢;exact Am e
 .rw[cO h1]at e ⊢
  grind [Am]
theorem Ar(o:Lt N lt)(an:Fk N lt cmp s):∀(f i:Nat)(p:Array Nat){Q:Array Nat->Rv->Prop},Pm N p->i+f=N->So lt p i->
 (∀p',Pm N p'->So lt p' N->Q p' s)->(kas_bin f p i).kasWp cmp Q s
 |0,i,p,Q,pm,h,so,k=>k p pm (by grind)
 |f+1,i,p,Q,pm,h,so,k=>by
  unfold kas_bin;rw[Qm];refine mX o an pm (by lia) so i 0 i (by lia) (cN _) (by lia) (λa x=>by lia) (λa x y=>by lia) λm hm lo hi=>?_;refine Ar o an f (i+1) _ (pm.perm (bubble_perm _ _ _)) (by lia) (λa b hab hb=>?_) k;have hs:i<p.size:=by rw[pm.size];lia
  rw[Aq hs hm,Aq hs hm]
  repeat' split
  all_goals first|lia|(exact hi _ (by lia) (by lia))|(exact lo _ (by lia))|(exact so _ _ (by lia) (by lia))
def C_(o:Lt N lt)(an:Fk N lt cmp s)(h2:2<=N)(k:∀p,Pm N p->So lt p N->Q p s):(kas_sort N).kasWp cmp Q s:=by
 unfold kas_sort;rw[Qm];have pm:Pm N (List.toArray (List.range N)):=by unfold Pm;simp
 refine Ap o an pm h2 λm p' a b c d=>?_;show KasT.kasWp cmp (if m<N then kas_bin (N-max m 1) p' (max m 1)else .ret p') Q s;by_cases e:m<N
 .rw[ck e];have:max m 1=m:=by lia
  rw[this];exact Ar o an (N-m) m p' c (by lia) d k
 .rw[cO e];have:m=N:=by lia
  subst this;exact k p' c d
end
end ST
namespace L2
open PySem PySem.Spec PySem.Calls PyProof.Rows ST
noncomputable abbrev iK(ns:List Int):List bu:=ns.map Sum.inl
section
def mq(h:(aq prog w).is (.inl i) v=true):∃t,v=.int i t:=by
 rcases aH (show gO (.inl i) v=true from h)with⟨j,t,e,rfl⟩|⟨x,t,e,_⟩
 .cases e;exact⟨t,rfl⟩
 .cases e
theorem items_int:∀{ns:List Int}{vs:List Rz},ItemsAre (aq prog w) (iK ns) vs->∀v∈vs,∃i t,v=.int i t
 |[],_,h,v,hv=>by cases h;simp at hv
 |n::ns,_,h,v,hv=>by
  cases h with
  |cons h1 h2=>
   rcases j5.mp hv with rfl|hv
   .obtain⟨t,rfl⟩:=mq h1;exact⟨n,t,rfl⟩
   .exact items_int h2 v hv
def GS(hk:(tK prog w).is s.heap (iK ns) b)(h:Q true s):wpAny (model prog w) A (hashByValue 8 (.ref b)) Q E s:=by
 have hT:=IsTupleKey.typeIs hk;obtain⟨o,items,n,ho,_,hd,hi⟩:=hk;unfold hashByValue;refine bo (Pp hT O6.lookup ?_);dsimp only;refine bo (Rc ho hd ?_);refine bo ?_;show wpAny _ _ (forIn items _ _) _ _ s;rw[<- PR];refine PJ _ (λaX r s'=>r.1=none/\s'=s/\∀v∈aX,∃i t,v=Value.int i t) _ ?_ ?_ _ _ ⟨rfl,rfl,items_int hi⟩
 .rintro v aX r s' ⟨hr,rfl,hall⟩;obtain⟨i,t,rfl⟩:=hall v uB;refine bo (bF ?_);simp only[OH,gy,Oh];exact bF ⟨rfl,rfl,λu hu'=>hall u (CF _ hu')⟩
 .rintro⟨r1,r2⟩ s' ⟨hr,rfl,_⟩;simp only at hr;subst hr;exact bF h
def sG(hk:(tK prog w).is s.heap (iK ns) b)(h:Q false s):wpAny (model prog w) A (ofAClassStatement 8 (.ref b)) Q E s:=by
 have hT:=IsTupleKey.typeIs hk;obtain⟨o,items,n,ho,_,hd,hi⟩:=hk;unfold ofAClassStatement;refine bo (QK hT ?_);dsimp only;rw[ck (by decide)];refine bo (bF ?_);simp only[OH,gy,Oh];refine bo (Rc ho hd ?_);refine bo ?_;show wpAny _ _ (forIn items _ _) _ _ s;rw[<- PR];refine PJ _ (λaX r s'=>r.1=none/\s'=s/\∀v∈aX,∃i t,v=Value.int i t) _ ?_ ?_ _ _ ⟨rfl,rfl,items_int hi⟩
 .rintro v aX r s' ⟨hr,rfl,hall⟩;obtain⟨i,t,rfl⟩:=hall v uB;refine bo (bF ?_);simp only[gy,Oh];exact bF ⟨rfl,rfl,λu hu'=>hall u (CF _ hu')⟩
 .rintro⟨r1,r2⟩ s' ⟨hr,rfl,_⟩;simp only at hr;subst hr;exact bF h
def GT(hk:(tK prog w).is s.heap (iK ns) b)(hy:∀y∈ys,∃ms c,y=.ref c/\(tK prog w).is s.heap (iK ms) c)(h:Q false s):wpAny (model prog w) A (searchCouldBeSeen (.ref b) ys) Q E s:=by
 unfold searchCouldBeSeen;refine bo ?_;refine PJ _ (λaX r s'=>r.1=none/\s'=s/\∀y∈aX,∃ms c,y=.ref c/\(tK prog w).is s.heap (iK ms) c) _ ?_ ?_ _ _ ⟨rfl,rfl,hy⟩
 .rintro v aX r s' ⟨hr,rfl,hall⟩;obtain⟨ms,c,rfl,hc⟩:=hall v uB;have fin:∀u∈aX,∃ms c,u=Value.ref c/\(tK prog w).is s'.heap (iK ms) c:=λu hu'=>hall u (CF _ hu');dsimp only;split
  .exact bF ⟨rfl,rfl,fin⟩
  .refine bo ((tK prog w).quiet hk ?_);simp only[OH,gy,Oh];refine bo ((tK prog w).quiet hc ?_);simp only[OH,gy,Oh];refine bo (sG hk ?_);simp only[gy,Oh];refine bo (sG hc ?_);simp only[gy,Oh];exact bF ⟨rfl,rfl,fin⟩
 .rintro⟨r1,r2⟩ s' ⟨hr,rfl,_⟩;simp only at hr;subst hr;exact bF h
end
section
def Nw(prog:Ry)(w:World)(h:Heap)(es:Array (Int×Rz)):Prop:=∀e∈es.toList,∃ms c,e=((tK prog w).hash (iK ms),Value.ref c)/\(tK prog w).is h (iK ms) c
def Da(h:uH m):(m%2==0)=false:=by rcases h with rfl|rfl|rfl|rfl<;>rfl
theorem oj.fits(T:oj t es)(hs:t.place.size<=t.mask):t.fits es.size=true:=by unfold SetTable.fits SetTable.fill;rw[T.tb.Jq];simp[T.len]at hs ⊢;exact hs
def u9{α:Type}{es:Array α}{i:Nat}{e:α}(h:es[i]?=some e):e∈es.toList:=g4.mpr ⟨i,by rw[gA];exact h⟩
theorem o9{ep:Nat}{t:SetTable}{ns:List Int}{Q:SetFound->Rv->Prop}(ho:s.heap.get? a=some o)(hd:o.data=.set es ep t)(T:oj t es)(hs:t.place.size<=t.mask)
 (hu:A.units<cLine) (hk:(tK prog w).is s.heap (iK ns) b) (el:Nw prog w s.heap es)
 (h1:(∃e∈es.toList,∃c,e.2=.ref c/\(tK prog w).is s.heap (iK ns) c)->Q (.there none) s)
 (h2:(∀e∈es.toList,∀c,e.2=.ref c->¬(tK prog w).is s.heap (iK ns) c)->∀j,j∉t.place.toList->j<=t.mask->Rea t.mask (·∈ t.place.toList) ((tK prog w).hash (iK ns)) j->Q (.free j false) s) :
 ∀(fuel n:Nat)(stand:Option SetTable.Probe),stand.getD (t.probeStart ((tK prog w).hash (iK ns)))=it t.mask n (st t.mask ((tK prog w).hash (iK ns)))->
  (∀k,k<n->∃i e,∃hi:i<t.place.size,t.place[i]=(it t.mask k (st t.mask ((tK prog w).hash (iK ns)))).j/\es[i]?=some e/\∀c,e.2=.ref c->¬(tK prog w).is s.heap (iK ns) c)->
  (∃N,n<=N/\N<n+fuel/\(it t.mask N (st t.mask ((tK prog w).hash (iK ns)))).j∉t.place.toList)->
  wpAny (model prog w) A (setSearchFrom a (.ref b) ((tK prog w).hash (iK ns)) true fuel stand) Q E s
 |0,n,stand,_,_,⟨N,x1,x2,_⟩=>by lia
 |fuel+1,n,stand,e1,e2,⟨N,x1,x2,x3⟩=>by
  have v0:Va t.mask (it t.mask n (st t.mask ((tK prog w).hash (iK ns)))):=(Va.st _ _).it;have sp:=mV T.tb hs (λi=>(es[i]?.map (·.1)).getD 0) ((tK prog w).hash (iK ns)) v0;have at_:∀i,i<t.place.size->∃e,es[i]?=some e:=λi hi=>⟨es[i]'(by rw[<- T.len];exact hi),by simp[T.len▸hi]⟩;unfold setSearchFrom;refine bo (OB ho hd (oj.fits T hs) ?_);dsimp only;have hg:t.gaveWay=false:=Da T.tb.dc;rw[hg];simp only[gy,Oh];rw[e1];have pre:∀{nn:Nat},(∀k,k<nn->∃i,∃hi:i<t.place.size,t.place[i]=(it t.mask k (it t.mask n (st t.mask ((tK prog w).hash (iK ns))))).j/\(es[i]?.map (·.1)).getD 0≠(tK prog w).hash (iK ns))->
   ∀k,k<n+nn->∃i e,∃hi:i<t.place.size,t.place[i]=(it t.mask k (st t.mask ((tK prog w).hash (iK ns)))).j/\es[i]?=some e/\∀c,e.2=.ref c->¬(tK prog w).is s.heap (iK ns) c:=by
   intro nn hb k hk';by_cases hkn:k<n
   .exact e2 k hkn
   .obtain⟨i,hi,q1,q2⟩:=hb (k-n) (by lia);obtain⟨e,he⟩:=at_ i hi;refine⟨i,e,hi,?_,he,λc hc his=>q2 ?_⟩
    .rw[q1,<- eM,show n+(k-n)=k by lia]
    .obtain⟨ms,c',rfl,his'⟩:=el e (u9 he);have hc':c'=c:=by injection hc
     subst hc';rw[he];show(tK prog w).hash (iK ms)=_;rw[(tK prog w).inj his' his]
  generalize hq0:t.probe _ _ (it t.mask n (st t.mask ((tK prog w).hash (iK ns))))=pr;have hpr:t.probe (λi=>(es[i]?.map (·.1)).getD 0) ((tK prog w).hash (iK ns)) (it t.mask n (st t.mask ((tK prog w).hash (iK ns))))=pr:=hq0;rw[hpr]at sp;clear hpr hq0;cases sp with
  |em nn hem hb=>
   dsimp only;refine bF (h2 ?_ _ hem (v0.it).ND ?_)
   .intro e he c hc his;obtain⟨i,hi⟩:=g4.mp he;rw[gA]at hi;have hil:i<t.place.size:=by rw[T.len];exact(OW.mp hi).1
    obtain⟨ms,c',rfl,his'⟩:=el e he;have hc':c'=c:=by injection hc
    subst hc';have ek:=(tK prog w).inj his' his;have hz:(t.place[i],((tK prog w).hash (iK ms),Value.ref c'))∈t.place.toList.zip es.toList:=g4.mpr ⟨i,by rw[Qb];exact⟨by simp[hil],by rw[gA];exact hi⟩⟩;obtain⟨m,em,eb⟩:=T.Js _ hz;have em:(it t.mask m (st t.mask ((tK prog w).hash (iK ms)))).j=t.place[i]:=em;rw[ek]at em eb;have hm:m<n+nn:=by
     rcases QA m (n+nn)with q|q|q
     .exact q
     .exfalso;refine hem ?_;show(it t.mask nn (it t.mask n _)).j∈t.place.toList;rw[<- eM,<- q,em];simp
     .exfalso;refine hem ?_;show(it t.mask nn (it t.mask n _)).j∈t.place.toList;rw[<- eM];exact eb _ q
    obtain⟨i',e',hi',q1,q2,q3⟩:=pre hb m hm;have hii:i'=i:=by
     have:t.place[i']=t.place[i]:=q1.trans em;rcases QA i' i with q|q|q
     .have:=j8.mp T.tb.uA i' i (by simpa using hi') (by simpa using hil) q;simp at this;lia
     .exact q
     .have:=j8.mp T.tb.uA i i' (by simpa using hil) (by simpa using hi') q;simp at this;lia
    subst hii;rw[hi]at q2;cases q2;exact q3 c' rfl his
   .refine⟨n+nn,by rw[eM],λk hk'=>?_⟩;obtain⟨i,e,hi,q1,_⟩:=pre hb k hk';show _∈t.place.toList;rw[<- q1];simp
  |ca nn i hi hij hq hb=>
   dsimp only;obtain⟨e,he⟩:=at_ i hi;obtain⟨ms,c,rfl,his⟩:=el e (u9 he);have aX:wpAny (model prog w) A (do
    let some (_,y):=es[i]?|unsupported "internal:set-entry"
    let equal <- holding [y] (eqBool y (.ref b))
    let (es',_,t') <- setState a
    if true&&equal then return SetFound.there none
    let some same:=t'.sameMemory t.moves t.mask|unsupported "set.changed-during-lookup:is-the-new-block-at-the-old-address"
    let oh <- match(if same then t'.slot (it t.mask nn (it t.mask n (st t.mask ((tK prog w).hash (iK ns))))).j else .empty)with
     |.live i'=>match es'[i']? with
      |some (_,y')=>do pure (if <- isSame y' y then some i' else none)
      |none=>pure none
     |_=>pure none
    match oh with
    |none=>rule "set.search.anew";setSearchFrom a (.ref b) ((tK prog w).hash (iK ns)) true fuel none
    |some i'=>if equal then return .there (some i')else setSearchFrom a (.ref b) ((tK prog w).hash (iK ns)) true fuel (some (it t.mask (nn+1) (it t.mask n (st t.mask ((tK prog w).hash (iK ns))))))) Q E s:=by
    rw[he];dsimp only;refine bo (On ((tK prog w).eqBool hu his hk ?_));refine bo (OB ho hd (oj.fits T hs) ?_);dsimp only;by_cases hkk:iK ms=iK ns
    .rw[db hkk];simp only[Rn,O_];exact bF (h1 ⟨_,u9 he,c,rfl,by rw[<- hkk];exact his⟩)
    .rw[iA hkk];simp only[Re,gy,Oh];have hsm:t.sameMemory t.moves t.mask=some true:=by unfold SetTable.sameMemory;simp
     rw[hsm];dsimp only;rw[ck rfl,<- hij,o7 T.tb hi];dsimp only;rw[he];dsimp only;refine bo (wpAny_isSame_ref_self ?_);refine bo (bF ?_);rw[ck rfl]
     try dsimp only
     refine o9 ho hd T hs hu hk el h1 h2 fuel (n+(nn+1)) _ ?_ ?_ ⟨N,?_,?_,x3⟩
     .exact(eM t.mask n (nn+1) _).symm
     .intro k hk';by_cases hkn:k<n+nn
      .exact pre hb k hkn
      .have:k=n+nn:=by lia
       subst this;refine⟨i,_,hi,by rw[hij,eM],he,λc' hc' hh=>hkk ?_⟩;have:c=c':=by injection hc'
       subst this;exact(tK prog w).inj his hh
     .refine O1 λhc=>?_;have hN:N<n+(nn+1):=by lia
      by_cases hNn:N<n+nn
      .obtain⟨i',e',hi',q1,_⟩:=pre hb N hNn;exact x3 (by rw[<- q1];simp)
      .have:N=n+nn:=by lia
       subst this;exact x3 (by rw[eM,<- hij];simp)
     .lia
   split
   .refine bo (GT hk ?_ ?_)
    .intro y hy;obtain⟨e',he',rfl⟩:=j3.mp hy;have he2:e'∈es.toList:=by have:=(Array.mem_toList_iff).mp he';rw[Array.mem_filter]at this;exact Array.mem_toList_iff.mpr this.1
     obtain⟨ms',c',rfl,his'⟩:=el e' he2;exact⟨ms',c',rfl,his'⟩
    .simp only[gy,Oh];exact aX
   .exact aX
end
noncomputable def byT(w:World):Bool:=w.params.followText "set-order"
def SetAt(w:World)(h:Heap)(a:Addr)(es:Array (Int×Rz)):Prop:=∃o ep t,h.get? a=some o/\o.ExactSet/\o.data=.set es ep t/\oj t es/\iU t/\t.plain=true/\t.led=!byT w
def SetAt.keep(x:SetAt w h a es)(k:∀o,h.get? a=some o->h'.get? a=some o):SetAt w h' a es:=let ⟨o,ep,t,e,r⟩:=x;⟨o,ep,t,k o e,r⟩
def f_(h:iU t):t.place.size<=t.mask:=by unfold iU at h;lia
section
structure lL(es es':Array (Int×Rz)) (x:Int×Rz):Prop where
 mem:∀y,y∈es'.toList↔y=x\/y∈es.toList
 pw:∀R:Int×Rz->Int×Rz->Prop,(∀x y,R x y->R y x)->es.toList.Pairwise R->(∀e∈es.toList,R e x)->es'.toList.Pairwise R
 size:es'.size=es.size+1
def o_(es:Array (Int×Rz))(p:Nat)(x:Int×Rz)(hp:p<=es.size):lL es (SetTable.insertAt es p x) x:=by
 have e:=ST.insertAt_toList es p x hp;refine⟨λy=>?_,λR sy pw hx=>?_,ST.insertAt_size es p x hp⟩
 .rw[e,gZ,j5];constructor
  .grind
  .rintro (rfl|z)
   .exact .inr (.inl rfl)
   .rw[<- lR p es.toList,gZ]at z;exact z.elim .inl λz=>.inr (.inr z)
 .rw[e,OE];rw[<- lR p es.toList,OE]at pw;obtain⟨p1,p2,p3⟩:=pw;refine⟨p1,?_,?_⟩
  .rw[Ob]
   grind
  .grind
def lL.laid(g:lL es es1 x)(l:Laid m es1 es2 t):lL es es2 x:=⟨λy=>(l.mem y).trans (g.mem y),λR sy pw hx=>l.pw R sy (g.pw R sy pw hx),by rw[l.size,g.size]⟩
def iB{ep:Nat}{t:SetTable}(es':Array (Int×Rz))(t':SetTable){h:Heap}(ho:h.get? a=some o)(hex:o.ExactSet)(hd:o.data=.set es ep t) :
 ∃o',(h.update a (Obj.putSet es' t')).get? a=some o'/\o'.ExactSet/\o'.data=.set es' (ep+1) t':=by
 have:=OU (Obj.putSet es' t') ho (by rw[putSet_of es' t' hd];rfl);rw[putSet_of es' t' hd]at this;exact⟨_,this,hex,rfl⟩
def mY{t:SetTable}(h:uH t.mask)(h1:n*5<t.mask*3)(h2:(n+1)*5>=t.mask*3)(h3:n+1<=300):∃m,SetTable.sizeAbove (SetTable.grown (n+1))=m+1/\uH m/\(n+1)*5<m*3:=by
 rcases h with e|e|e|e<;>rw[e]at h1 h2
 .have:n=4:=by lia
  subst this;exact⟨31,by decide,.inr (.inl rfl),by lia⟩
 .have:n=18:=by lia
  subst this;exact⟨127,by decide,.inr (.inr (.inl rfl)),by lia⟩
 .have:n=76:=by lia
  subst this;exact⟨511,by decide,.inr (.inr (.inr rfl)),by lia⟩
 .lia
def As{a:Addr}{o:Obj}{es:Array (Int×Rz)}{Q:Unit->Rv->Prop}(ho:s.heap.get? a=some o)(hex:o.ExactSet)(hd:o.data=.set es ep t)(hf:t.fits es.size=true)(hm:uH m)(hn:SetTable.sizeAbove n=m+1)(hl:es.size*5<m*3)(hpl:t.plain=true)(hle:t.led=!byT w)
 (h:∀es' t',Laid m es es' t'->SetAt w (s.heap.update a (Obj.putSet es' t')) a es'->Q () {s with heap:=s.heap.update a (Obj.putSet es' t')}):wpAny (model prog w) A (setRelay a n) Q E s:=by
 have hmb:m<=511:=by rcases hm with rfl|rfl|rfl|rfl<;>lia
 unfold setRelay;refine bo (OB ho hd hf ?_);dsimp only;rw[cO (by rw[hn,Od];lia)];obtain⟨t',order,e,L,hlp,hp⟩:=C9 hm es (by lia) t.finger (t.movedTo m) t.led t.plain;have er:t.relaid (es.map (·.1)) n=some (t',order):=by unfold SetTable.relaid;rw[hn];exact e
 rw[er];show wpAny _ _ (do
  let r <- (do
   if(order.filterMap (es[·]?)).size != es.size then unsupported "internal:set-table-lost-an-element"
   pure (order.filterMap (es[·]?),t'):Sem (Array (Int×Rz)×SetTable))
  storeSet a r.1 r.2) _ _ _
 refine bo ?_;rw[cO (by rw[L.size];simp)];refine bF ?_;refine QB ho hd ?_ (by show(order.filterMap (es[·]?)).size<=_;rw[L.size,Od];lia);obtain⟨o',g1,g2,g3⟩:=iB (order.filterMap (es[·]?)) t' ho hex hd;refine h _ t' L ⟨o',_,t',g1,g2,g3,L.uC,?_,by rw[hp];exact hpl,by rw[hlp];exact hle⟩;unfold iU;rw[L.uC.len,L.size,L.mask];exact hl
end
section
def Au(T:oj t es)(hs:t.place.size<=t.mask)(h:Int):∃N,N<100000/\(it t.mask N (st t.mask h)).j∉t.place.toList:=by
 obtain⟨j,hj,hn⟩:=mU T.tb hs;obtain⟨N,h1,h2⟩:=Fj T.tb.dc hj (Va.st t.mask h);refine⟨N,?_,by rw[h2];exact hn⟩;have:t.mask<=511:=by rcases T.tb.dc with e|e|e|e<;>rw[e]<;>lia
 unfold SetTable.turns at h1;lia
def GU(hu:A.units<cLine)(hk:(tK prog w).is s.heap (iK ns) b)(hS:SetAt w s.heap a es)(el:Nw prog w s.heap es)(hz:es.size+1<=300)
 (h1:∀tk,s.toks<=tk->(∃e∈es.toList,∃c,e.2=.ref c/\(tK prog w).is s.heap (iK ns) c)->Q false {s with toks:=tk})
 (h2:∀tk h' es',s.toks<=tk->(∀e∈es.toList,∀c,e.2=.ref c->¬(tK prog w).is s.heap (iK ns) c)->Heap.SameBut a s.heap h'->SetAt w h' a es'->lL es es' ((tK prog w).hash (iK ns),.ref b)->Q true {s with heap:=h',toks:=tk}) :
 wpAny (model prog w) A (setAdd a (.ref b)) Q E s:=by
 obtain⟨o,ep,t,ho,hex,hd,T,sp,hpl,hle⟩:=hS;have hf:=oj.fits T (f_ sp);unfold setAdd;refine On ?_;refine bo ((tK prog w).pyHash hu hk ?_);have htk:s.toks<=s.toks+(tK prog w).draws (iK ns):=Nat.le_add_right _ _;generalize s.toks+(tK prog w).draws (iK ns)=tk at htk;unfold setAddHashed setAddHashedIn;refine On ?_;refine bo (OB (s:={s with toks:=tk}) ho hd hf ?_);dsimp only;have hbs:byScan (.ref b) es=false:=by simp[byScan,Value.scannable]
 rw[hbs];simp only[gy,Oh];unfold setSearch;obtain⟨N,n1,n2⟩:=Au T (f_ sp) ((tK prog w).hash (iK ns));refine bo (o9 (s:={s with toks:=tk}) ho hd T (f_ sp) hu hk el (λhin=>?_) (λhout j hj hjm hr=>?_) 100000 0 none rfl (λk hk'=>by lia) ⟨N,N3 _,by lia,n2⟩)
 .exact bF (h1 tk htk hin)
 .dsimp only;refine bo (OB (s:={s with toks:=tk}) ho hd hf ?_);dsimp only;obtain⟨T',em,ez⟩:=u6 T hj hjm (v:=Value.ref b) hr;have hpl':(t.put j).1.plain=true:=by rw[jh T.tb];exact hpl
  have hle':(t.put j).1.led=!byT w:=by rw[jh T.tb];exact hle
  rw[hpl'];simp only[O_];refine bo (GS (s:={s with toks:=tk}) hk ?_);simp only[O_];have hp:(t.put j).2<=es.size:=by rw[mn,<- T.len];exact(cz j T.tb.uA).1
  have g:=o_ es (t.put j).2 ((tK prog w).hash (iK ns),Value.ref b) hp;refine bo (QB (s:={s with toks:=tk}) ho hd ?_ (by rw[g.size,Od];lia));obtain⟨o1,q1,q2,q3⟩:=iB (SetTable.insertAt es (t.put j).2 ((tK prog w).hash (iK ns),Value.ref b)) (t.put j).1 ho hex hd;have sb:=Os s.heap a (Obj.putSet (SetTable.insertAt es (t.put j).2 ((tK prog w).hash (iK ns),Value.ref b)) (t.put j).1);have fill:(t.put j).1.fill=es.size+1:=by unfold SetTable.fill;rw[T'.tb.Jq,ez,T.len];rfl
  by_cases hfull:(t.put j).1.tooFull=true
  .rw[hfull];simp only[Bool.not_false,Rn,O_];unfold SetTable.tooFull at hfull;rw[fill,em]at hfull;have hfull:(es.size+1)*5>=t.mask*3:=by simpa using hfull
   have sp':es.size*5<t.mask*3:=by rw[<- T.len];exact sp
   obtain⟨m,m1,m2,m3⟩:=mY T.tb.dc sp' hfull hz;have le':(t.put j).1.place.size<=(t.put j).1.mask:=by
    rw[ez,em];unfold iU at sp;have:t.mask>=7:=by rcases T.tb.dc with e|e|e|e<;>rw[e]<;>lia
    lia
   refine bo (As (s:={s with heap:=s.heap.update a (Obj.putSet (SetTable.insertAt es (t.put j).2 ((tK prog w).hash (iK ns),Value.ref b)) (t.put j).1),toks:=tk}) q1 q2 q3 (oj.fits T' le') m2 m1 (by rw[g.size];exact m3) hpl' hle' λes' t' L sa=>?_);exact bF (h2 tk _ es' htk hout (sb.trans (Os _ a _)) sa (g.laid L))
  .have hfull:(t.put j).1.tooFull=false:=by simpa using hfull
   rw[hfull];simp only[Re,gy,Oh];refine bF (h2 tk _ _ htk hout sb ⟨o1,_,_,q1,q2,q3,T',?_,hpl',hle'⟩ g);unfold SetTable.tooFull at hfull;unfold iU;rw[fill]at hfull;rw[ez,T.len];simpa using hfull
end
noncomputable abbrev ga:=List Int×Addr
def Av(h:iK a=iK b):a=b:=by
 induction a generalizing b with
 |nil=>cases b with
  |nil=>rfl
  |cons _ _=>cases h
 |cons x a ih=>cases b with
  |nil=>cases h
  |cons y b=>grind
section
variable{κ μ:Type}{x:κ×μ}
structure g6(ent:κ×μ->Int×Rz) (es:Array (Int×Rz)) (xs:List (κ×μ)):Prop where
 el:∀e∈es.toList,∃x∈xs,e=ent x
 sz:es.size<=xs.length
 pw:es.toList.Pairwise λe e'=>∀x x',e=ent x->e'=ent x'->x∈xs->x'∈xs->x.1≠x'.1
 all:∀x∈xs,∃y∈xs,y.1=x.1/\ent y∈es.toList
def Dc(ent:κ×μ->Int×Rz)(xs:List (κ×μ)):Prop:=∀x∈xs,∀y∈xs,ent x=ent y->x.1=y.1
def g6.wide(v:g6 ent es xs)(un:Dc ent (xs++[x])):es.toList.Pairwise λe e'=>∀y y',e=ent y->e'=ent y'->y∈xs++[x]->y'∈xs++[x]->y.1≠y'.1:=by refine O4 (λ{a b} ha hb hab z z' e1 e2 m1 m2=>?_) v.pw;obtain⟨y,y1,rfl⟩:=v.el a ha;obtain⟨y',y1',rfl⟩:=v.el b hb;rw[un z m1 y (lP _ y1) e1.symm,un z' m2 y' (lP _ y1') e2.symm];exact hab y y' rfl rfl y1 y1'
def g6.seen(v:g6 ent es xs)(hin:∃y∈xs,y.1=x.1)(un:Dc ent (xs++[x])):g6 ent es (xs++[x]):=by
 refine⟨λe he=>?_,?_,v.wide un,λy hy=>?_⟩
 .obtain⟨z,h1,h2⟩:=v.el e he;exact⟨z,lP _ h1,h2⟩
 .have:=v.sz;simp;lia
 .obtain⟨y',h1,h2⟩ : ∃z∈xs,z.1=y.1:=by
   rcases gZ.mp hy with hy|hy
   .exact⟨y,hy,rfl⟩
   .rw[lQ]at hy;subst hy;exact hin
  obtain⟨z,g1,g2,g3⟩:=v.all y' h1;exact⟨z,lP _ g1,g2.trans h2,g3⟩
def g6.new(v:g6 ent es xs)(hin:¬∃y∈xs,y.1=x.1)(un:Dc ent (xs++[x]))(g:lL es es' (ent x)):g6 ent es' (xs++[x]):=by
 have hx:x∈xs++[x]:=p6 _ (lQ.mpr rfl);refine⟨λe he=>?_,?_,?_,λy hy=>?_⟩
 .rcases (g.mem e).mp he with rfl|he
  .exact⟨x,hx,rfl⟩
  .obtain⟨z,h1,h2⟩:=v.el e he;exact⟨z,lP _ h1,h2⟩
 .have:=v.sz;rw[g.size];simp;lia
 .refine g.pw _ (λa b hab z z' e1 e2 m1 m2 h=>hab z' z e2 e1 m2 m1 h.symm) (v.wide un) λe he z z' e1 e2 m1 m2 h=>?_;obtain⟨y,y1,rfl⟩:=v.el e he;exact hin ⟨y,y1,(un z m1 y (lP _ y1) e1.symm).symm.trans (h.trans (un z' m2 x hx e2.symm))⟩
 .rcases gZ.mp hy with hy|hy
  .obtain⟨z,h1,h2,h3⟩:=v.all y hy;exact⟨z,lP _ h1,h2,(g.mem _).mpr (.inr h3)⟩
  .rw[lQ]at hy;subst hy;exact⟨y,hx,rfl,(g.mem _).mpr (.inl rfl)⟩
end
section
variable{κ μ:Type}
def wF(prog:Ry)(w:World)(A:RA)(hb:Heap)(S:Addr)(ent:κ×μ->Int×Rz)(its:List (κ×μ)):Prop:=∀(x:κ×μ)(xs:List (κ×μ))(s:Rv)(es:Array (Int×Rz))(Q:Bool->Rv->Prop)(E:Rz->Rv->Prop),x∈its->(∀y∈xs,y∈its)->(∀b o,hb.get? b=some o->s.heap.get? b=some o)->SetAt w s.heap S es->g6 ent es xs->es.size+1<=300->
 (∀tk,s.toks<=tk->(∃y∈xs,y.1=x.1)->Q false {s with toks:=tk})->(∀tk h' es',s.toks<=tk->(¬∃y∈xs,y.1=x.1)->Heap.SameBut S s.heap h'->SetAt w h' S es'->lL es es' (ent x)->Q true {s with heap:=h',toks:=tk})->wpAny (model prog w) A (setAdd S (ent x).2) Q E s
variable{St:Nat->Rv->Prop}
def kj(W:WalksS prog w A.in1 I fp wr G n P St)(S:Addr)(hSf:S∉fp)(hb:Heap)(hbS:hb.get? S=none)(hbw:∀b∈wr,hb.get? b=none)(its:List (κ×μ))(hn:its.length=n)
 (hval:∀i v,P i v->∃x,its[i]?=some x/\v=(ent x).2) (un:Dc ent its) (add:wF prog w A.in1 hb S ent its) (hz:n<=300) :
 ∀(k i:Nat)(s:Rv)(es:Array (Int×Rz)),n-i=k->i<=n->St i s->(∀b o,hb.get? b=some o->s.heap.get? b=some o)->SetAt w s.heap S es->g6 ent es (its.take i)->
  (∀s' es',Moved (S::wr) G s s'->SetAt w s'.heap S es'->g6 ent es' its->R (.ok (.ret .none)) s')->
  codeAny (model prog w) A (.builtin "set.update.loop" ⟨[.ref S,.ref I],[]⟩) R s:=by
 have hSw:S∉wr:=λh=>hSf (W.sub _ h);have hsub:∀b∈wr,b∈S::wr:=λb hb=>CF _ hb;intro k;induction k with
 |zero=>
  intro i s es hk hi hst K hS v hR;have hin:i=n:=by lia
  subst hin;refine PZ Qc ?_;rw[QW OR _];show wpAny _ A.in1 (pyNext (.ref I) >>= _) _ _ s;refine bo (W.done s _ _ hst λs' hm=>?_);rw[Oe (by lia)]at v;have hR':=hR s' es (hm.mono hsub) (hS.keep λo e=>hm.heap S o hSw e) v;show wpAny _ A.in1 (ret Value.none) _ _ s';exact bF hR'
 |succ k ih=>
  intro i s es hk hi hst K hS v hR;have hlt:i<n:=by lia
  refine PZ Qc ?_;rw[QW OR _];show wpAny _ A.in1 (pyNext (.ref I) >>= _) _ _ s;refine bo (W.item i s _ _ hlt hst λu s' hP hst' hm=>?_);obtain⟨x,hx,rfl⟩:=hval i u hP;have htk:its.take (i+1)=its.take i++[x]:=by rw[QC,hx];rfl
  have un':Dc ent (its.take i++[x]):=by rw[<- htk];exact λy hy z hz=>un y (Ov hy) z (Ov hz)
  have K':∀b o,hb.get? b=some o->s'.heap.get? b=some o:=λb o e=>hm.heap b o (λz=>by rw[hbw b z]at e;cases e) (K b o e);have hS':=hS.keep λo e=>hm.heap S o hSw e;have hes:es.size+1<=300:=by have:=v.sz;rw[N5]at this;lia
  show wpAny _ A.in1 (holding [(ent x).2] (setAdd S (ent x).2) >>= _) _ _ s';refine bo (On (add x (its.take i) s' es _ _ (OD hx) (λy hy=>Ov hy) K' hS' v hes (λtk htk' hin=>?_) λtk h' es' htk' hnin hsb hSn g=>?_))
  .refine bF ⟨plainId_quiet OR _,ih (i+1) _ es (by lia) hlt (W.frame _ s' _ _ hst' htk' λb hb o e=>e) K' hS' (by rw[htk];exact v.seen hin un') λs'' es'' hm'' hS'' v''=>?_⟩;exact hR s'' es'' (Moved.trans W.gtrans ((hm.mono hsub).then_heap htk' λb o hb e=>e) hm'') hS'' v''
  .have K2:∀b o,hb.get? b=some o->h'.get? b=some o:=λb o e=>(hsb.2 b (λz=>by rw[z,hbS]at e;cases e)).trans (K' b o e);refine bF ⟨plainId_quiet OR _,ih (i+1) _ es' (by lia) hlt (W.frame _ s' _ _ hst' htk' λb hb o e=>?_) K2 hSn (by rw[htk];exact v.new hnin un' g) λs'' es'' hm'' hS'' v''=>?_⟩
   .rw[hsb.2 b (λh:b=S=>hSf (h▸hb))];exact e
   .refine hR s'' es'' (Moved.trans W.gtrans ((hm.mono hsub).then_heap htk' λb o hb e=>?_) hm'') hS'' v'';rw[hsb.2 b (λh:b=S=>hb (h▸uB))];exact e
abbrev eT(prog:Ry)(w:World)(x:ga):Int×Rz:=((tK prog w).hash (iK x.1),Value.ref x.2)
def J5(his:∀x∈its,(tK prog w).is hb (iK x.1) x.2):Dc (eT prog w) its:=λx hx y hy e=>Av ((tK prog w).inj (his x hx) (by
 have e:x.2=y.2:=by injection e with _ e;injection e
 rw[e];exact his y hy))
def Dd(hu:A.units<cLine)(his:∀x∈its,(tK prog w).is hb (iK x.1) x.2):wF prog w A hb S (eT prog w) its:=λx xs s es Q E hx hs K hS v hz h1 h2=>by
 have hx':∀y∈xs,(tK prog w).is s.heap (iK y.1) y.2:=λy hy=>qo (his y (hs y hy)) K;refine GU hu (qo (his x hx) K) hS (λe he=>?_) hz (λtk t hin=>h1 tk t ?_) λtk h' es' t hout sb sa g=>h2 tk h' es' t (λhin=>?_) sb sa g
 .obtain⟨y,hy,rfl⟩:=v.el e he;exact⟨_,_,rfl,hx' y hy⟩
 .obtain⟨e,he,c,hc,hh⟩:=hin;obtain⟨y,y1,rfl⟩:=v.el e he;injection hc with hc;subst hc;exact⟨y,y1,Av ((tK prog w).inj (hx' y y1) hh)⟩
 .obtain⟨y,y1,y2⟩:=hin;obtain⟨z,z1,z2,z3⟩:=v.all y y1;exact hout _ z3 z.2 rfl (by rw[<- y2,<- z2];exact hx' z z1)
end
noncomputable abbrev setNew(led:Bool):Obj:={ cls:=.type "set",dict:=none,data:=.set #[] 0 (.fresh 0 0 led) }
def yw(e:h.get? a=some (setNew (!byT w))):SetAt w h a #[]:=by refine⟨_,0,_,e,⟨rfl,rfl,rfl⟩,rfl,⟨⟨.inl rfl,rfl,List.Pairwise.nil,λj hj=>nomatch hj⟩,rfl,λq hq=>nomatch hq⟩,?_,rfl,rfl⟩;show 0*5<7*3;decide
section
def oA(a:Rz)(h:Q₁ (.ref s.heap.objs.size) {s with heap:=s.heap.push (setNew (!byT w))}) :
 codeAny (model prog w) A (.call (.builtin "set.__new__") ⟨[.type "set",a],[]⟩) (wants Q₁ E) s:=by
 refine codeAny_of_tree (show wpAny _ A.in1 (do checkBuiltinCall "set.__new__" ⟨[.type "set",a],[]⟩;again (.builtin "set.__new__" ⟨[.type "set",a],[]⟩)) _ _ s from ?_);refine bo (wpAny_of_eq (PySem.F.newCall_set_1 a) (bF ⟨plainId_quiet PySem.F.plain_set_new _,PZ PySem.F.entry_set_new ?_⟩));rw[QW PySem.F.plain_set_new _];unfold Builtin.«set.__new__» Builtin.Frozenset.newClass;have hsub:=sub_set_self;obtain⟨hp,g,d,tk,os⟩:=s;dsimp only;wp_walk;refine wpAny_askSetting (bF ?_);dsimp only;simp only[newObj];refine bo (wpAny_alloc (bF ?_));exact bF h
def pd{κ μ:Type}{ent:κ×μ->Int×Rz}{l:Addr}{items:Array Rz}{nl:Nat}{its:List (κ×μ)} {Q:Rz->Rv->Prop} (hh:A.handled=none) (hl:s.heap.get? l=some { cls:=.type "list",data:=.seq items nl }) (hn:its.length=items.size) (hz:items.size<=300)
 (hval:∀(i:Nat)(v:Rz),items[i]?=some v->∃x,its[i]?=some x/\v=(ent x).2) (un:Dc ent its) (add:wF prog w A.in1.in1.in1 s.heap s.heap.objs.size ent its)
 (h:∀(h':Heap)(tk:Nat)(es:Array (Int×Rz)),SetAt w h' s.heap.objs.size es->g6 ent es its->(∀b o,b<s.heap.objs.size->s.heap.get? b=some o->h'.get? b=some o)->Q (.ref s.heap.objs.size) {s with heap:=h',toks:=tk}) :
 wpAny (model prog w) A (call (.type "set") [.ref l]) Q E s:=by
 obtain⟨c,tl,hmro⟩:=PySem.F.called_set.mro;have hmade:=PySem.F.called_set.made;have hsub:=PySem.F.called_set.sub;refine wpAny_call (codeAny_of_tree ?_);show wpAny _ _ (callAny (.type "set") _) _ _ _;refine bF ⟨Code.quiet_builtin _ (by decide +kernel),PZ PySem.F.entry_type_call ?_⟩;rw[Around.under_plain (weight_type_call_type "set" [.ref l] []) rfl];have h1:=PySem.F.called_set.notType;have h2:=PySem.F.called_set.canCreate;have hct:=PySem.F.typeCall_set_1 (.ref l)
 repeat (any_goals (first|assumption|wp_step))
 refine Q6 (oA (.ref l) (E:=E) (Q₁:=λobj s₁=>obj=.ref s.heap.objs.size/\s₁={s with heap:=s.heap.push (setNew (!byT w))}) ⟨rfl,rfl⟩) λr s₁ hr=>?_;rcases r with e|fl
 .exact hr
 cases fl with
 |ret obj=>
  obtain⟨rfl,rfl⟩:=hr;have hS:(s.heap.push (setNew (!byT w))).get? s.heap.objs.size=some (setNew (!byT w)):=jY _ rfl;have hT:Shared.TypeIs {s with heap:=s.heap.push (setNew (!byT w))} (.ref s.heap.objs.size) "set":=⟨_,hS,rfl⟩;have hli:=PySem.F.called_set.init.lookup;have hbi:=PySem.F.called_set.init.bind (.ref s.heap.objs.size)
  repeat (any_goals (first|assumption|wp_step))
  refine Q6 (codeAny_call_builtin (R:=wants (λr s₂=>r=.none/\∃h' tk es,s₂={s with heap:=h',toks:=tk}/\SetAt w h' s.heap.objs.size es/\g6 ent es its/\
   (∀b o,b<s.heap.objs.size->s.heap.get? b=some o->h'.get? b=some o)) E) PySem.F.called_set.init.plain PySem.F.entry_set_init (check_set_init_1 hT ?_)) λr₂ s₂ hr₂=>?_
  .have hol':(s.heap.push (setNew (!byT w))).get? l=some { cls:=.type "list",data:=.seq items nl }:=cj _ hl;have hsls:=PySem.F.sub_list_set;have hslf:=PySem.F.sub_list_frozenset;have hne:(Value.type "list"==Value.type "dict")=false:=by decide
   have hl1:(s.heap.push (setNew (!byT w))).IsList l items:=⟨_,hol',rfl,nl,rfl⟩;unfold Builtin.«set.__init__» noKeywords Builtin.Frozenset.updateFrom;generalize hPI:pyIter=PI
   wp_walk
   subst hPI;refine P2 hl1 (bo (wpAny_runValue ?_));have hlS:l<s.heap.objs.size:=jZ hl;have hh3:A.in1.in1.in1.handled=none:=by simp[hh]
   have hneI:l≠(s.heap.push (setNew (!byT w))).objs.size:=by rw[Rf];exact N9 (QD hlS)
   have hno:∀b,s.heap.objs.size<=b->s.heap.get? b=none:=λb hb=>by
    cases q:s.heap.get? b with
    |none=>rfl
    |some o=>exact absurd (jZ q) (Nat.not_lt.mpr hb)
   refine kj ((Walks.list hh3 _ l hneI items).toS) s.heap.objs.size ?hSf s.heap (hno _ (cN _)) ?hbw its hn hval un add hz (items.size-0) 0 _ #[] rfl (N3 _) ⟨⟨_,jY _ rfl,rfl,rfl⟩,(hl1.push _)⟩
    (λb o e=>cj _ (cj _ e)) (yw (cj _ hS)) ⟨λe he=>(nomatch he),N3 _,List.Pairwise.nil,λx hx=>(nomatch hx)⟩ ?hR
   case hSf=>rw[Rf];simp only[j5,PK,or_false,not_or];exact⟨N9 (Rp _),QI hlS⟩
   case hbw=>intro b hb;simp only[j5,PK,or_false]at hb;subst hb;exact hno _ (by rw[Rf];lia)
   case hR=>intro s' es hm hS' v;obtain⟨h',g',d',tk',os'⟩:=s';have eg:g'=s.gens:=hm.gens;have ed:d'=s.drawn:=hm.drawn;have eo:os'=s.os:=hm.os;subst eg ed eo;refine bF (bF ⟨rfl,h',tk',es,rfl,hS',v,λb o hb e=>hm.heap b o ?_ (cj _ (cj _ e))⟩);simp only[j5,PK,or_false,not_or];exact⟨N9 hb,by rw[Rf];exact N9 (QD hb)⟩
  .rcases r₂ with e|fl₂
   .exact hr₂
   cases fl₂ with
   |ret r=>
    obtain⟨rfl,h',tk,es,rfl,hS',v,hk'⟩:=hr₂
    repeat (any_goals (first|assumption|wp_step))
    exact h _ _ _ hS' v hk'
   |_=>exact hr₂.elim
 |_=>exact hr.elim
end
theorem mZ{α:Type}:∀(l:List α)(i:Nat)(h:i<l.length),(l[i]::l.eraseIdx i).Perm l
 |[],i,h=>by simp at h
 |x::l,0,h=>Rg _
 |x::l,i+1,h=>by have ih:=mZ l i (by simpa using h);have e:(x::l).eraseIdx (i+1)=x::l.eraseIdx i:=rfl;rw[e,List.getElem_cons_succ];exact(List.Perm.swap _ _ _).trans (List.Perm.cons x ih)
theorem wG{α:Type}(next:Nat->Nat):∀(fuel k:Nat)(left:List α)(out:Array α),left.length=fuel->(pickOrder.go next fuel k left out).toList.Perm (out.toList++left)
 |0,k,left,out,h=>by have:left=[]:=Qn.mp h;subst this;unfold pickOrder.go;simp
 |f+1,k,left,out,h=>by have hi:next k%left.length<left.length:=Nat.mod_lt _ (by lia);unfold pickOrder.go;rw[Ol hi];dsimp only;have ih:=wG next f (k+1) (left.eraseIdx (next k%left.length)) (out.push left[next k%left.length]) (by rw[List.length_eraseIdx,ck hi];lia);refine ih.trans ?_;rw[Ps,fC];exact List.Perm.append_left _ (mZ left _ hi)
def yx{α:Type}(next:Nat->Nat)(xs:Array α):(pickOrder next xs).toList.Perm xs.toList:=by have:=wG next xs.size 0 xs.toList #[] (by simp);unfold pickOrder;simpa using this
def g9(w:World)(S:Addr)(ep:Nat)(es:Array (Int×Rz)):Array (Int×Rz):=if byT w then pickOrder (w.params.setOrder S ep) es else es
def sH(w:World)(S:Addr)(ep:Nat)(es:Array (Int×Rz)):(g9 w S ep es).toList.Perm es.toList:=by
 unfold g9;split
 .exact yx _ _
 .exact Rg _
def ji(w:World)(S:Addr)(ep:Nat)(es:Array (Int×Rz)):(g9 w S ep es).size=es.size:=by have:=(sH w S ep es).length_eq;simpa using this
def cA(w:World)(t:SetTable):Nat->Nat
 |0=>0
 |i+1=>if byT w then 0 else t.place.getD i 0+1
def u_(T:Tb t):∀(i:Nat),i<=t.place.size->SetTable.below t.place (match i with|0=>0|i+1=>t.place.getD i 0+1)=i
 |0,_=>by
  obtain⟨a,b,c⟩:=cz 0 T.uA;dsimp only;rcases Nat.eq_zero_or_pos (SetTable.below t.place 0)with h|h
  .exact h
  .have:=b 0 (by lia) h;lia
 |i+1,hi=>by
  dsimp only;have e:t.place.getD i 0=t.place[i]:=by simp[Array.getD,show i<t.place.size by lia]
  rw[e];obtain⟨a,b,c⟩:=cz (t.place[i]+1) T.uA;rcases QA (SetTable.below t.place (t.place[i]+1)) (i+1)with q|q|q
  .have h1:=c i (by lia) (by lia);lia
  .exact q
  .have h1:=b (i+1) (by lia) q;have h2:=j8.mp T.uA i (i+1) (by simp;lia) (by simp;lia) (by lia);simp at h2;lia
def slot_setiter_next:Slot "set_iterator" "__next__" "set_iterator.__next__":=.of (owner:="set_iterator") (n:="__next__") (by rw[typeLookup_type,builtinLookup_eq_fast];kernel_rfl) (by decide +kernel) (by decide +kernel) (by decide +kernel) (by first|exact .inl (by decide +kernel)|exact .inr (by decide +kernel)) (by rw[isSubtype_type];kernel_rfl)
def eO:entryFor table "set_iterator.__next__"=some Builtin.«set_iterator.__next__»:=entryFor_of_fast (by kernel_rfl)
def fK(a:Rz):argsOk "set_iterator.__next__" ⟨[a],[]⟩:=by(unfold argsOk;kernel_rfl)
def oB:entryFor table "set.__iter__"=some Builtin.«frozenset.__iter__»:=entryFor_alias (id':="frozenset.__iter__") (by kernel_rfl) rfl (by decide +kernel) (by kernel_rfl)
def SetIt(h:Heap)(it S:Addr)(slot i n ep:Nat):Prop:=∃o,h.get? it=some o/\o.cls=.type "set_iterator"/\o.data=.fields #[.int slot 0,.int i 0,.ref S,.int n 0,.int ep 0]
def SetIt.typeIs{s:Rv}{it S:Addr}{slot i n ep:Nat}(x:SetIt s.heap it S slot i n ep):s.TypeIs (.ref it) "set_iterator":=let ⟨o,ho,hc,_⟩:=x;⟨o,ho,hc⟩
def ko(h:Heap)(S:Addr)(es:Array (Int×Rz))(ep:Nat)(t:SetTable):Prop:=∃o,h.get? S=some o/\o.ExactSet/\o.data=.set es ep t
section
def vc(h:Q (byT w) s):wpAny (model prog w) A setsByText Q E s:=by unfold setsByText;exact bo (wpAny_askSetting (bF h))
def m6(r:ko s.heap S es ep t)(T:oj t es)(hs:t.place.size<=t.mask)(hpl:t.plain=true)(hle:t.led=!byT w)(hi:i<=es.size)
 (h:Q (((g9 w S ep es)[i]?).map λe=>(e.2,cA w t (i+1))) s):wpAny (model prog w) A (setNext S (cA w t i) i ep) Q E s:=by
 obtain⟨o,ho,hex,hd⟩:=r;have hf:=oj.fits T hs;unfold setNext;refine bo (OB ho hd hf ?_);dsimp only;refine bo (vc ?_);cases hb:byT w with
 |true=>
  simp only[O_];rw[cO (by simp)];refine bo ?_;unfold setWalk;refine bo (OB ho hd hf ?_);dsimp only;refine bo (vc ?_);rw[hb];simp only[O_];refine bo (wpAny_askSetting (bF ?_));have e1:cA w t (i+1)=0:=by unfold cA;rw[hb];rfl
  have e2:cA w t i=0:=by cases i with|zero=>rfl|succ i=>(unfold cA;rw[hb];rfl)
  rw[e2];rw[e1]at h;unfold g9 at h;rw[hb]at h;exact bF h
 |false=>
  simp only[gy,Oh];rw[hb]at hle;have hle:t.led=true:=hle;show wpAny _ _ (if(!t.plain&&decide (es.size>1))=true then _ else _) _ _ _;rw[hpl];simp only[OH,Qa,gy,Oh];show wpAny _ _ ((if(!t.led&&!es.isEmpty)=true then unsupported "set:maker-not-led" else pure ()) >>= λ_=>_) _ _ _;rw[hle];simp only[OH,Qa,gy,Oh];refine bo (bF ?_);have e1:SetTable.below t.place (cA w t i)=i:=by
   have:=u_ T.tb i (by rw[T.len];exact hi);cases i with
   |zero=>exact this
   |succ i=>unfold cA;rw[hb];exact this
  have eo:g9 w S ep es=es:=by unfold g9;rw[hb];rfl
  rw[eo]at h;rw[e1];by_cases hlt:i<es.size
  .have g1:es[i]?=some es[i]:=by simp[hlt]
   have hp:i<t.place.size:=by rw[T.len];exact hlt
   have g2:t.place[i]?=some t.place[i]:=by simp[hp]
   rw[g1]at h;rw[g1,g2];have e2:cA w t (i+1)=t.place[i]+1:=by unfold cA;rw[hb];simp[Array.getD,hp]
   rw[e2]at h;exact bF h
  .have g1:es[i]?=none:=by simp;lia
   rw[g1]at h;rw[g1];exact bF h
end
def fL:Slot "set_iterator" "__iter__" "set_iterator.__iter__":=.of (owner:="set_iterator") (n:="__iter__") (by rw[typeLookup_type,builtinLookup_eq_fast];kernel_rfl) (by decide +kernel) (by decide +kernel) (by decide +kernel) (by first|exact .inl (by decide +kernel)|exact .inr (by decide +kernel)) (by rw[isSubtype_type];kernel_rfl)
def ja:entryFor table "set_iterator.__iter__"=some Builtin.«dict_keyiterator.__iter__»:=entryFor_alias (id':="dict_keyiterator.__iter__") (by kernel_rfl) rfl (by decide +kernel) (by kernel_rfl)
def jj(a:Rz):argsOk "set_iterator.__iter__" ⟨[a],[]⟩:=by(unfold argsOk;kernel_rfl)
section
def pf{it S:Addr}{slot i n ep:Nat}{P:PySem.Fin->Rv->Prop}{F:Rz->Rv->Prop}(ho:s.heap.get? it=some o)(hd:o.data=.fields #[.int slot 0,.int i 0,.ref S,.int n 0,.int ep 0])
 (r:ko s.heap S es ep t) (hf:t.fits es.size=true) (hn:n=es.size)
 (h:wpAny (model prog w) A (setNext S slot i ep) (λm s'=>match m with
   |some (x,next)=>wpAny (model prog w) A (do setField (.ref it) 0 (rawInt next);setField (.ref it) 1 (rawInt (i+1));ret x) P F s'
   |none=>wpAny (model prog w) A (do setField (.ref it) 2 .none;raiseNew (<- newExc (.type "StopIteration") [])) P F s') F s) :
 wpAny (model prog w) A (Builtin.«set_iterator.__next__» ⟨[.ref it],[]⟩) P F s:=by
 obtain⟨os,hos,hex,hds⟩:=r;unfold Builtin.«set_iterator.__next__» slotArgs;simp only[List.isEmpty_nil,OH,gy,Oh,Qo,Pt];refine bo (bF ?_);refine bo (wpAny_fieldsOf ho hd ?_);dsimp only;refine bo ?_;unfold setEntries;refine bo (OB hos hds hf (bF ?_));dsimp only;rw[cO (by rw[hn];simp)];simp only[P3];refine bo (OT h (λm s' hm=>?_) λ_ _ e=>e);cases m with
 |none=>exact hm
 |some p=>obtain⟨x,next⟩:=p;exact hm
def oC{it S:Addr}(hne:S≠it)(hh:A.handled=none){es:Array (Int×Rz)}{ep:Nat}{t:SetTable}(T:oj t es)(hs:t.place.size<=t.mask)(hpl:t.plain=true)(hle:t.led=!byT w) :
 Walks prog w A it [it,S] [it] es.size (λi v=>((g9 w S ep es)[i]?).map (·.2)=some v) (λi h=>SetIt h it S (cA w t i) i es.size ep/\ko h S es ep t) where
 sub:=λb hb=>by simp at hb;simp[hb]
 frame:=λi h h' st hk=>by obtain⟨⟨o,h1,r1⟩,⟨o2,h2,r2⟩⟩:=st;exact⟨⟨o,hk it (by simp) o h1,r1⟩,⟨o2,hk S (by simp) o2 h2,r2⟩⟩
 item:=λi s Q E hi st hQ=>by
  obtain⟨x1,x2⟩:=st;have hT:=x1.typeIs;obtain⟨o,ho,hc,hd⟩:=x1;have x2':=x2;obtain⟨o2,ho2,hex2,hd2⟩:=x2;unfold pyNext;refine bo (QZ (OM (name:=Str.ofString "__next__") hT slot_setiter_next (Ow slot_setiter_next hT eO ?_ (fK _))));refine pf ho hd x2' (oj.fits T hs) rfl (m6 x2' T hs hpl hle (by lia) ?_);have hio:i<(g9 w S ep es).size:=by rw[ji];exact hi
  have e1:(g9 w S ep es)[i]?=some (g9 w S ep es)[i]:=by simp[hio]
  rw[e1];show wpAny _ _ _ _ _ _;refine bo (Rh ho hd (by simp) ?_);have d1:=Obj.data_mapFields hd (·.setIfInBounds 0 (rawInt ((cA w t (i+1):Nat):Int)));have ho1:=OU (Obj.mapFields (·.setIfInBounds 0 (rawInt ((cA w t (i+1):Nat):Int)))) ho (Obj.isFreed_of_fields d1);refine bo (Rh (s:={s with heap:=_}) ho1 d1 (by simp) ?_);have d2:=Obj.data_mapFields d1 (·.setIfInBounds 1 (rawInt ((i:Int)+1)));have ho3:=OU (Obj.mapFields (·.setIfInBounds 1 (rawInt ((i:Int)+1)))) ho1 (Obj.isFreed_of_fields d2);have sb:=(Os s.heap it (Obj.mapFields (·.setIfInBounds 0 (rawInt ((cA w t (i+1):Nat):Int))))).trans (Os _ it (Obj.mapFields (·.setIfInBounds 1 (rawInt ((i:Int)+1)))));refine bF ⟨_,rfl,bF ?_⟩;refine hQ _ _ s.toks (by rw[e1];rfl) ⟨⟨_,ho3,?_,?_⟩,o2,(sb.2 S hne).trans ho2,hex2,hd2⟩ (λb o hb e=>(sb.2 b (λz=>hb (by simp[z]))).trans e)
  .exact(Obj.cls_mapFields ..).trans ((Obj.cls_mapFields ..).trans hc)
  .rw[d2];simp[rawInt]
 done:=λs Q E st hQ=>by
  obtain⟨x1,x2⟩:=st;have hT:=x1.typeIs;obtain⟨o,ho,hc,hd⟩:=x1;unfold pyNext;refine bo (QZ (OM (name:=Str.ofString "__next__") hT slot_setiter_next (Ow slot_setiter_next hT eO ?_ (fK _))));refine pf ho hd x2 (oj.fits T hs) rfl (m6 x2 T hs hpl hle (cN _) ?_);have e1:(g9 w S ep es)[es.size]?=none:=by simp[ji]
  rw[e1];show wpAny _ _ _ _ _ _;refine bo (Rh ho hd (by simp) ?_);refine bo ?_;simp only[newExc,newTuple];refine bo (Oy ?_ (by size_fits));refine bo (m:=firstArgMember _ _) (wpAny_of_eq (a:=Value.none) (by first|rfl|(simp only[firstArgMember];rfl)) ?_);refine Oy ?_ (by size_fits);simp only[raiseNew];refine bo (wpAny_handled ?_);rw[show A.in1.handled=none from hh];refine bo (bF (wpAny_throw ?_));refine bo (Qd (T:="StopIteration") (b:=true) ⟨_,jY _ rfl,rfl⟩ isSubtype_stop ?_);refine bF (hQ _ s.toks λb o hb e=>?_);exact cj _ (cj _ (((Os ..).2 b (λz=>hb (by simp[z]))).trans e))
 self:=λ_ _ _ _ st hQ=>by refine QE st.1.typeIs fL (Ow fL st.1.typeIs ja ?_ (jj _));exact bF ⟨_,rfl,"set_iterator",_,st.1.typeIs,slot_setiter_next.lookup,hQ⟩
end
section
def ve(r:ko s.heap S es ep t)(hf:t.fits es.size=true)(hpl:t.plain=true)
 (h:Q (.ref s.heap.objs.size) { s with heap:=s.heap.push { cls:=.type "set_iterator",data:=.fields #[.int 0 0,.int 0 0,.ref S,.int es.size 0,.int ep 0] } }):wpAny (model prog w) A (pyIter (.ref S)) Q E s:=by
 obtain⟨o,ho,hex,hd⟩:=r;have hT:s.TypeIs (.ref S) "set":=⟨o,ho,hex.1⟩;refine QE hT PySem.F.slot_set_iter (Ow PySem.F.slot_set_iter hT oB ?_ (PySem.F.args_set_iter_1 _));unfold Builtin.«frozenset.__iter__» Builtin.Frozenset.slot0 slotArgs;simp only[List.isEmpty_nil,OH,gy,↓reduceIte,bind_assoc,Qo,Pt];unfold Builtin.Frozenset.addrOf Builtin.Frozenset.sizeOf setEntries;refine bo (bF (bo (bF ?_)));simp only[bind_assoc];refine bo (OB ho hd hf (bo (bF (bo (bF ?_)))));refine bo ?_;unfold setDrawn;refine bo (OB ho hd hf ?_);dsimp only;refine bo (vc (bF ?_));show wpAny _ _ (if(!byT w&&(!t.plain&&decide (es.size>1)))=true then _ else _) _ _ _;rw[hpl];simp only[OH,Qa,Re,gy,Oh];refine bo (bF ?_);refine bo (wpAny_setEpoch_of ho hd hf ?_);exact bo (Oy (bF ⟨_,rfl,"set_iterator",_,⟨_,jY _ rfl,rfl⟩,slot_setiter_next.lookup,h⟩))
def Aw(hT:s.TypeIs (.ref S) "set") (h:Q false s):wpAny (model prog w) A (Builtin.List.listLengthHint (.ref S)) Q E s:=by
 unfold Builtin.List.listLengthHint;refine bo (Pp hT PySem.F.slot_set_len.lookup ?_);dsimp only;have hsp:splitId "set.__len__"=some ("set","__len__"):=by decide +kernel
 rw[hsp];dsimp only;refine bo (Qd hT sub_set_self ?_);simp only[OH,gy,Oh];rw[ck (by decide +kernel)];refine bo (QK hT ?_);exact bF h
def sI(r:ko s.heap S es ep t)(T:oj t es)(hs:t.place.size<=t.mask)(hpl:t.plain=true)(hle:t.led=!byT w)(hh:A.handled=none)(hz:es.size<=300)
 (h:∀h' tk,s.heap.objs.size<h'.objs.size->(∀b o,s.heap.get? b=some o->h'.get? b=some o)->Q ((g9 w S ep es).toList.map (·.2)) {s with heap:=h',toks:=tk}):wpAny (model prog w) A (collect (.ref S)) Q E s:=by
 have hf:=oj.fits T hs;obtain⟨o,ho,hex,hd⟩:=r;have hlt:S<s.heap.objs.size:=jZ ho;unfold collect;refine bo (wpAny_runValue (PZ entry_proto_collect' (show wpAny _ _ (do again (.builtin "list.__iadd__" ⟨[<- newList [],.ref S],[]⟩)) _ _ s from ?_)));refine bo (wpAny_newList (bF ⟨Code.quiet_builtin _ (by decide +kernel),PZ entry_list_iadd' ?_⟩));show wpAny _ _ (Builtin.List.listExtendWith (.ref s.heap.objs.size) (.ref S) (.ref s.heap.objs.size)) _ _ { s with heap:=s.heap.push (seqObj "list" #[] 0) };have ho1:(s.heap.push (seqObj "list" #[] 0)).get? S=some o:=cj _ ho;have hT1:Shared.TypeIs { s with heap:=s.heap.push (seqObj "list" #[] 0) } (.ref S) "set":=⟨o,ho1,hex.1⟩;unfold Builtin.List.listExtendWith;refine bo (QK hT1 ?_);have q1:Builtin.List.listSameRef (.ref s.heap.objs.size) (.ref S)=false:=by simp[Builtin.List.listSameRef,QI hlt]
 have q2:(Value.type "set"==Value.type "list")=false:=by decide
 have q3:(Value.type "set"==Value.type "tuple")=false:=by decide
 simp only[q1,q2,q3,Bool.or_false,gy,Oh];refine bo (ve ⟨o,ho1,hex,hd⟩ hf hpl ?_);have hT2:Shared.TypeIs { s with heap:=(s.heap.push (seqObj "list" #[] 0)).push { cls:=.type "set_iterator",data:=.fields #[.int 0 0,.int 0 0,.ref S,.int es.size 0,.int ep 0] } } (.ref S) "set":=⟨o,cj _ ho1,hex.1⟩;refine bo (On (Aw hT2 ?_));rw[ck (by decide +kernel)];refine bo (Q1 ?_);have hS0:((s.heap.push (seqObj "list" #[] 0)).push { cls:=.type "set_iterator",data:=.fields #[.int 0 0,.int 0 0,.ref S,.int es.size 0,.int ep 0] }).get? s.heap.objs.size=some (seqObj "list" #[] 0):=cj _ (jY _ rfl);refine bo (show wpAny _ _ (updateSeq s.heap.objs.size (·.push .none) >>= λ_=>updateSeq s.heap.objs.size (·.pop)) _ _ _ from ?_);refine bo (wpAny_updateSeq hS0 rfl ?_);have hS1:=OU (Obj.mapSeq (·.push Value.none)) hS0 rfl;refine wpAny_updateSeq (hz:=by seq_fits) hS1 rfl ?_;have hS2:=OU (Obj.mapSeq (·.pop)) hS1 rfl;generalize hH:(((s.heap.push (seqObj "list" #[] 0)).push { cls:=.type "set_iterator",data:=.fields #[.int 0 0,.int 0 0,.ref S,.int es.size 0,.int ep 0] }).update s.heap.objs.size (Obj.mapSeq (·.push Value.none))).update s.heap.objs.size (Obj.mapSeq (·.pop))=H2 at *;have oth:∀b o,b≠s.heap.objs.size->((s.heap.push (seqObj "list" #[] 0)).push { cls:=.type "set_iterator",data:=.fields #[.int 0 0,.int 0 0,.ref S,.int es.size 0,.int ep 0] }).get? b=some o->H2.get? b=some o:=λb o hb e=>by rw[<- hH];exact(OF _ _ (Oz hb)).trans ((OF _ _ (Oz hb)).trans e)
 have old:∀b o,s.heap.get? b=some o->H2.get? b=some o:=λb o e=>oth b o (N9 (jZ e)) (cj _ (cj _ e));have hsz1:(s.heap.push (seqObj "list" #[] 0)).objs.size=s.heap.objs.size+1:=size_push' _ _;have hit:H2.get? (s.heap.objs.size+1)=some { cls:=.type "set_iterator",data:=.fields #[.int 0 0,.int 0 0,.ref S,.int es.size 0,.int ep 0] }:=oth _ _ (by lia) (by rw[<- hsz1];exact jY _ rfl);refine bF ⟨plainId_quiet PySem.F.plain_extend_loop _,?_⟩;show codeAny _ _ (.builtin "list.extend.loop" ⟨[.ref s.heap.objs.size,.ref (s.heap.push (seqObj "list" #[] 0)).objs.size,.ref s.heap.objs.size],[]⟩) _ _;rw[hsz1];have W:Walks prog w A.in1 (s.heap.objs.size+1) [s.heap.objs.size+1,S] [s.heap.objs.size+1] es.size (λi v=>((g9 w S ep es)[i]?).map (·.2)=some v) (λi h=>SetIt h (s.heap.objs.size+1) S (cA w t i) i es.size ep/\ko h S es ep t):=oC (N9 (QD hlt)) (by simp[hh]) T hs hpl hle;refine codeAny_extend_loopS W.toS (by rw[Od];lia) s.heap.objs.size (by simp only[j5,PK,or_false,not_or];exact⟨N9 (Rp _),QI hlt⟩) _ es.size 0 _ #[] _ rfl (N3 _) ⟨⟨_,hit,rfl,rfl⟩,o,old S o ho,hex,hd⟩ (by rw[hS2];rfl) (ItemsOf.nil _) λs' acc c hm hS' hacc=>?_;obtain⟨h',g',d',tk',os'⟩:=s';have eg:g'=s.gens:=hm.gens;have ed:d'=s.drawn:=hm.drawn;have eo:os'=s.os:=hm.os;subst eg ed eo;refine bo (wpAny_load hS' ?_);have ea:acc.toList=(g9 w S ep es).toList.map (·.2):=by
  apply ON
  intro i;by_cases hi:i<acc.size
  .have e1:acc.toList[i]?=some acc[i]:=by rw[gA];simp[hi]
   have e2:=hacc.2 i acc[i] (by simp[hi]);rw[e1,ol,gA];exact e2.symm
  .rw[Og (by simpa using PL hi),Og];rw[cM,p7,ji,<- hacc.1];exact PL hi
 show wpAny _ _ (pure acc.toList) _ _ _;rw[ea];refine bF (h h' tk' (jZ hS') λb o e=>hm.heap b o ?_ (old b o e));have:=jZ e;simp only[j5,PK,or_false,not_or];exact⟨N9 this,N9 (QD this)⟩
end
noncomputable def cp:List Int->List Int->Bool
 |[],[]=>false
 |[],_::_=>true
 |_::_,[]=>false
 |a::x,b::y=>if a=b then cp x y else decide (a<b)
theorem jk:∀a:List Int,cp a a=false
 |[]=>rfl
 |a::x=>by unfold cp;rw[ck rfl];exact jk x
theorem qy:∀a b c:List Int,cp a b=true->cp b c=true->cp a c=true
 |[],[],_,h,_=>by cases h
 |[],_::_,[],_,h=>by cases h
 |[],_::_,_::_,_,_=>rfl
 |_::_,[],_,h,_=>by cases h
 |_::_,_::_,[],_,h=>by cases h
 |a::x,b::y,c::z,h1,h2=>by
  unfold cp at h1 h2 ⊢;by_cases e1:a=b
  .subst e1;rw[ck rfl]at h1;by_cases e2:a=c
   .subst e2;rw[ck rfl]at h2 ⊢;exact qy x y z h1 h2
   .rw[cO e2]at h2 ⊢;exact h2
  .grind
theorem jl:∀a b:List Int,a≠b->cp a b=true\/cp b a=true
 |[],[],h=>(h rfl).elim
 |[],_::_,_=>.inl rfl
 |_::_,[],_=>.inr rfl
 |a::x,b::y,h=>by
  unfold cp;by_cases e:a=b
  .subst e;rw[ck rfl,ck rfl];exact jl x y λz=>h (by rw[z])
  .grind
section
variable{prog:Ry}{w:World}{A:RA}{s:Rv}
theorem wH:∀{a b:List Int}{xs ys:List Rz}(i:Nat),ItemsAre (aq prog w) (iK a) xs->ItemsAre (aq prog w) (iK b) ys->Q (cp a b) s->PySem.W.KatLex prog w A true (decide (xs.length<ys.length)) Q (xs.zip ys) i s
 |[],[],_,_,i,hx,hy,h=>by cases hx;cases hy;exact h
 |[],_::_,_,_,i,hx,hy,h=>by
  cases hx;cases hy with
  |cons h1 h2=>exact PySem.W.kat_nil h
 |_::_,[],_,_,i,hx,hy,h=>by
  cases hy;cases hx with
  |cons h1 h2=>exact PySem.W.kat_nil h
 |a::x,b::y,_,_,i,hx,hy,h=>by
  cases hx with
  |@cons _ v1 _ vs1 h1 hx'=>
   cases hy with
   |@cons _ v2 _ vs2 h2 hy'=>
    obtain⟨t1,rfl⟩:=mq h1;obtain⟨t2,rfl⟩:=mq h2;rw[List.zip_cons_cons];refine PySem.W.kat_cons (wpAny_eqBool_int ?_);unfold cp at h;by_cases e:a=b
    .subst e;rw[ck rfl]at h;rw[beq_self_eq_true];refine PySem.W.kat_yes ?_;have:=wH (i+1) hx' hy' h;simpa using this
    .rw[cO e]at h;have eb:(a==b)=false:=by grind
     rw[eb];refine PySem.W.kat_no ?_;cases i with
     |zero=>exact oneLt_int h
     |succ i=>exact PySem.W.kat_one _ _ (lt_int h)
structure om(prog:Ry) (w:World) (h:Heap) (xs:List ga):Prop where
 is:∀x∈xs,(tK prog w).is h (iK x.1) x.2
 ne:∀x∈xs,x.1≠[]
 nd:(xs.map (·.1)).Nodup
noncomputable def valsT(xs:List ga):List Rz:=xs.map λx=>Value.ref x.2
theorem sJ:∀{xs:List ga},(∀x∈xs,(tK prog w).is h (iK x.1) x.2)->(∀x∈xs,x.1≠[])->∃fs:List Rz,PySem.W.KatTups h (valsT xs) fs/\fs.length=xs.length/\∀v∈fs,∃i t,v=Value.int i t
 |[],_,_=>⟨[],trivial,rfl,λv hv=>nomatch hv⟩
 |x::xs,h1,h2=>by
  obtain⟨fs,a,b,c⟩:=sJ (λy hy=>h1 y (CF _ hy)) λy hy=>h2 y (CF _ hy);obtain⟨ox,ix,nx,hx,cx,dx,lx⟩:=h1 x uB;have hne:=h2 x uB;obtain⟨k,b'⟩:=x;dsimp only at hne lx hx;cases k with
  |nil=>exact(hne rfl).elim
  |cons n ns=>
   generalize hl:ix.toList=l at lx;cases lx with
   |@cons _ v _ vs q1 q2=>
    obtain⟨t,rfl⟩:=mq q1;refine⟨.int n t::fs,⟨⟨b',ox,ix,nx,rfl,hx,cx,dx,?_⟩,a⟩,by simp[b],λv hv=>?_⟩
    .rw[<- gA,hl];rfl
    .grind
def yy(t:om prog w s.heap xs)(hne:0<xs.length)(h:Q (tuples' true) s):wpAny (model prog w) A (keyKind' (valsT xs).toArray) Q E s:=by
 obtain⟨fs,a,b,c⟩:=sJ t.is t.ne;refine PySem.W.kat_kind (T:=.type "int") a (by lia) (λv hv=>?_) (by decide) ?_
 .obtain⟨i,t,rfl⟩:=c v hv;exact λA Q E s k q=>bF q
 .have:(Value.type "int" != Value.type "tuple")=true:=by decide
  rw[this];exact h
end
noncomputable def iN{α:Type}(d:α)(xs:List α)(i:Nat):α:=(xs[i]?).getD d
section
variable{α β:Type}
def m7(d:α)(xs:List α):(List.range xs.length).map (iN d xs)=xs:=by
 apply ON
 intro i;rw[ol];by_cases h:i<xs.length
 .rw[List.getElem?_range h,Ol h];simp[iN,h]
 .rw[Og (by grind),Og (by grind)];rfl
def yz(d:α)(pm:Pm xs.length p):(p.toList.map (iN d xs)).Perm xs:=by have:=List.Perm.map (iN d xs) pm;rw[m7]at this;exact this
def Df{r:α->α->Bool}(pm:Pm xs.length p)(so:So (λi j=>r (iN d xs i) (iN d xs j)) p xs.length):(p.toList.map (iN d xs)).Pairwise λx y=>r x y=true:=by
 rw[Oc,j8];intro i j hi hj hij;have hi':i<p.size:=by grind
 have hj':j<p.size:=by grind
 have:=so i j hij (by rw[<- pm.size];exact hj');dsimp only at this;have ei:b7 p i=p.toList[i]:=by simp[b7,Array.getD,hi']
 have ej:b7 p j=p.toList[j]:=by simp[b7,Array.getD,hj']
 rw[ei,ej]at this;exact this
def Ax{f:α->β}{e:β}(d:α)(pm:Pm xs.length p):(p.toList.map λi=>(xs.map f).getD i e)=(p.toList.map (iN d xs)).map f:=by rw[v9];refine Ot λi hi=>?_;have hi:i<xs.length:=N8.mp (pm.mem_iff.mp hi);simp[iN,hi]
end
section
def om.off(t:om prog w h xs)(ho:h.get? a=some o)(hc:o.cls=.type "list") (k:∀b o,b≠a->h.get? b=some o->h'.get? b=some o):om prog w h' xs:=by refine⟨λx hx=>?_,t.ne,t.nd⟩;obtain⟨ox,ix,nx,h1,c1,r⟩:=t.is x hx;refine⟨ox,ix,nx,k x.2 ox (λe=>?_) h1,c1,r⟩;rw[e,ho]at h1;cases h1;rw[hc]at c1;exact absurd c1 (by decide)
def Ay{a:Addr}{n:Nat}{vs:List Rz}{κ:SortKind}{lt:Nat->Nat->Bool}{P:PySem.Fin->Rv->Prop}(ho:s.heap.get? a=some (seqObj "list" vs.toArray n)) (h64:vs.length<64)
 (hk:∀H,(∀b o,b≠a->s.heap.get? b=some o->H.get? b=some o)->2<=vs.length->(∀Q,Q κ {s with heap:=H}->wpAny (model prog w) A (keyKind' vs.toArray) Q E {s with heap:=H})/\Lt vs.length lt/\Fk vs.length lt (PySem.W.kas_ask prog w A κ vs) {s with heap:=H})
 (h:∀p h' c,Pm vs.length p->So lt p vs.length->h'.get? a=some (seqObj "list" (p.toList.map λi=>vs.getD i Value.none).toArray c)->(∀b o,b≠a->s.heap.get? b=some o->h'.get? b=some o)->P (.done (.ret .none)) {s with heap:=h'}) :
 wpAny (model prog w) A (Builtin.«list.sort» ⟨[.ref a],[]⟩) P E s:=by
 rw[list_sort_plain];refine bo (listItems_at ho rfl (bo (Qp ho rfl ?_ (by rw[cQ,Od];lia) (N3 _))));obtain⟨e1,ho1⟩ : ∃e1,(s.heap.update a (Obj.mapSeq λ_=>#[])).get? a=some (seqObj "list" #[] e1):=⟨_,get?_update_seq ho (λ_=>#[])⟩;refine bo (Q3 ho1 rfl (bo (wpAny_newTuple (bo (wpAny_newList (On ?_) (N3 _))) (by show vs.length<=_;rw[Od];lia))));have oth:∀b o,b≠a->s.heap.get? b=some o->(((s.heap.update a (Obj.mapSeq λ_=>(#[]:Array Rz))).push (seqObj "tuple" vs.toArray 0)).push (seqObj "list" #[] 0)).get? b=some o:=λb o hb e=>cj _ (cj _ ((OF _ _ (Oz hb)).trans e));have ho6:(((s.heap.update a (Obj.mapSeq λ_=>(#[]:Array Rz))).push (seqObj "tuple" vs.toArray 0)).push (seqObj "list" #[] 0)).get? a=some (seqObj "list" #[] e1):=cj _ (cj _ ho1);show wpAny (model prog w) A _ P E { s with heap:=((s.heap.update a (Obj.mapSeq λ_=>(#[]:Array Rz))).push (seqObj "tuple" vs.toArray 0)).push (seqObj "list" #[] 0) };generalize(((s.heap.update a (Obj.mapSeq λ_=>(#[]:Array Rz))).push (seqObj "tuple" vs.toArray 0)).push (seqObj "list" #[] 0))=H6 at ho6 oth;dsimp only;have fin:∀(p:Array Nat)(out:Array Rz),Pm vs.length p->So lt p vs.length->out=(p.toList.map λi=>vs.getD i Value.none).toArray->P (.done (.ret .none)) {s with heap:=H6.update a (Obj.mapSeq λ_=>out)}:=λp out hp hw ho=>by subst ho;exact h p _ _ hp hw (get?_update_seq ho6 λ_=>(p.toList.map λi=>vs.getD i Value.none).toArray) λb o hb e=>(OF _ _ (Oz hb)).trans (oth b o hb e)
 by_cases h2:vs.toArray.size<2
 .rw[ck h2,ck h2];refine bo (bF ?_);rw[StateT.run_pure];have hx2:vs.length<2:=by grind
  have hout:Array.map (λx:Keyed=>x.2) (vs.toArray.zip vs.toArray)=vs.toArray:=by apply Array.ext';simp[List.map_snd_zip]
  refine bo (bF ?_);dsimp only;refine bo (Q3 ho6 rfl (bo (Qp ho6 rfl ?_ (N3 _) ?_)))
  .simp only[Pt,gy,Oh];refine bF (fin (List.range vs.length).toArray _ (Rg _) (λa b h1 h2=>by lia) (hout.trans ?_));rw[show(λi=>vs.getD i Value.none)=iN Value.none vs from funext λi=>by simp[iN]];show _=(List.map _ (List.range vs.length)).toArray;rw[m7]
  .show(Array.map (λx:Keyed=>x.2) (vs.toArray.zip vs.toArray)).size<=_;rw[hout,cQ,Od];lia
 .rw[cO h2,cO h2];have hx2:2<=vs.length:=by grind
  obtain⟨k1,k2,k3⟩:=hk H6 oth hx2;refine bo (k1 _ ?_);refine bo (OT (PySem.W.kat_run (s:={s with heap:=H6}) (Q:=λst' s'=>s'={s with heap:=H6}/\∃p:Array Nat,Pm vs.length p/\So lt p vs.length/\arrOf st'=p.map (PySem.W.kas_item (vs.toArray.zip vs.toArray))/\failedOf st'=none)
   (G:=λp s'=>s'={s with heap:=H6}/\Pm vs.length p/\So lt p vs.length) rfl (by lia) (by lia) (λp st' s' _ a2 a3 g=>⟨g.1,p,g.2.1,g.2.2,a2,a3⟩) ?_) ?_ λ_ _ e=>e)
  .exact C_ k2 k3 hx2 λp pm so=>⟨rfl,pm,so⟩
  .rintro⟨⟨⟩,st'⟩ s' ⟨rfl,p,pm,so,har,hf⟩;dsimp only;rw[PySem.W.kat_snds rfl har];refine bo (Q3 ho6 rfl (bo (Qp ho6 rfl ?_ (N3 _) ?_)))
   .rw[hf];simp only[Pt,gy,Oh];exact bF (fin _ _ pm so rfl)
   .have:=pm.size;simp[this];rw[Od];lia
def qz(prog:Ry)(w:World)(N:Nat):Prop:=∀(A:RA)(E:Rz->Rv->Prop)(s:Rv)(a:Addr)(n:Nat)(xs:List ga)(P:PySem.Fin->Rv->Prop),s.heap.get? a=some (seqObj "list" (valsT xs).toArray n)->om prog w s.heap xs->xs.length<=N->
 (∀ys h' c,ys.Perm xs->ys.Pairwise (λx y=>cp x.1 y.1=true)->h'.get? a=some (seqObj "list" (valsT ys).toArray c)->(∀b o,b≠a->s.heap.get? b=some o->h'.get? b=some o)->P (.done (.ret .none)) {s with heap:=h'})->wpAny (model prog w) A (Builtin.«list.sort» ⟨[.ref a],[]⟩) P E s
end
section
variable{κ μ:Type}{its:List (κ×μ)}
theorem sK:∀(l:List (Int×Rz)),(∀e∈l,∃x∈its,e=ent x)->∃zs:List (κ×μ),l=zs.map ent/\∀z∈zs,z∈its
 |[],_=>⟨[],rfl,λz hz=>nomatch hz⟩
 |e::l,h=>by
  obtain⟨x,hx,rfl⟩:=h e uB;obtain⟨zs,h1,h2⟩:=sK l λe he=>h e (CF _ he);exact⟨x::zs,by rw[h1];rfl,λz hz=>by
   rcases j5.mp hz with rfl|hz
   .exact hx
   .exact h2 z hz⟩
structure uG(lt:κ->κ->Prop) (its ys:List (κ×μ)):Prop where
 sub:∀y∈ys,y∈its
 all:∀x∈its,∃y∈ys,y.1=x.1
 pw:ys.Pairwise λx y=>lt x.1 y.1
def GV(prog:Ry)(w:World)(hb:Heap)(ent:κ×μ->Int×Rz)(lt:κ->κ->Prop)(its:List (κ×μ)) (N:Nat):Prop:=∀(A:RA)(E:Rz->Rv->Prop)(s:Rv)(a:Addr)(n:Nat)(zs:List (κ×μ))(P:PySem.Fin->Rv->Prop),(∀b o,hb.get? b=some o->s.heap.get? b=some o)->s.heap.get? a=some (seqObj "list" (zs.map λz=>(ent z).2).toArray n)->(∀z∈zs,z∈its)->(zs.map (·.1)).Nodup->zs.length<=N->
 (∀(ys:List (κ×μ)) h' c,ys.Perm zs->ys.Pairwise (λx y=>lt x.1 y.1)->h'.get? a=some (seqObj "list" (ys.map λz=>(ent z).2).toArray c)->(∀b o,b≠a->s.heap.get? b=some o->h'.get? b=some o)->P (.done (.ret .none)) {s with heap:=h'})->wpAny (model prog w) A (Builtin.«list.sort» ⟨[.ref a],[]⟩) P E s
def jm(sa:SetAt w s.heap S es)(v:g6 ent es its)(un:Dc ent its)(hh:A.handled=none)(hN:N<=300)(hs:GV prog w s.heap ent lt its N)(hz:its.length<=N)
 (h:∀(ys:List (κ×μ)) h' tk l c,uG lt its ys->ys.length<=N->s.heap.objs.size<=l->h'.get? l=some (seqObj "list" (ys.map λz=>(ent z).2).toArray c)->(∀b o,s.heap.get? b=some o->h'.get? b=some o)->Q (.ref l) {s with heap:=h',toks:=tk}) :
 wpAny (model prog w) A (call (.builtin "sorted") [.ref S]) Q E s:=by
 obtain⟨o,ep,t,ho,hex,hd,T,sp,hpl,hle⟩:=sa;have pe:=sH w S ep es;have hes:=v.sz;obtain⟨zs,ez,zm⟩:=sK (ent:=ent) (its:=its) (g9 w S ep es).toList λe he=>v.el e (pe.mem_iff.mp he);have ev:(g9 w S ep es).toList.map (·.2)=zs.map λz=>(ent z).2:=by rw[ez,v9];rfl
 have hzl:zs.length=es.size:=by have:=N7 List.length ez;rw[cM,p7,ji]at this;exact this.symm
 have nd:(zs.map (·.1)).Nodup:=by have pw:=(pe.pairwise_iff (λ{x y} hxy a b e1 e2 m1 m2 z=>hxy b a e2 e1 m2 m1 z.symm)).mpr v.pw;rw[ez,Oc]at pw;unfold List.Nodup;rw[Oc];exact O4 (λ{a b} ha hb hab=>hab a b rfl rfl (zm a ha) (zm b hb)) pw
 refine Calls.call_function_entry kind_sorted plain_sorted entry_sorted (args_sorted1 _) ?_;unfold Builtin.«sorted»;refine bo (m:=checkCount "sorted" 1 1 _) (bF (bo (sI ⟨o,ho,hex,hd⟩ T (f_ sp) hpl hle (by simp[hh]) (by lia) λh1 tk1 g1 k1=>?_)));rw[ev];refine bo (wpAny_newList ?_ (by rw[cM,hzl,Od];lia));have hoL:(h1.push (seqObj "list" (zs.map λz=>(ent z).2).toArray 0)).get? h1.objs.size=some (seqObj "list" (zs.map λz=>(ent z).2).toArray 0):=jY _ rfl;have kk:∀b o,s.heap.get? b=some o->(h1.push (seqObj "list" (zs.map λz=>(ent z).2).toArray 0)).get? b=some o:=λb o e=>cj _ (k1 b o e);have ge:s.heap.objs.size<=h1.objs.size:=Ou g1;refine bo (On (Ow slot_list_sort ⟨_,hoL,rfl⟩ entry_list_sort (hs _ _ { s with heap:=h1.push (seqObj "list" (zs.map λz=>(ent z).2).toArray 0),toks:=tk1 } _ _ zs _ kk hoL zm nd (by lia) λys h2 c2 hp hw hl2 k2=>⟨_,rfl,?_⟩) (args_list_sort _)));refine bF ⟨_,rfl,h ys h2 tk1 _ c2 ⟨λy hy=>zm y (hp.mem_iff.mp hy),λx hx=>?_,hw⟩ (by rw[hp.length_eq];lia) ge hl2 λb o e=>k2 b o (λz=>?_) (kk b o e)⟩
 .obtain⟨y,y1,y2,y3⟩:=v.all x hx;have y4:=pe.mem_iff.mpr y3;rw[ez]at y4;obtain⟨z,z1,z2⟩:=j3.mp y4;exact⟨z,hp.mem_iff.mpr z1,(un z (zm z z1) y y1 z2).trans y2⟩
 .subst z;exact absurd (jZ e) (Nat.not_lt.mpr ge)
end
def TupsIn(H:Hp):List V->List ga->Prop:=Paired λv x=>v=.ref x.2/\H x.2=some (.tup ((iK x.1).map kV))
def TupsIn.get(t:TupsIn H vs its)(rv:Vals vs us):its.length=us.length/\(∀(i:Nat)(v:Rz),us[i]?=some v->∃x:ga,its[i]?=some x/\v=.ref x.2)/\∀x∈its,H x.2=some (.tup ((iK x.1).map kV)):=by
 unfold TupsIn at t;induction t generalizing us with
 |nil=>cases rv;exact⟨rfl,λi v e=>by simp at e,λx hx=>nomatch hx⟩
 |@cons v y vs its q t ih=>
  cases rv with
  |@cons _ u _ us r s=>
   obtain⟨a,b,c⟩:=ih s;obtain⟨rfl,q⟩:=q;obtain rfl:u=Value.ref y.2:=r;refine⟨by simp[a],λi v e=>?_,λx hx=>?_⟩
   .cases i with
    |zero=>simp at e;exact⟨y,rfl,e.symm⟩
    |succ i=>exact b i v e
   .rcases j5.mp hx with rfl|hx
    .exact q
    .exact c x hx
section
def yA(hc:X.calm=true)(hu:X.A.units+64<cLine):CallR X (.type "set") (λxs H Q=>∃l vs its,xs=[.ref l]/\Rd H l (.lst vs)/\TupsIn H vs its/\vs.length<=300/\
 ∀p es,H p=none->g6 (eT X.prog X.w) es its->Q (.ref p) (aC H p (.ext λh=>SetAt X.w h p es))):=by
 intro aa s σ H xs us Q I r h;obtain⟨l,vs,its,rfl,hl,hp,hz,q⟩:=h;obtain⟨u,rfl,ru⟩:=eJ r;obtain rfl:u=Value.ref l:=ru;obtain⟨_,us,n,rv,hg⟩:=(show ObjOk X.prog X.w H s.heap l (.lst vs)from hl.ok I.aG);obtain⟨g1,g2,g3⟩:=hp.get rv;have his:=λx hx=>eL I.aG (g3 x hx);refine pd (ent:=eT X.prog X.w) (I.ok.hd hc) hg (its:=its) (by grind) (by rw[cQ,<- rv.length];exact hz) (λi v e=>g2 i v (by grind)) (J5 his) (Dd (by show X.A.units+1+1+1<cLine;lia) his) λh' tk es hS v hk=>?_;have hf:H s.heap.objs.size=none:=I.aG.fresh (cN _);refine⟨.ref s.heap.objs.size,_,I.laid (a:=s.heap.objs.size) (o:=.ext λh=>SetAt X.w h s.heap.objs.size es) (t':=tk) (λb o e=>hk b o (jZ e) e) (cN _) ?_,rfl,q _ es hf v⟩;exact⟨hS,(let ⟨o,_,_,e,_⟩:=hS;⟨o,e⟩),λh1 h2 hs k=>SetAt.keep hs k⟩
def qA(hc:X.calm=true)(hN:N<=300)(hs:qz X.prog X.w N):CallR X (.builtin "sorted") (λxs H Q=>∃p es its,xs=[.ref p]/\H p=some (.ext λh=>SetAt X.w h p es)/\g6 (eT X.prog X.w) es its/\(∀x∈its,H x.2=some (.tup ((iK x.1).map kV)))/\(∀x∈its,x.1≠[])/\its.length<=N/\
 ∀l ys,H l=none->uG (λx y=>cp x y=true) its ys->Q (.ref l) (aC H l (.lst (ys.map λy=>.ref y.2)))):=by
 intro aa s σ H xs us Q I r h;obtain⟨p,es,its,rfl,hp,v,ht,hne,hz,q⟩:=h;obtain⟨u,rfl,ru⟩:=eJ r;obtain rfl:u=Value.ref p:=ru;obtain⟨hS,_,_⟩:=(show ObjOk X.prog X.w H s.heap p (.ext λh=>SetAt X.w h p es)from I.aG p _ hp);have his:=λx hx=>eL I.aG (ht x hx);refine jm hS v (J5 his) (I.ok.hd hc) hN (lt:=λx y=>cp x y=true) (λA E s a n zs P kk ho zm nd hz h=>hs A E s a n zs P ho ⟨λx hx=>qo (his x (zm x hx)) kk,λx hx=>hne x (zm x hx),nd⟩ hz h) hz λys h' tk l c so hyl hle hl hk=>?_;refine⟨.ref l,_,I.laid (a:=l) (o:=.lst (ys.map λy=>.ref y.2)) (t':=tk) hk hle ⟨by rw[cM,Od];lia,_,c,?_,hl⟩,rfl,q l ys (I.aG.fresh hle) so⟩;clear so hl hyl;induction ys with
 |nil=>exact .nil
 |cons y ys ih=>exact .cons rfl ih
end
end L2
namespace TS
open PySem PyProof.Rows
noncomputable abbrev SM:=StateT SortSt Sem
noncomputable def gB(l:Bool)(key:Keyed)(xs:Array Keyed)(b i:Nat):SM (Option Bool):=do
 let x <- elem' xs (b+i)
 if l then lt' x key else return (<- lt' key x).map (!·)
noncomputable def du:Bool->Keyed->Array Keyed->Nat->Nat->Nat->SM (Option Nat):=sortPriv%PySem.Builtin.gallop
def Dg(l:Bool)(key:Keyed)(xs:Array Keyed)(b n p₀ q₀:Nat):SM (Option Nat):=do
 let mut p:=p₀
 let mut q:=q₀
 for _ in [0:n] do
  if p>=q then break
  let m:=p+(q-p)/2
  let some y <- gB l key xs b m|return none
  if y then p:=m+1 else q:=m
 return some q
def vg(l:Bool)(key:Keyed)(xs:Array Keyed)(b n h:Nat):du l key xs b n h=(do
 let mut u:=0
 let mut o:=1
 let some z <- gB l key xs b h|return none
 if z then
  let m:=n-h
  for _ in [0:n] do
   if o>=m then break
   let some y <- gB l key xs b (h+o)|return none
   if !y then break
   u:=o
   o:=2*o+1
  Dg l key xs b n (h+u+1) (h+min o m)
 else
  let m:=h+1
  for _ in [0:n] do
   if o>=m then break
   let some y <- gB l key xs b (h-o)|return none
   if y then break
   u:=o
   o:=2*o+1
  Dg l key xs b n (h+1-min o m) (h-u)):=rfl
section
variable{prog:Ry}{w:World}{A:RA}{E:Rz->Rv->Prop}{s:Rv}{κ:SortKind}{S:List Keyed}{rk:Keyed->Nat}
def Cmp(prog:Ry)(w:World)(A:RA)(s:Rv)(κ:SortKind)(S:List Keyed)(rk:Keyed->Nat):Prop:=∀x∈S,∀y∈S,∀Q:Bool->Rv->Prop,Q (decide (rk x<rk y)) s->wpAny (model prog w) A (keyLt' κ x.1 y.1) Q (λ_ _=>False) s
def Az(C:Cmp prog w A s κ S rk){st:SortSt}(hx:x∈S)(hy:y∈S)(hk:kindOf st=κ){Q:Option Bool->SortSt->Prop}(h:Q (some (decide (rk x<rk y))) st):wpS (model prog w) A E s (lt' x y) Q st:=by rw[lt'_eq];refine i6 (wpS_get ?_);rw[hk];refine i6 (wpS_lift (QZ (OT (C x hx y hy (λc s'=>s'=s/\c=decide (rk x<rk y)) ⟨rfl,rfl⟩) (λc s' hc=>?_) λ_ _ hF=>hF.elim)));obtain⟨rfl,rfl⟩:=hc;exact⟨rfl,j7 h⟩
def bc{st:SortSt}{xs:Array Keyed}(hp:xs[i]?=some p){Q:Keyed->SortSt->Prop}(h:Q p st):wpS (model prog w) A E s (elem' xs i) Q st:=by rw[elem'_eq,hp];exact j7 h
def MH(C:Cmp prog w A s κ S rk){st:SortSt}{l:Bool}(hp:xs[b+i]?=some x)(hx:x∈S)(hy:key∈S)(hk:kindOf st=κ){Q:Option Bool->SortSt->Prop}
 (h:Q (some (if l then decide (rk x<rk key)else !decide (rk key<rk x))) st):wpS (model prog w) A E s (gB l key xs b i) Q st:=by
 unfold gB;refine i6 (bc hp ?_);cases l with
 |true=>exact Az C hx hy hk h
 |false=>exact i6 (Az C hy hx hk (j7 h))
def sL(C:Cmp prog w A s κ S rk){st:SortSt}{l:Bool}(hk:kindOf st=κ)(hy:key∈S)(hS:∀i<n,∃x,xs[b+i]?=some x/\x∈S/\(if l then decide (rk x<rk key)else !decide (rk key<rk x))=decide (i<k))
 (hh:h<n) (hkn:k<=n) {Q:Option Nat->SortSt->Prop} (hq:Q (some k) st):wpS (model prog w) A E s (du l key xs b n h) Q st:=by
 have tb:∀{i:Nat},i<n->∀{Q:Option Bool->SortSt->Prop},Q (some (decide (i<k))) st->wpS (model prog w) A E s (gB l key xs b i) Q st:=by intro i hi Q hQ;obtain⟨x,h1,h2,h3⟩:=hS i hi;exact MH C h1 h2 hy hk (by grind)
 rw[vg];refine i6 (tb hh ?_);dsimp only;have fin:∀{p q:Nat},p<=k->k<=q->q<=n->wpS (model prog w) A E s (Dg l key xs b n p q) Q st:=by
  intro p q h1 h2 h3;unfold Dg;refine i6 (OO (OK (I:=λi c st'=>st'=st/\c.1=none/\c.2.1<=k/\k<=c.2.2/\c.2.2<=n/\(c.2.2-c.2.1)+i<=n) (Q:=λc st'=>st'=st/\c.1=none/\c.2.2=k) ?_ ?_ ⟨rfl,rfl,h1,h2,h3,by grind⟩) ?_)
  .rintro i ⟨r,p,q⟩ st' _ hi ⟨rfl,rfl,a1,a2,a3,a4⟩;dsimp only at *;by_cases c:p>=q
   .rw[ck c];exact j7 ⟨rfl,rfl,by grind⟩
   .rw[cO c];refine i6 (tb (by lia) ?_);dsimp only;by_cases d:p+(q-p)/2<k
    .rw[db d,ck rfl];exact j7 ⟨rfl,rfl,by grind,by grind,by grind,by grind⟩
    .rw[iA d,cO (by simp)];exact j7 ⟨rfl,rfl,by grind,by grind,by grind,by grind⟩
  .rintro⟨r,p,q⟩ st' ⟨rfl,rfl,a1,a2,a3,a4⟩;dsimp only at *;exact⟨rfl,rfl,by lia⟩
  .rintro⟨r,p,q⟩ st' ⟨rfl,rfl,a1⟩;dsimp only at *;subst a1;exact j7 hq
 by_cases hz:h<k
 .rw[db hz,ck rfl];refine i6 (OO (OK (I:=λi c st'=>st'=st/\c.1=none/\c.2.1<n-h/\h+c.2.1<k/\c.2.1<c.2.2/\i+1<=c.2.2) (Q:=λc st'=>st'=st/\c.1=none/\c.2.1<n-h/\h+c.2.1<k/\(c.2.2>=n-h\/k<=h+c.2.2)) ?_ ?_ ⟨rfl,rfl,by grind,by grind,by grind,by grind⟩) ?_)
  .rintro i ⟨r,u,o⟩ st' _ hi ⟨rfl,rfl,a1,a2,a3,a4⟩;dsimp only at *;by_cases c:o>=n-h
   .rw[ck c];exact j7 ⟨rfl,rfl,a1,a2,.inl c⟩
   .rw[cO c];refine i6 (tb (by lia) ?_);dsimp only;by_cases d:h+o<k
    .rw[db d,cO (by simp)];exact j7 ⟨rfl,rfl,by grind,d,by grind,by grind⟩
    .rw[iA d,ck (by rfl)];exact j7 ⟨rfl,rfl,a1,a2,.inr (by grind)⟩
  .rintro⟨r,u,o⟩ st' ⟨rfl,rfl,a1,a2,a3,a4⟩;dsimp only at *;exact⟨rfl,rfl,a1,a2,.inl (by lia)⟩
  .rintro⟨r,u,o⟩ st' ⟨rfl,rfl,a1,a2,a3⟩;dsimp only at *;exact fin (p:=h+u+1) (q:=h+min o (n-h)) (by lia) (by lia) (by lia)
 .rw[iA hz,cO (by simp)];refine i6 (OO (OK (I:=λi c st'=>st'=st/\c.1=none/\c.2.1<=h/\k<=h-c.2.1/\c.2.1<c.2.2/\i+1<=c.2.2) (Q:=λc st'=>st'=st/\c.1=none/\c.2.1<=h/\k<=h-c.2.1/\(c.2.2>=h+1\/h-c.2.2<k)) ?_ ?_ ⟨rfl,rfl,by grind,by grind,by grind,by grind⟩) ?_)
  .rintro i ⟨r,u,o⟩ st' _ hi ⟨rfl,rfl,a1,a2,a3,a4⟩;dsimp only at *;by_cases c:o>=h+1
   .rw[ck c];exact j7 ⟨rfl,rfl,a1,a2,.inl c⟩
   .rw[cO c];refine i6 (tb (by lia) ?_);dsimp only;by_cases d:h-o<k
    .rw[db d,ck rfl];exact j7 ⟨rfl,rfl,a1,a2,.inr d⟩
    .rw[iA d,cO (by simp)];exact j7 ⟨rfl,rfl,by grind,by grind,by grind,by grind⟩
  .rintro⟨r,u,o⟩ st' ⟨rfl,rfl,a1,a2,a3,a4⟩;dsimp only at *;exact⟨rfl,rfl,a1,a2,.inl (by lia)⟩
  .rintro⟨r,u,o⟩ st' ⟨rfl,rfl,a1,a2,a3⟩;dsimp only at *;exact fin (p:=h+1-min o (h+1)) (q:=h-u) (by lia) (by lia) (by lia)
end
section
variable{rk:Keyed->Nat}
def Srt(rk:Keyed->Nat)(l:List Keyed):Prop:=l.Pairwise λx y=>rk x<=rk y
structure J(rk:Keyed->Nat) (al bl o:List Keyed) (i j:Nat):Prop where
 perm:o.Perm (al.take i++bl.take j)
 E9:Srt rk o
 la:∀x∈o,∀y∈al.drop i,rk x<=rk y
 lb:∀x∈o,∀y∈bl.drop j,rk x<=rk y
variable{al bl o:List Keyed}{i j:Nat}
def J.swap(h:J rk al bl o i j):J rk bl al o j i:=⟨h.perm.trans Ph,h.E9,h.lb,h.la⟩
def J.rP(h:J rk al bl o i j)(sa:Srt rk al)(k:Nat)(hc:∀x∈(al.drop i).take k,∀y∈bl.drop j,rk x<=rk y):J rk al bl (o++(al.drop i).take k) (i+k) j:=by
 have sd:Srt rk (al.drop i):=sa.sublist (Pq _ _);have e:al.take (i+k)=al.take i++(al.drop i).take k:=List.take_add;have sp:(al.drop i)=(al.drop i).take k++al.drop (i+k):=by rw[<- List.drop_drop,lR]
 have sd2:=sd;rw[sp]at sd2;have pw:=OE.mp sd2;refine⟨?_,OE.mpr ⟨h.E9,sd.sublist (OZ _ _),λx hx y hy=>h.la x hx y (Ov hy)⟩,λx hx y hy=>?_,λx hx y hy=>?_⟩
 .rw[e];refine(h.perm.append_right _).trans ?_;rw[fC,fC];exact List.Perm.append_left _ Ph
 .rcases gZ.mp hx with hx|hx
  .exact h.la x hx y (by rw[sp];exact p6 _ hy)
  .exact pw.2.2 x hx y hy
 .rcases gZ.mp hx with hx|hx
  .exact h.lb x hx y hy
  .exact hc x hx y hy
def J.v8(h:J rk al bl o i j)(sb:Srt rk bl)(k:Nat)(hc:∀x∈(bl.drop j).take k,∀y∈al.drop i,rk x<=rk y):J rk al bl (o++(bl.drop j).take k) i (j+k):=(h.swap.rP sb k hc).swap
def Fin(rk:Keyed->Nat)(al bl o:List Keyed):Prop:=o.Perm (al++bl)/\Srt rk o
def J.end_(h:J rk al bl o m n)(hm:al.length<=m)(hn:bl.length<=n):Fin rk al bl o:=by have:=h.perm;rw[Oe hm,Oe hn]at this;exact⟨this,h.E9⟩
def J.uF(h:J rk al bl o i j)(sa:Srt rk al)(sb:Srt rk bl)(hc:∀x∈al.drop i,∀y∈bl.drop j,rk x<=rk y):Fin rk al bl (o++al.drop i++bl.drop j):=by have e1:(al.drop i).take al.length=al.drop i:=Oe (by rw[Pc];lia);have e2:(bl.drop j).take bl.length=bl.drop j:=Oe (by rw[Pc];lia);have h1:=h.rP sa al.length (by rw[e1];exact hc);rw[e1]at h1;have h2:=h1.v8 sb bl.length (λx _ y hy=>by rw[OG (by lia)]at hy;cases hy);rw[e2]at h2;exact h2.end_ (by lia) (by lia)
def J.CD(h:J rk al bl o i j)(sa:Srt rk al)(sb:Srt rk bl)(hc:∀x∈bl.drop j,∀y∈al.drop i,rk x<=rk y):Fin rk al bl (o++bl.drop j++al.drop i):=let f:=h.swap.uF sb sa hc;⟨f.1.trans Ph,f.2⟩
theorem vi(P:Nat->Bool):∀n:Nat,(∀i j,i<j->j<n->P j=true->P i=true)->∃k,k<=n/\∀i<n,P i=decide (i<k)
 |0,_=>⟨0,cN _,λi hi=>absurd hi (Nat.not_lt_zero _)⟩
 |n+1,h=>by
  obtain⟨k,hk,hP⟩:=vi P n λi j hij hj=>h i j hij (by lia);cases hn:P n with
  |true=>
   refine⟨n+1,cN _,λi hi=>?_⟩;rw[db hi];by_cases e:i=n
   .rw[e,hn]
   .exact h i n (by lia) (by lia) hn
  |false=>
   by_cases hkn:k=n
   .refine⟨n,by lia,λi hi=>?_⟩;by_cases e:i=n
    .rw[e,hn,iA (by lia)]
    .rw[hP i (by lia),hkn]
   .refine⟨k,by lia,λi hi=>?_⟩;by_cases e:i=n
    .rw[e,hn,iA (by lia)]
    .exact hP i (by lia)
def g_(h:Srt rk l){p q:Nat}{x y:Keyed}(hx:l[p]?=some x)(hy:l[q]?=some y)(hpq:p<=q):rk x<=rk y:=by
 obtain⟨h1,e1⟩:=bE.mp hx;obtain⟨h2,e2⟩:=bE.mp hy;by_cases e:p=q
 .subst e;rw[e1]at e2;rw[e2];exact cN _
 .rw[<- e1,<- e2];exact j8.mp h p q h1 h2 (by lia)
def bq{l:List Keyed}(h:x∈l.drop i):∃p,i<=p/\l[p]?=some x:=by obtain⟨m,hm⟩:=g4.mp h;rw[Qq]at hm;exact⟨i+m,by lia,hm⟩
def jn{l:List Keyed}(h:x∈(l.drop i).take k):∃p,i<=p/\p<i+k/\l[p]?=some x:=by
 obtain⟨m,hm⟩:=g4.mp h;rw[OI]at hm;by_cases c:m<k
 .rw[ck c,Qq]at hm;exact⟨i+m,by lia,by lia,hm⟩
 .rw[cO c]at hm;cases hm
def m8(a:Array Keyed)(i k:Nat):(a.extract i (i+k)).toList=(a.toList.drop i).take k:=by simp[P9,List.extract_eq_drop_take]
def mv(a:Array Keyed)(i:Nat):(a.extract i a.size).toList=a.toList.drop i:=by simp[P9,List.extract_eq_drop_take];exact Oe (by simp)
end
noncomputable def ph:Nat->SM Unit:=sortPriv%PySem.Builtin.setMinGallop
abbrev rQ(st:SortSt)(g:Nat):SortSt:=SortSt.mk' (kindOf st) (arrOf st) (pendingOf st) g (failedOf st)
def AA(g:Nat):ph g=modify λs=>rQ s g:=rfl
noncomputable def jo:Array Keyed->Array Keyed->SM (Array Keyed):=sortPriv%PySem.Builtin.mergeLo
noncomputable abbrev dn(a b o:Array Keyed)(i j:Nat):Array Keyed:=o++a.extract i a.size++b.extract j b.size
noncomputable abbrev ln(a b o:Array Keyed)(i j:Nat):Array Keyed:=o++b.extract j b.size++a.extract i a.size
noncomputable abbrev G7:=Option (Array Keyed)×Array Keyed×Nat×Nat×Nat×Nat×Nat
def L0(a b:Array Keyed)(g c d i:Nat)(o:Array Keyed)(j:Nat):SM (ForInStep G7):=do
 let x <- elem' a i
 if i+1+1==a.size then return .done (some (ln a b (o.push x) (i+1) j),o.push x,i+1,j,g,c,d)
 if c<7&&d<7 then return .done (none,o.push x,i+1,j,g,c,d)
 return .yield (none,o.push x,i+1,j,g,c,d)
def GW(a b:Array Keyed)(g c d j:Nat)(o:Array Keyed)(i:Nat):SM (ForInStep G7):=do
 let y <- elem' b j
 if j+1==b.size then return .done (some (dn a b (o.push y) i (j+1)),o.push y,i,j+1,g,c,d)
 let x <- elem' a i
 let some k <- du true x b (j+1) (b.size-(j+1)) 0|return .done (some (dn a b (o.push y) i (j+1)),o.push y,i,j+1,g,c,d)
 if k>0 then
  if j+1+k==b.size then return .done (some (dn a b (o.push y++b.extract (j+1) (j+1+k)) i (j+1+k)),o.push y++b.extract (j+1) (j+1+k),i,j+1+k,g,c,k)
  L0 a b g c k i (o.push y++b.extract (j+1) (j+1+k)) (j+1+k)
 else L0 a b g c k i (o.push y) (j+1)
def L5(a b:Array Keyed)(o:Array Keyed)(i j c d g:Nat):SM (ForInStep G7):=do
 ph g
 let y <- elem' b j
 let some k <- du false y a i (a.size-i) 0|return .done (some (dn a b o i j),o,i,j,g,c,d)
 if k>0 then
  if i+k+1==a.size then return .done (some (ln a b (o++a.extract i (i+k)) (i+k) j),o++a.extract i (i+k),i+k,j,g,k,d)
  if i+k==a.size then return .done (some (dn a b (o++a.extract i (i+k)) (i+k) j),o++a.extract i (i+k),i+k,j,g,k,d)
  GW a b g k d j (o++a.extract i (i+k)) (i+k)
 else GW a b g k d j o i
def L6(a b:Array Keyed)(u:G7):SM (ForInStep G7):=if u.2.2.2.2.1>1 then L5 a b u.2.1 u.2.2.1 u.2.2.2.1 u.2.2.2.2.2.1 u.2.2.2.2.2.2 (u.2.2.2.2.1-1)else L5 a b u.2.1 u.2.2.1 u.2.2.2.1 u.2.2.2.2.2.1 u.2.2.2.2.2.2 u.2.2.2.2.1
noncomputable abbrev G6:=Option (Array Keyed)×Array Keyed×Nat×Nat×Nat×Nat
def L7(a b:Array Keyed)(g:Nat)(u:G6):SM (ForInStep G6):=do
 let y <- elem' b u.2.2.2.1
 let x <- elem' a u.2.2.1
 let some z <- lt' y x|return .done (some (dn a b u.2.1 u.2.2.1 u.2.2.2.1),u.2)
 if z then
  let y <- elem' b u.2.2.2.1
  if u.2.2.2.1+1==b.size then return .done (some (dn a b (u.2.1.push y) u.2.2.1 (u.2.2.2.1+1)),u.2.1.push y,u.2.2.1,u.2.2.2.1+1,0,u.2.2.2.2.2+1)
  if u.2.2.2.2.2+1>=g then return .done (none,u.2.1.push y,u.2.2.1,u.2.2.2.1+1,0,u.2.2.2.2.2+1)
  return .yield (none,u.2.1.push y,u.2.2.1,u.2.2.2.1+1,0,u.2.2.2.2.2+1)
 else
  let x <- elem' a u.2.2.1
  if u.2.2.1+1+1==a.size then return .done (some (ln a b (u.2.1.push x) (u.2.2.1+1) u.2.2.2.1),u.2.1.push x,u.2.2.1+1,u.2.2.2.1,u.2.2.2.2.1+1,0)
  if u.2.2.2.2.1+1>=g then return .done (none,u.2.1.push x,u.2.2.1+1,u.2.2.2.1,u.2.2.2.2.1+1,0)
  return .yield (none,u.2.1.push x,u.2.2.1+1,u.2.2.2.1,u.2.2.2.2.1+1,0)
noncomputable abbrev G5:=Option (Array Keyed)×Array Keyed×Nat×Nat×Nat
def L8(a b:Array Keyed)(u:G5):SM (ForInStep G5):=do
 let r <- forIn [0:a.size+b.size] ((none,u.2.1,u.2.2.1,u.2.2.2.1,0,0):G6) λ_ v=>L7 a b u.2.2.2.2 v
 match r.1 with
 |some x=>pure (.done (some x,r.2.1,r.2.2.1,r.2.2.2.1,u.2.2.2.2))
 |none=>do
  rule "list.sort.gallop"
  let q <- forIn [0:a.size+b.size] ((none,r.2.1,r.2.2.1,r.2.2.2.1,u.2.2.2.2+1,r.2.2.2.2.1,r.2.2.2.2.2):G7) λ_ v=>L6 a b v
  match q.1 with
  |some x=>pure (.done (some x,q.2.1,q.2.2.1,q.2.2.2.1,q.2.2.2.2.1))
  |none=>do
   ph (q.2.2.2.2.1+1)
   pure (.yield (none,q.2.1,q.2.2.1,q.2.2.2.1,q.2.2.2.2.1+1))
def sM(a b:Array Keyed):jo a b=(do
 rule "list.sort.merge-lo"
 let y <- elem' b 0
 if 1==b.size then return dn a b #[y] 0 1
 if 0+1==a.size then return ln a b #[y] 0 1
 let st <- get
 let r <- forIn [0:a.size+b.size] ((none,#[y],0,1,gallopOf st):G5) λ_ v=>L8 a b v
 match r.1 with
 |some x=>pure x
 |none=>unsupported "internal:list.sort.merge-bound"):=by
 delta jo
 show(liftM (rule "list.sort.merge-lo") >>= _)=_;refine N7 (liftM (rule "list.sort.merge-lo") >>= ·) ?_;funext _;refine N7 (elem' b 0 >>= ·) ?_;funext y;dsimp only;refine Rm rfl (λ_=>rfl) λ_=>Rm rfl (λ_=>rfl) λ_=>?_;refine N7 (get >>= ·) ?_;funext st;refine congr (N7 Bind.bind ?_) ?_
 .refine N7 (forIn [0:a.size+b.size] ((none,#[y],0,1,gallopOf st):G5)) ?_;funext _ u;obtain⟨r,o,i,j,g⟩:=u;unfold L8;dsimp only;refine congr (N7 Bind.bind ?_) ?_
  .refine N7 (forIn [0:a.size+b.size] ((none,o,i,j,0,0):G6)) ?_;funext _ v;obtain⟨r,o,i,j,c,d⟩:=v;unfold L7;rfl
  .funext v;obtain⟨r,o,i,j,c,d⟩:=v;cases r with
   |some x=>rfl
   |none=>
    refine N7 (liftM (rule "list.sort.gallop") >>= ·) ?_;funext _;refine congr (N7 Bind.bind ?_) ?_
    .refine N7 (forIn [0:a.size+b.size] ((none,o,i,j,g+1,c,d):G7)) ?_;funext _ v;obtain⟨r,o,i,j,g,c,d⟩:=v;unfold L6;rfl
    .funext v;obtain⟨r,o,i,j,g,c,d⟩:=v;cases r with
     |some x=>rfl
     |none=>rfl
 .funext v;obtain⟨r,o,i,j,g⟩:=v;cases r with
  |some x=>rfl
  |none=>rfl
section
variable{prog:Ry}{w:World}{A:RA}{E:Rz->Rv->Prop}{s:Rv}{κ:SortKind}{S:List Keyed}{rk:Keyed->Nat}
def kq{st:SortSt}{Q:Unit->SortSt->Prop}(h:Q () st):wpS (model prog w) A E s (liftM (rule n):SM Unit) Q st:=wpS_lift (Q1 ⟨rfl,h⟩)
def qB{st:SortSt}{Q:Unit->SortSt->Prop}(h:Q () (rQ st g)):wpS (model prog w) A E s (ph g) Q st:=by rw[AA];exact wpS_modify h
def vj(C:Cmp prog w A s κ S rk){st:SortSt}{key:Keyed}(hk:kindOf st=κ)(hy:key∈S)(hx:∀x∈xs.toList,x∈S)(hs:Srt rk (xs.toList.drop b |>.take n))(hn:b+n<=xs.size)(hh:h<n){Q:Option Nat->SortSt->Prop}
 (hq:∀k,k<=n->(∀i x,i<k->xs.toList[b+i]?=some x->rk x<=rk key)->(∀i x,k<=i->i<n->xs.toList[b+i]?=some x->rk key<rk x)->Q (some k) st):wpS (model prog w) A E s (du false key xs b n h) Q st:=by
 have at_:∀i<n,∃x,xs[b+i]?=some x/\x∈S:=λi hi=>by
  have hb:b+i<xs.size:=by lia
  exact⟨xs[b+i],by simp[hb],hx _ (by simp)⟩
 let P:Nat->Bool:=λi=>!decide (rk key<rk ((xs[b+i]?).getD key))
 have hP:∀i x,xs[b+i]?=some x->P i=!decide (rk key<rk x):=λi x e=>by grind
 obtain⟨k,hk1,hk2⟩:=vi P n λi j hij hj pj=>by obtain⟨x,ex,_⟩:=at_ i (by lia);obtain⟨y,ey,_⟩:=at_ j hj;rw[hP j y ey]at pj;rw[hP i x ex];have:=g_ hs (p:=i) (q:=j) (x:=x) (y:=y) (by grind) (by grind) (by lia);simp at pj ⊢;lia
 refine sL C hk hy (k:=k) (λi hi=>?_) hh hk1 (hq k hk1 (λi x hi e=>?_) λi x hi hin e=>?_)
 .obtain⟨x,ex,hxS⟩:=at_ i hi;exact⟨x,ex,hxS,by grind⟩
 .rw[gA]at e;have:=hk2 i (by lia);rw[hP i x e,db hi]at this;simp at this;lia
 .rw[gA]at e;have:=hk2 i hin;rw[hP i x e,iA (show ¬i<k by lia)]at this;simp at this;lia
def vm(C:Cmp prog w A s κ S rk){st:SortSt}{key:Keyed}(hk:kindOf st=κ)(hy:key∈S)(hx:∀x∈xs.toList,x∈S)(hs:Srt rk (xs.toList.drop b |>.take n))(hn:b+n<=xs.size)(hh:h<n){Q:Option Nat->SortSt->Prop}
 (hq:∀k,k<=n->(∀i x,i<k->xs.toList[b+i]?=some x->rk x<rk key)->(∀i x,k<=i->i<n->xs.toList[b+i]?=some x->rk key<=rk x)->Q (some k) st):wpS (model prog w) A E s (du true key xs b n h) Q st:=by
 have at_:∀i<n,∃x,xs[b+i]?=some x/\x∈S:=λi hi=>by
  have hb:b+i<xs.size:=by lia
  exact⟨xs[b+i],by simp[hb],hx _ (by simp)⟩
 let P:Nat->Bool:=λi=>decide (rk ((xs[b+i]?).getD key)<rk key)
 have hP:∀i x,xs[b+i]?=some x->P i=decide (rk x<rk key):=λi x e=>by grind
 obtain⟨k,hk1,hk2⟩:=vi P n λi j hij hj pj=>by obtain⟨x,ex,_⟩:=at_ i (by lia);obtain⟨y,ey,_⟩:=at_ j hj;rw[hP j y ey]at pj;rw[hP i x ex];have:=g_ hs (p:=i) (q:=j) (x:=x) (y:=y) (by grind) (by grind) (by lia);simp at pj ⊢;lia
 refine sL C hk hy (k:=k) (λi hi=>?_) hh hk1 (hq k hk1 (λi x hi e=>?_) λi x hi hin e=>?_)
 .obtain⟨x,ex,hxS⟩:=at_ i hi;exact⟨x,ex,hxS,by grind⟩
 .rw[gA]at e;have:=hk2 i (by lia);rw[hP i x e,db hi]at this;simpa using this
 .rw[gA]at e;have:=hk2 i hin;rw[hP i x e,iA (show ¬i<k by lia)]at this;simp at this;lia
structure Ab(rk:Keyed->Nat) (S:List Keyed) (a b:Array Keyed):Prop where
 ha:∀x∈a.toList,x∈S
 hb:∀x∈b.toList,x∈S
 sa:Srt rk a.toList
 sb:Srt rk b.toList
variable{a b:Array Keyed}
def Dh(a b o:Array Keyed)(i j:Nat):(dn a b o i j).toList=o.toList++a.toList.drop i++b.toList.drop j:=by rw[Oj,Oj,mv,mv]
def Di(a b o:Array Keyed)(i j:Nat):(ln a b o i j).toList=o.toList++b.toList.drop j++a.toList.drop i:=by rw[Oj,Oj,mv,mv]
def J6(H:Ab rk S a b)(h:J rk a.toList b.toList o.toList i j)(e:j=b.size\/i=a.size):Fin rk a.toList b.toList (dn a b o i j).toList:=by
 rw[Dh];refine h.uF H.sa H.sb λx hx y hy=>?_;rcases e with e|e
 .rw[OG (by rw[e];simp)]at hy;cases hy
 .rw[OG (by rw[e];simp)]at hx;cases hx
def L_(H:Ab rk S a b)(last:∀x∈b.toList,∀y,a.toList[a.size-1]?=some y->rk x<=rk y)(h:J rk a.toList b.toList o.toList i j)(e:i+1=a.size):Fin rk a.toList b.toList (ln a b o i j).toList:=by rw[Di];refine h.CD H.sa H.sb λx hx y hy=>?_;obtain⟨p,h1,h2⟩:=bq hy;have hp:=(bE.mp h2).1;rw[p7]at hp;exact last x (OP hx) y (by rw[show a.size-1=p by lia];exact h2)
def bw(h:i<a.size):∃x,a[i]?=some x/\a.toList[i]?=some x/\x∈a.toList:=⟨a[i],by simp[h],by simp[h],by simp⟩
def qC{l:List Keyed}(h:l[i]?=some x):(l.drop i).take 1=[x]:=by obtain⟨h1,h2⟩:=bE.mp h;rw[OC h1,h2];rfl
def J.p4{o:Array Keyed}(h:J rk a.toList b.toList o.toList i j)(H:Ab rk S a b)(hy:b.toList[j]?=some y)(hc:∀x∈a.toList.drop i,rk y<=rk x):J rk a.toList b.toList (o.push y).toList i (j+1):=by have:=h.v8 H.sb 1 (by rw[qC hy];intro x hx z hz;rw[lQ]at hx;subst hx;exact hc z hz);rw[qC hy]at this;rw[Ps];exact this
def J.p8{o:Array Keyed}(h:J rk a.toList b.toList o.toList i j)(H:Ab rk S a b)(hx:a.toList[i]?=some x)(hc:∀y∈b.toList.drop j,rk x<=rk y):J rk a.toList b.toList (o.push x).toList (i+1) j:=by have:=h.rP H.sa 1 (by rw[qC hx];intro z hz y hy;rw[lQ]at hz;subst hz;exact hc y hy);rw[qC hx]at this;rw[Ps];exact this
def jp(hs:Srt rk l)(hx:l[i]?=some x):∀y∈l.drop i,rk x<=rk y:=λy hy=>by obtain⟨p,h1,h2⟩:=bq hy;exact g_ hs hx h2 h1
def iC(hs:Srt rk l)(i n:Nat):Srt rk ((l.drop i).take n):=(hs.sublist (Pq _ _)).sublist (OZ _ _)
variable{st₀:SortSt}
def wI(rk:Keyed->Nat)(a b:Array Keyed)(st₀ st:SortSt)(n:Nat)(o:Array Keyed)(i j:Nat):Prop:=J rk a.toList b.toList o.toList i j/\i+1<a.size/\j<b.size/\n<=i+j/\∃g,st=rQ st₀ g
def zH(rk:Keyed->Nat)(a b:Array Keyed)(st₀ st:SortSt)(r:Option (Array Keyed)):Prop:=∃x,r=some x/\Fin rk a.toList b.toList x.toList/\∃g,st=rQ st₀ g
def J7(C:Cmp prog w A s κ S rk)(H:Ab rk S a b)(hk:kindOf st₀=κ)(last:∀x∈b.toList,∀y,a.toList[a.size-1]?=some y->rk x<=rk y){st:SortSt}{g n c d:Nat}(M:wI rk a b st₀ st n o i j) :
 wpS (model prog w) A E s (L7 a b g (r,o,i,j,c,d)) (λq st'=>match q with
  |.done v=>zH rk a b st₀ st' v.1\/(v.1=none/\wI rk a b st₀ st' (n+1) v.2.1 v.2.2.1 v.2.2.2.1)
  |.yield v=>v.1=none/\wI rk a b st₀ st' (n+1) v.2.1 v.2.2.1 v.2.2.2.1) st:=by
 obtain⟨hJ,hi,hj,hn,g',rfl⟩:=M;obtain⟨y,y1,y2,y3⟩:=bw hj;obtain⟨x,x1,x2,x3⟩:=bw (show i<a.size by lia);unfold L7;dsimp only;refine i6 (bc y1 (i6 (bc x1 (i6 (Az C (st:=rQ st₀ g') (H.hb y y3) (H.ha x x3) hk ?_)))));dsimp only;by_cases h:rk y<rk x
 .rw[db h,ck rfl];refine i6 (bc y1 ?_);have hJ':=hJ.p4 H y2 λz hz=>lN (Ou h) (jp H.sa x2 z hz);by_cases e:j+1=b.size
  .rw[ck (by simpa using e)];exact j7 (.inl ⟨_,rfl,J6 H hJ' (.inl e),_,rfl⟩)
  .rw[cO (by simpa using e)];by_cases e2:d+1>=g
   .rw[ck e2];exact j7 (.inr ⟨rfl,hJ',hi,by dsimp only;lia,by dsimp only;lia,_,rfl⟩)
   .rw[cO e2];exact j7 ⟨rfl,hJ',hi,by dsimp only;lia,by dsimp only;lia,_,rfl⟩
 .rw[iA h,cO (by simp)];refine i6 (bc x1 ?_);have hJ':=hJ.p8 H x2 λz hz=>lN (PL h) (jp H.sb y2 z hz);by_cases e:i+1+1=a.size
  .rw[ck (by simpa using e)];exact j7 (.inl ⟨_,rfl,L_ H last hJ' e,_,rfl⟩)
  .rw[cO (by simpa using e)];by_cases e2:c+1>=g
   .rw[ck e2];exact j7 (.inr ⟨rfl,hJ',by dsimp only;lia,hj,by dsimp only;lia,_,rfl⟩)
   .rw[cO e2];exact j7 ⟨rfl,hJ',by dsimp only;lia,hj,by dsimp only;lia,_,rfl⟩
end
section
variable{prog:Ry}{w:World}{A:RA}{E:Rz->Rv->Prop}{s:Rv}{κ:SortKind}{S:List Keyed}{rk:Keyed->Nat}{a b:Array Keyed}{st₀:SortSt}
def QG(rk:Keyed->Nat)(a b:Array Keyed)(st₀:SortSt)(n:Nat)(q:ForInStep G7)(st':SortSt):Prop:=match q with
 |.done v=>zH rk a b st₀ st' v.1\/(v.1=none/\wI rk a b st₀ st' n v.2.1 v.2.2.1 v.2.2.2.1)
 |.yield v=>v.1=none/\wI rk a b st₀ st' (n+1) v.2.1 v.2.2.1 v.2.2.2.1
def Fm(H:Ab rk S a b)(last:∀x∈b.toList,∀y,a.toList[a.size-1]?=some y->rk x<=rk y)(hJ:J rk a.toList b.toList o.toList i j)(hi:i+1<a.size)(hj:j<b.size)(hn:n<=i+j)
 (hc:∀x,a.toList[i]?=some x->∀y∈b.toList.drop j,rk x<=rk y):wpS (model prog w) A E s (L0 a b g c d i o j) (QG rk a b st₀ n) (rQ st₀ g'):=by
 obtain⟨x,x1,x2,x3⟩:=bw (show i<a.size by lia);unfold L0;refine i6 (bc x1 ?_);have hJ':=hJ.p8 H x2 (hc x x2);by_cases e:i+1+1=a.size
 .rw[ck (by simpa using e)];exact j7 (.inl ⟨_,rfl,L_ H last hJ' e,_,rfl⟩)
 .rw[cO (by simpa using e)];split
  .exact j7 (.inr ⟨rfl,hJ',by dsimp only;lia,hj,by dsimp only;lia,_,rfl⟩)
  .exact j7 ⟨rfl,hJ',by dsimp only;lia,hj,by dsimp only;lia,_,rfl⟩
def Fo(C:Cmp prog w A s κ S rk)(H:Ab rk S a b)(hk:kindOf st₀=κ)(last:∀x∈b.toList,∀y,a.toList[a.size-1]?=some y->rk x<=rk y)(hJ:J rk a.toList b.toList o.toList i j)(hi:i+1<a.size)(hj:j<b.size)(hn:n<=i+j)
 (hc:∀y,b.toList[j]?=some y->∀x∈a.toList.drop i,rk y<=rk x):wpS (model prog w) A E s (GW a b g c d j o i) (QG rk a b st₀ n) (rQ st₀ g'):=by
 obtain⟨y,y1,y2,y3⟩:=bw hj;obtain⟨x,x1,x2,x3⟩:=bw (show i<a.size by lia);unfold GW;refine i6 (bc y1 ?_);have hJ':=hJ.p4 H y2 (hc y y2);by_cases e:j+1=b.size
 .rw[ck (by simpa using e)];exact j7 (.inl ⟨_,rfl,J6 H hJ' (.inl e),_,rfl⟩)
 .rw[cO (by simpa using e)];refine i6 (bc x1 (i6 (vm C (st:=rQ st₀ g') hk (H.ha x x3) H.hb (iC H.sb _ _) (by lia) (by lia) λk k1 k2 k3=>?_)));dsimp only;have hJ2:=hJ'.v8 H.sb k λz hz v hv=>by obtain⟨p,p1,p2,p3⟩:=jn hz;have h1:=k2 (p-(j+1)) z (by lia) (by rw[show j+1+(p-(j+1))=p by lia];exact p3);exact lN (Ou h1) (jp H.sa x2 v hv)
  have hrest:∀z∈b.toList.drop (j+1+k),rk x<=rk z:=λz hz=>by obtain⟨p,p1,p3⟩:=bq hz;have hp:=(bE.mp p3).1;rw[p7]at hp;exact k3 (p-(j+1)) z (by lia) (by lia) (by rw[show j+1+(p-(j+1))=p by lia];exact p3)
  by_cases hk0:k>0
  .rw[ck hk0];rw[<- m8,<- Oj]at hJ2;by_cases e2:j+1+k=b.size
   .rw[ck (by simpa using e2)];exact j7 (.inl ⟨_,rfl,J6 H hJ2 (.inl e2),_,rfl⟩)
   .rw[cO (by simpa using e2)];exact Fm H last hJ2 hi (by lia) (by lia) λx' hx' z hz=>by rw[x2]at hx';cases hx';exact hrest z hz
  .rw[cO hk0];have:k=0:=by lia
   subst this;exact Fm H last hJ' hi (by lia) (by lia) λx' hx' z hz=>by rw[x2]at hx';cases hx';exact hrest z hz
def Fp(C:Cmp prog w A s κ S rk)(H:Ab rk S a b)(hk:kindOf st₀=κ)(last:∀x∈b.toList,∀y,a.toList[a.size-1]?=some y->rk x<=rk y){st:SortSt}{o:Array Keyed}(M:wI rk a b st₀ st n o i j) :
 wpS (model prog w) A E s (L5 a b o i j c d g) (QG rk a b st₀ n) st:=by
 obtain⟨hJ,hi,hj,hn,g',rfl⟩:=M;obtain⟨y,y1,y2,y3⟩:=bw hj;unfold L5;refine i6 (qB (i6 (bc y1 (i6 (vj C (st:=rQ st₀ g) hk (H.hb y y3) H.ha (iC H.sa _ _) (by lia) (by lia) λk k1 k2 k3=>?_)))));dsimp only;have hJ2:=hJ.rP H.sa k λz hz v hv=>by obtain⟨p,p1,p2,p3⟩:=jn hz;have h1:=k2 (p-i) z (by lia) (by rw[show i+(p-i)=p by lia];exact p3);exact lN h1 (jp H.sb y2 v hv)
 have hrest:∀z∈a.toList.drop (i+k),rk y<=rk z:=λz hz=>by obtain⟨p,p1,p3⟩:=bq hz;have hp:=(bE.mp p3).1;rw[p7]at hp;exact Ou (k3 (p-i) z (by lia) (by lia) (by rw[show i+(p-i)=p by lia];exact p3))
 by_cases hk0:k>0
 .rw[ck hk0];rw[<- m8,<- Oj]at hJ2;by_cases e:i+k+1=a.size
  .rw[ck (by simpa using e)];exact j7 (.inl ⟨_,rfl,L_ H last hJ2 e,_,rfl⟩)
  .rw[cO (by simpa using e)];by_cases e2:i+k=a.size
   .rw[ck (by simpa using e2)];exact j7 (.inl ⟨_,rfl,J6 H hJ2 (.inr e2),_,rfl⟩)
   .rw[cO (by simpa using e2)];exact Fo C H hk last hJ2 (by lia) hj (by lia) λy' hy' z hz=>by rw[y2]at hy';cases hy';exact hrest z hz
 .rw[cO hk0];have:k=0:=by lia
  subst this;exact Fo C H hk last hJ hi hj hn λy' hy' z hz=>by rw[y2]at hy';cases hy';exact hrest z hz
def J8(C:Cmp prog w A s κ S rk)(H:Ab rk S a b)(hk:kindOf st₀=κ)(last:∀x∈b.toList,∀y,a.toList[a.size-1]?=some y->rk x<=rk y){n g c d i j:Nat}{st:SortSt}(M:wI rk a b st₀ st n o i j) :
 wpS (model prog w) A E s (L6 a b (r,o,i,j,g,c,d)) (QG rk a b st₀ n) st:=by
 unfold L6;dsimp only;split
 .exact Fp C H hk last M
 .exact Fp C H hk last M
def J9(C:Cmp prog w A s κ S rk)(H:Ab rk S a b)(hk:kindOf st₀=κ)(last:∀x∈b.toList,∀y,a.toList[a.size-1]?=some y->rk x<=rk y){n g i j:Nat}{st:SortSt}(M:wI rk a b st₀ st n o i j) :
 wpS (model prog w) A E s (L8 a b (r,o,i,j,g)) (λq st'=>match q with
  |.done v=>zH rk a b st₀ st' v.1
  |.yield v=>v.1=none/\wI rk a b st₀ st' (n+1) v.2.1 v.2.2.1 v.2.2.2.1) st:=by
 have ht:0<a.size+b.size:=by have:=M.2.1;lia
 unfold L8;dsimp only;refine i6 (OO (OK (I:=λm (v:G6) st'=>v.1=none/\wI rk a b st₀ st' (n+m) v.2.1 v.2.2.1 v.2.2.2.1) (Q:=λv st'=>zH rk a b st₀ st' v.1\/(v.1=none/\wI rk a b st₀ st' (n+1) v.2.1 v.2.2.1 v.2.2.2.1)) ?_ ?_ ⟨rfl,M⟩) ?_)
 .rintro m ⟨r,o,i,j,c,d⟩ st' _ hm ⟨rfl,M'⟩;refine OO (J7 C H hk last M') λq st2 hq=>?_;cases q with
  |done v=>
   rcases hq with hq|⟨h1,h2⟩
   .exact .inl hq
   .exact .inr ⟨h1,h2.1,h2.2.1,h2.2.2.1,by have:=h2.2.2.2.1;lia,h2.2.2.2.2⟩
  |yield v=>exact hq
 .rintro⟨r,o,i,j,c,d⟩ st' ⟨rfl,M'⟩;exact .inr ⟨rfl,M'.1,M'.2.1,M'.2.2.1,by have:=M'.2.2.2.1;lia,M'.2.2.2.2⟩
 .rintro⟨r,o,i,j,c,d⟩ st' hq;rcases hq with⟨x,e,hF,g',rfl⟩|⟨e,M'⟩
  .dsimp only at e ⊢;subst e;exact j7 ⟨x,rfl,hF,g',rfl⟩
  .dsimp only at e M' ⊢;subst e;refine i6 (kq ?_);refine i6 (OO (OK (I:=λm (v:G7) st'=>v.1=none/\wI rk a b st₀ st' (n+1+m) v.2.1 v.2.2.1 v.2.2.2.1) (Q:=λv st'=>zH rk a b st₀ st' v.1\/(v.1=none/\wI rk a b st₀ st' (n+1) v.2.1 v.2.2.1 v.2.2.2.1)) ?_ ?_ ⟨rfl,M'⟩) ?_)
   .rintro m ⟨r,o,i,j,g,c,d⟩ st' _ hm ⟨rfl,M'⟩;refine OO (J8 C H hk last M') λq st2 hq=>?_;cases q with
    |done v=>
     rcases hq with hq|⟨h1,h2⟩
     .exact .inl hq
     .exact .inr ⟨h1,h2.1,h2.2.1,h2.2.2.1,by have:=h2.2.2.2.1;lia,h2.2.2.2.2⟩
    |yield v=>exact hq
   .rintro⟨r,o,i,j,g,c,d⟩ st' ⟨rfl,M'⟩;exact .inr ⟨rfl,M'.1,M'.2.1,M'.2.2.1,by have:=M'.2.2.2.1;lia,M'.2.2.2.2⟩
   .rintro⟨r,o,i,j,g,c,d⟩ st' hq;rcases hq with⟨x,e,hF,g',rfl⟩|⟨e,h1,h2,h3,h4,g',rfl⟩
    .dsimp only at e ⊢;subst e;exact j7 ⟨x,rfl,hF,g',rfl⟩
    .dsimp only at e h1 h2 h3 h4 ⊢;subst e;exact i6 (qB (j7 ⟨rfl,h1,h2,h3,h4,_,rfl⟩))
def yB(C:Cmp prog w A s κ S rk)(H:Ab rk S a b)(hk:kindOf st₀=κ)(na:1<=a.size)(nb:1<=b.size)(first:∀x,b.toList[0]?=some x->∀y∈a.toList,rk x<=rk y)(last:∀x∈b.toList,∀y,a.toList[a.size-1]?=some y->rk x<=rk y)
 (hq:∀o g,Fin rk a.toList b.toList o.toList->Q o (rQ st₀ g)):wpS (model prog w) A E s (jo a b) Q st₀:=by
 obtain⟨y,y1,y2,y3⟩:=bw (show 0<b.size by lia);have J0:J rk a.toList b.toList [] 0 0:=⟨by simp,List.Pairwise.nil,(λx hx=>by cases hx),λx hx=>by cases hx⟩;have hJ:J rk a.toList b.toList (#[y]:Array Keyed).toList 0 1:=J.p4 (o:=#[]) J0 H y2 λx hx=>first y y2 x (by simpa using hx);rw[sM];refine i6 (kq (i6 (bc y1 ?_)));by_cases e:1=b.size
 .rw[ck (by simpa using e)];exact j7 (hq _ (gallopOf st₀) (J6 H hJ (.inl e)))
 .rw[cO (by simpa using e)];by_cases e2:0+1=a.size
  .rw[ck (by simpa using e2)];exact j7 (hq _ (gallopOf st₀) (L_ H last hJ e2))
  .rw[cO (by simpa using e2)];refine i6 (wpS_get (i6 (OO (OK (I:=λm (v:G5) st'=>v.1=none/\wI rk a b st₀ st' (1+m) v.2.1 v.2.2.1 v.2.2.2.1) (Q:=λv st'=>zH rk a b st₀ st' v.1) ?_ ?_ ⟨rfl,hJ,by dsimp only;lia,by dsimp only;lia,by dsimp only;lia,gallopOf st₀,rfl⟩) ?_)))
   .rintro m ⟨r,o,i,j,g⟩ st' _ hm ⟨rfl,M'⟩;refine OO (J9 C H hk last M') λq st2 hq=>?_;cases q with
    |done v=>exact hq
    |yield v=>exact hq
   .rintro⟨r,o,i,j,g⟩ st' ⟨rfl,h1,h2,h3,h4,_⟩;dsimp only at h2 h3 h4;lia
   .rintro⟨r,o,i,j,g⟩ st' ⟨x,e,hF,g',rfl⟩;dsimp only at e ⊢;subst e;exact j7 (hq _ _ hF)
end
section
variable{rk:Keyed->Nat}
structure JH(rk:Keyed->Nat) (al bl o:List Keyed) (i j:Nat):Prop where
 perm:o.Perm (al.drop i++bl.drop j)
 E9:o.Pairwise λx y=>rk y<=rk x
 la:∀x∈o,∀y∈al.take i,rk y<=rk x
 lb:∀x∈o,∀y∈bl.take j,rk y<=rk x
variable{al bl o:List Keyed}{i j:Nat}
def JH.swap(h:JH rk al bl o i j):JH rk bl al o j i:=⟨h.perm.trans Ph,h.E9,h.lb,h.la⟩
def JH.rP(h:JH rk al bl o i j)(sa:Srt rk al)(hm:m<=i)(hc:∀x∈(al.take i).drop m,∀y∈bl.take j,rk y<=rk x):JH rk al bl (o++((al.take i).drop m).reverse) m j:=by
 have st:Srt rk (al.take i):=sa.sublist (OZ _ _);have e1:al.take i=al.take m++(al.take i).drop m:=by
  have:(al.take i).take m=al.take m:=by rw[List.take_take,Q4 hm]
  rw[<- this,lR]
 have e2:al.drop m=(al.take i).drop m++al.drop i:=by
  conv=>lhs;rw[<- lR i al]
  by_cases c:m<=(al.take i).length
  .rw[QS c]
  .have h1:(al.take i).length=al.length:=by rw[N5]at c ⊢;lia
   have h2:al.drop i=[]:=OG (by rw[N5]at h1 c;lia);rw[h2,Oo,Oo]
 have st2:=st;rw[e1]at st2;have pw:=OE.mp st2;refine⟨?_,OE.mpr ⟨h.E9,?_,λx hx y hy=>h.la x hx y (OP (QT.mp hy))⟩,λx hx y hy=>?_,λx hx y hy=>?_⟩
 .rw[e2];refine(h.perm.append_right _).trans ?_;refine Ph.trans ?_;rw[fC];exact((List.reverse_perm _).append_right _)
 .rw[QM];exact pw.2.1
 .rcases gZ.mp hx with hx|hx
  .exact h.la x hx y (by rw[e1];exact lP _ hy)
  .exact pw.2.2 y hy x (QT.mp hx)
 .rcases gZ.mp hx with hx|hx
  .exact h.lb x hx y hy
  .exact hc x (QT.mp hx) y hy
def JH.v8(h:JH rk al bl o i j)(sb:Srt rk bl)(hm:m<=j)(hc:∀x∈(bl.take j).drop m,∀y∈al.take i,rk y<=rk x):JH rk al bl (o++((bl.take j).drop m).reverse) i m:=(h.swap.rP sb hm hc).swap
def JH.end_(h:JH rk al bl o 0 0):Fin rk al bl o.reverse:=by have:=h.perm;rw[O8,O8]at this;exact⟨(List.reverse_perm _).trans this,by unfold Srt;rw[QM];exact h.E9⟩
def JH.uF(h:JH rk al bl o i j)(sa:Srt rk al)(sb:Srt rk bl)(hc:∀x∈bl.take j,∀y∈al.take i,rk y<=rk x):Fin rk al bl (al.take i++bl.take j++o.reverse):=by have h1:=h.v8 sb (m:=0) (N3 _) (by rw[O8];exact hc);have h2:=h1.rP sa (m:=0) (N3 _) (λx _ y hy=>by rw[QF]at hy;cases hy);have:=h2.end_;rw[O8,O8,List.reverse_append,List.reverse_append,List.reverse_reverse,List.reverse_reverse,<- fC]at this;exact this
def JH.CD(h:JH rk al bl o i j)(sa:Srt rk al)(sb:Srt rk bl)(hc:∀x∈al.take i,∀y∈bl.take j,rk y<=rk x):Fin rk al bl (bl.take j++al.take i++o.reverse):=let f:=h.swap.uF sb sa hc;⟨f.1.trans Ph,f.2⟩
def br{l:List Keyed}(h:x∈l.take i):∃p,p<i/\l[p]?=some x:=by
 obtain⟨m,hm⟩:=g4.mp h;rw[OI]at hm;by_cases c:m<i
 .rw[ck c]at hm;exact⟨m,c,hm⟩
 .rw[cO c]at hm;cases hm
def m9{l:List Keyed}(h:x∈(l.take i).drop m):∃p,m<=p/\p<i/\l[p]?=some x:=by
 obtain⟨q,h1,h2⟩:=bq h;rw[OI]at h2;by_cases c:q<i
 .rw[ck c]at h2;exact⟨q,h1,c,h2⟩
 .rw[cO c]at h2;cases h2
def mw{l:List Keyed}(h:l[i]?=some x):(l.take (i+1)).drop i=[x]:=by obtain⟨h1,h2⟩:=bE.mp h;rw[Pl h1,QS (by rw[N5];lia),OG (by rw[N5];lia),h2];rfl
def mx(a:Array Keyed)(m i:Nat):(a.extract m i).toList=(a.toList.take i).drop m:=by simp[P9,List.extract_eq_drop_take,List.drop_take]
def jq(a:Array Keyed)(i:Nat):(a.extract 0 i).toList=a.toList.take i:=by rw[mx,O8]
def jr{l:List Keyed}(hs:Srt rk l)(hx:l[i]?=some x):∀y∈l.take (i+1),rk y<=rk x:=λy hy=>by obtain⟨p,h1,h2⟩:=br hy;exact g_ hs h2 hx (by lia)
end
noncomputable def js:Array Keyed->Array Keyed->SM (Array Keyed):=sortPriv%PySem.Builtin.mergeHi
noncomputable abbrev dh(a b o:Array Keyed)(i j:Nat):Array Keyed:=a.extract 0 i++b.extract 0 j++o.reverse
noncomputable abbrev fh(a b o:Array Keyed)(i j:Nat):Array Keyed:=b.extract 0 j++a.extract 0 i++o.reverse
noncomputable abbrev H7:=Option (Array Keyed)×Nat×Nat×Array Keyed×Nat×Nat×Nat
def hi3(a b:Array Keyed)(g c d i:Nat)(j:Nat)(o:Array Keyed):SM (ForInStep H7):=do
 let x <- elem' a (i-1)
 if i-1==0 then return .done (some (dh a b (o.push x) (i-1) j),i-1,j,o.push x,g,c,d)
 if c<7&&d<7 then return .done (none,i-1,j,o.push x,g,c,d)
 return .yield (none,i-1,j,o.push x,g,c,d)
def hi2(a b:Array Keyed)(g c d j:Nat)(i:Nat)(o:Array Keyed):SM (ForInStep H7):=do
 let y <- elem' b (j-1)
 if j-1==1 then return .done (some (fh a b (o.push y) i (j-1)),i,j-1,o.push y,g,c,d)
 let x <- elem' a (i-1)
 let some k <- du true x b 0 (j-1) (j-1-1)|return .done (some (dh a b (o.push y) i (j-1)),i,j-1,o.push y,g,c,d)
 if j-1-k>0 then
  if k==1 then return .done (some (fh a b (o.push y++(b.extract k (j-1)).reverse) i k),i,k,o.push y++(b.extract k (j-1)).reverse,g,c,j-1-k)
  if k==0 then return .done (some (dh a b (o.push y++(b.extract k (j-1)).reverse) i k),i,k,o.push y++(b.extract k (j-1)).reverse,g,c,j-1-k)
  hi3 a b g c (j-1-k) i k (o.push y++(b.extract k (j-1)).reverse)
 else hi3 a b g c (j-1-k) i (j-1) (o.push y)
def Fq(a b:Array Keyed)(o:Array Keyed)(i j c d g:Nat):SM (ForInStep H7):=do
 ph g
 let y <- elem' b (j-1)
 let some k <- du false y a 0 i (i-1)|return .done (some (dh a b o i j),i,j,o,g,c,d)
 if i-k>0 then
  if k==0 then return .done (some (dh a b (o++(a.extract k i).reverse) k j),k,j,o++(a.extract k i).reverse,g,i-k,d)
  hi2 a b g (i-k) d j k (o++(a.extract k i).reverse)
 else hi2 a b g (i-k) d j i o
def Mb(a b:Array Keyed)(u:H7):SM (ForInStep H7):=if u.2.2.2.2.1>1 then Fq a b u.2.2.2.1 u.2.1 u.2.2.1 u.2.2.2.2.2.1 u.2.2.2.2.2.2 (u.2.2.2.2.1-1)else Fq a b u.2.2.2.1 u.2.1 u.2.2.1 u.2.2.2.2.2.1 u.2.2.2.2.2.2 u.2.2.2.2.1
noncomputable abbrev H6:=Option (Array Keyed)×Nat×Nat×Array Keyed×Nat×Nat
def Md(a b:Array Keyed)(g:Nat)(u:H6):SM (ForInStep H6):=do
 let y <- elem' b (u.2.2.1-1)
 let x <- elem' a (u.2.1-1)
 let some z <- lt' y x|return .done (some (dh a b u.2.2.2.1 u.2.1 u.2.2.1),u.2)
 if z then
  let x <- elem' a (u.2.1-1)
  if u.2.1-1==0 then return .done (some (dh a b (u.2.2.2.1.push x) (u.2.1-1) u.2.2.1),u.2.1-1,u.2.2.1,u.2.2.2.1.push x,u.2.2.2.2.1+1,0)
  if u.2.2.2.2.1+1>=g then return .done (none,u.2.1-1,u.2.2.1,u.2.2.2.1.push x,u.2.2.2.2.1+1,0)
  return .yield (none,u.2.1-1,u.2.2.1,u.2.2.2.1.push x,u.2.2.2.2.1+1,0)
 else
  let y <- elem' b (u.2.2.1-1)
  if u.2.2.1-1==1 then return .done (some (fh a b (u.2.2.2.1.push y) u.2.1 (u.2.2.1-1)),u.2.1,u.2.2.1-1,u.2.2.2.1.push y,0,u.2.2.2.2.2+1)
  if u.2.2.2.2.2+1>=g then return .done (none,u.2.1,u.2.2.1-1,u.2.2.2.1.push y,0,u.2.2.2.2.2+1)
  return .yield (none,u.2.1,u.2.2.1-1,u.2.2.2.1.push y,0,u.2.2.2.2.2+1)
noncomputable abbrev H5:=Option (Array Keyed)×Nat×Nat×Array Keyed×Nat
def Me(a b:Array Keyed)(u:H5):SM (ForInStep H5):=do
 let r <- forIn [0:a.size+b.size] ((none,u.2.1,u.2.2.1,u.2.2.2.1,0,0):H6) λ_ v=>Md a b u.2.2.2.2 v
 match r.1 with
 |some x=>pure (.done (some x,r.2.1,r.2.2.1,r.2.2.2.1,u.2.2.2.2))
 |none=>do
  rule "list.sort.gallop"
  let q <- forIn [0:a.size+b.size] ((none,r.2.1,r.2.2.1,r.2.2.2.1,u.2.2.2.2+1,r.2.2.2.2.1,r.2.2.2.2.2):H7) λ_ v=>Mb a b v
  match q.1 with
  |some x=>pure (.done (some x,q.2.1,q.2.2.1,q.2.2.2.1,q.2.2.2.2.1))
  |none=>do
   ph (q.2.2.2.2.1+1)
   pure (.yield (none,q.2.1,q.2.2.1,q.2.2.2.1,q.2.2.2.2.1+1))
def sN(a b:Array Keyed):js a b=(do
 rule "list.sort.merge-hi"
 let x <- elem' a (a.size-1)
 if a.size-1==0 then return dh a b #[x] (a.size-1) b.size
 if b.size==1 then return fh a b #[x] (a.size-1) b.size
 let st <- get
 let r <- forIn [0:a.size+b.size] ((none,a.size-1,b.size,#[x],gallopOf st):H5) λ_ v=>Me a b v
 match r.1 with
 |some x=>pure x
 |none=>unsupported "internal:list.sort.merge-bound"):=by
 delta js
 show(liftM (rule "list.sort.merge-hi") >>= _)=_;refine N7 (liftM (rule "list.sort.merge-hi") >>= ·) ?_;funext _;refine N7 (elem' a (a.size-1) >>= ·) ?_;funext y;dsimp only;refine Rm rfl (λ_=>rfl) λ_=>Rm rfl (λ_=>rfl) λ_=>?_;refine N7 (get >>= ·) ?_;funext st;refine congr (N7 Bind.bind ?_) ?_
 .refine N7 (forIn [0:a.size+b.size] ((none,a.size-1,b.size,#[y],gallopOf st):H5)) ?_;funext _ u;obtain⟨r,i,j,o,g⟩:=u;unfold Me;dsimp only;refine congr (N7 Bind.bind ?_) ?_
  .refine N7 (forIn [0:a.size+b.size] ((none,i,j,o,0,0):H6)) ?_;funext _ v;obtain⟨r,i,j,o,c,d⟩:=v;unfold Md;rfl
  .funext v;obtain⟨r,i,j,o,c,d⟩:=v;cases r with
   |some x=>rfl
   |none=>
    refine N7 (liftM (rule "list.sort.gallop") >>= ·) ?_;funext _;refine congr (N7 Bind.bind ?_) ?_
    .refine N7 (forIn [0:a.size+b.size] ((none,i,j,o,g+1,c,d):H7)) ?_;funext _ v;obtain⟨r,i,j,o,g,c,d⟩:=v;unfold Mb;rfl
    .funext v;obtain⟨r,i,j,o,g,c,d⟩:=v;cases r with
     |some x=>rfl
     |none=>rfl
 .funext v;obtain⟨r,i,j,o,g⟩:=v;cases r with
  |some x=>rfl
  |none=>rfl
section
variable{prog:Ry}{w:World}{A:RA}{E:Rz->Rv->Prop}{s:Rv}{κ:SortKind}{S:List Keyed}{rk:Keyed->Nat}{a b:Array Keyed}{st₀:SortSt}
def Dj(a b o:Array Keyed)(i j:Nat):(dh a b o i j).toList=a.toList.take i++b.toList.take j++o.toList.reverse:=by rw[Oj,Oj,jq,jq,P_]
def Dk(a b o:Array Keyed)(i j:Nat):(fh a b o i j).toList=b.toList.take j++a.toList.take i++o.toList.reverse:=by rw[Oj,Oj,jq,jq,P_]
def J_(H:Ab rk S a b)(h:JH rk a.toList b.toList o.toList i j)(e:i=0\/j=0):Fin rk a.toList b.toList (dh a b o i j).toList:=by
 rw[Dj];refine h.uF H.sa H.sb λx hx y hy=>?_;rcases e with e|e
 .rw[e,QF]at hy;cases hy
 .rw[e,QF]at hx;cases hx
def Mf(H:Ab rk S a b)(first:∀x,b.toList[0]?=some x->∀y∈a.toList,rk x<=rk y)(h:JH rk a.toList b.toList o.toList i 1):Fin rk a.toList b.toList (fh a b o i 1).toList:=by rw[Dk];refine h.CD H.sa H.sb λx hx y hy=>?_;obtain⟨p,h1,h2⟩:=br hy;rw[show p=0 by lia]at h2;exact first y h2 x (Ov hx)
def JH.p8{o:Array Keyed}(h:JH rk a.toList b.toList o.toList (i+1) j)(H:Ab rk S a b)(hx:a.toList[i]?=some x)(hc:∀y∈b.toList.take j,rk y<=rk x):JH rk a.toList b.toList (o.push x).toList i j:=by have:=h.rP H.sa (m:=i) (by lia) (by rw[mw hx];intro z hz y hy;rw[lQ]at hz;subst hz;exact hc y hy);rw[mw hx]at this;rw[Ps];exact this
def JH.p4{o:Array Keyed}(h:JH rk a.toList b.toList o.toList i (j+1))(H:Ab rk S a b)(hy:b.toList[j]?=some y)(hc:∀x∈a.toList.take i,rk x<=rk y):JH rk a.toList b.toList (o.push y).toList i j:=by have:=h.v8 H.sb (m:=j) (by lia) (by rw[mw hy];intro z hz x hx;rw[lQ]at hz;subst hz;exact hc x hx);rw[mw hy]at this;rw[Ps];exact this
def jt(rk:Keyed->Nat)(a b:Array Keyed)(st₀ st:SortSt)(n:Nat)(o:Array Keyed)(i j:Nat):Prop:=JH rk a.toList b.toList o.toList i j/\(0<i/\i<=a.size)/\(1<j/\j<=b.size)/\i+j+n+1<=a.size+b.size/\∃g,st=rQ st₀ g
def Ka(C:Cmp prog w A s κ S rk)(H:Ab rk S a b)(hk:kindOf st₀=κ)(first:∀x,b.toList[0]?=some x->∀y∈a.toList,rk x<=rk y){st:SortSt}{g n c d:Nat}(M:jt rk a b st₀ st n o i j) :
 wpS (model prog w) A E s (Md a b g (r,i,j,o,c,d)) (λq st'=>match q with
  |.done v=>zH rk a b st₀ st' v.1\/(v.1=none/\jt rk a b st₀ st' (n+1) v.2.2.2.1 v.2.1 v.2.2.1)
  |.yield v=>v.1=none/\jt rk a b st₀ st' (n+1) v.2.2.2.1 v.2.1 v.2.2.1) st:=by
 obtain⟨hJ,hi,hj,hn,g',rfl⟩:=M;obtain⟨i,rfl⟩ : ∃m,i=m+1:=⟨i-1,by lia⟩;obtain⟨j,rfl⟩ : ∃m,j=m+1:=⟨j-1,by lia⟩;obtain⟨y,y1,y2,y3⟩:=bw (show j<b.size by lia);obtain⟨x,x1,x2,x3⟩:=bw (show i<a.size by lia);unfold Md;simp only[Q_];refine i6 (bc y1 (i6 (bc x1 (i6 (Az C (st:=rQ st₀ g') (H.hb y y3) (H.ha x x3) hk ?_)))));dsimp only;by_cases h:rk y<rk x
 .rw[db h,ck rfl];refine i6 (bc x1 ?_);have hJ':=hJ.p8 H x2 λz hz=>lN (jr H.sb y2 z hz) (Ou h);by_cases e:i=0
  .rw[ck (by simpa using e)];exact j7 (.inl ⟨_,rfl,J_ H hJ' (.inl e),_,rfl⟩)
  .rw[cO (by simpa using e)];by_cases e2:c+1>=g
   .rw[ck e2];exact j7 (.inr ⟨rfl,hJ',⟨by dsimp only;lia,by dsimp only;lia⟩,hj,by dsimp only;lia,_,rfl⟩)
   .rw[cO e2];exact j7 ⟨rfl,hJ',⟨by dsimp only;lia,by dsimp only;lia⟩,hj,by dsimp only;lia,_,rfl⟩
 .rw[iA h,cO (by simp)];refine i6 (bc y1 ?_);have hJ':=hJ.p4 H y2 λz hz=>lN (jr H.sa x2 z hz) (PL h);by_cases e:j=1
  .rw[ck (by simpa using e)];subst e;exact j7 (.inl ⟨_,rfl,Mf H first hJ',_,rfl⟩)
  .rw[cO (by simpa using e)];by_cases e2:d+1>=g
   .rw[ck e2];exact j7 (.inr ⟨rfl,hJ',hi,⟨by dsimp only;lia,by dsimp only;lia⟩,by dsimp only;lia,_,rfl⟩)
   .rw[cO e2];exact j7 ⟨rfl,hJ',hi,⟨by dsimp only;lia,by dsimp only;lia⟩,by dsimp only;lia,_,rfl⟩
def QH(rk:Keyed->Nat)(a b:Array Keyed)(st₀:SortSt)(n:Nat)(q:ForInStep H7)(st':SortSt):Prop:=match q with
 |.done v=>zH rk a b st₀ st' v.1\/(v.1=none/\jt rk a b st₀ st' n v.2.2.2.1 v.2.1 v.2.2.1)
 |.yield v=>v.1=none/\jt rk a b st₀ st' (n+1) v.2.2.2.1 v.2.1 v.2.2.1
def Fs(H:Ab rk S a b)(hJ:JH rk a.toList b.toList o.toList i j)(hi:0<i/\i<=a.size)(hj:1<j/\j<=b.size)(hn:i+j+n+1<=a.size+b.size)
 (hc:∀x,a.toList[i-1]?=some x->∀y∈b.toList.take j,rk y<=rk x):wpS (model prog w) A E s (hi3 a b g c d i j o) (QH rk a b st₀ n) (rQ st₀ g'):=by
 obtain⟨i,rfl⟩ : ∃m,i=m+1:=⟨i-1,by lia⟩;obtain⟨x,x1,x2,x3⟩:=bw (show i<a.size by lia);unfold hi3;simp only[Q_]at hc ⊢;refine i6 (bc x1 ?_);have hJ':=hJ.p8 H x2 (hc x x2);by_cases e:i=0
 .rw[ck (by simpa using e)];exact j7 (.inl ⟨_,rfl,J_ H hJ' (.inl e),_,rfl⟩)
 .rw[cO (by simpa using e)];split
  .exact j7 (.inr ⟨rfl,hJ',⟨by dsimp only;lia,by dsimp only;lia⟩,hj,by dsimp only;lia,_,rfl⟩)
  .exact j7 ⟨rfl,hJ',⟨by dsimp only;lia,by dsimp only;lia⟩,hj,by dsimp only;lia,_,rfl⟩
def Ft(C:Cmp prog w A s κ S rk)(H:Ab rk S a b)(hk:kindOf st₀=κ)(first:∀x,b.toList[0]?=some x->∀y∈a.toList,rk x<=rk y)(hJ:JH rk a.toList b.toList o.toList i j)(hi:0<i/\i<=a.size)(hj:1<j/\j<=b.size)(hn:i+j+n+1<=a.size+b.size)
 (hc:∀y,b.toList[j-1]?=some y->∀x∈a.toList.take i,rk x<=rk y):wpS (model prog w) A E s (hi2 a b g c d j i o) (QH rk a b st₀ n) (rQ st₀ g'):=by
 obtain⟨j,rfl⟩ : ∃m,j=m+1:=⟨j-1,by lia⟩;obtain⟨y,y1,y2,y3⟩:=bw (show j<b.size by lia);obtain⟨x,x1,x2,x3⟩:=bw (show i-1<a.size by lia);unfold hi2;simp only[Q_]at hc ⊢;refine i6 (bc y1 ?_);have hJ':=hJ.p4 H y2 (hc y y2);by_cases e:j=1
 .rw[ck (by simpa using e)];subst e;exact j7 (.inl ⟨_,rfl,Mf H first hJ',_,rfl⟩)
 .rw[cO (by simpa using e)];refine i6 (bc x1 (i6 (vm C (st:=rQ st₀ g') hk (H.ha x x3) H.hb (iC H.sb _ _) (by lia) (by lia) λk k1 k2 k3=>?_)));dsimp only;have xa:∀v∈a.toList.take i,rk v<=rk x:=λv hv=>jr H.sa x2 v (by rw[show i-1+1=i by lia];exact hv);have hJ2:=hJ'.v8 H.sb k1 λz hz v hv=>by obtain⟨p,p1,p2,p3⟩:=m9 hz;have h1:=k3 p z p1 p2 (by rw[Qi];exact p3);exact lN (xa v hv) h1
  have hrest:∀z∈b.toList.take k,rk z<=rk x:=λz hz=>by obtain⟨p,p1,p3⟩:=br hz;exact Ou (k2 p z p1 (by rw[Qi];exact p3))
  by_cases hk0:j-k>0
  .rw[ck hk0];rw[<- mx,<- P_,<- Oj]at hJ2;by_cases e2:k=1
   .rw[ck (by simpa using e2)];subst e2;exact j7 (.inl ⟨_,rfl,Mf H first hJ2,_,rfl⟩)
   .rw[cO (by simpa using e2)];by_cases e3:k=0
    .rw[ck (by simpa using e3)];exact j7 (.inl ⟨_,rfl,J_ H hJ2 (.inr e3),_,rfl⟩)
    .rw[cO (by simpa using e3)];exact Fs H hJ2 hi (by lia) (by lia) λx' hx' z hz=>by rw[x2]at hx';cases hx';exact hrest z hz
  .rw[cO hk0];have:k=j:=by lia
   subst this;exact Fs H hJ' hi (by lia) (by lia) λx' hx' z hz=>by rw[x2]at hx';cases hx';exact hrest z hz
def Fu(C:Cmp prog w A s κ S rk)(H:Ab rk S a b)(hk:kindOf st₀=κ)(first:∀x,b.toList[0]?=some x->∀y∈a.toList,rk x<=rk y){st:SortSt}{o:Array Keyed}(M:jt rk a b st₀ st n o i j) :
 wpS (model prog w) A E s (Fq a b o i j c d g) (QH rk a b st₀ n) st:=by
 obtain⟨hJ,hi,hj,hn,g',rfl⟩:=M;obtain⟨y,y1,y2,y3⟩:=bw (show j-1<b.size by lia);unfold Fq;refine i6 (qB (i6 (bc y1 (i6 (vj C (st:=rQ st₀ g) hk (H.hb y y3) H.ha (iC H.sa _ _) (by lia) (by lia) λk k1 k2 k3=>?_)))));dsimp only;have yb:∀v∈b.toList.take j,rk v<=rk y:=λv hv=>jr H.sb y2 v (by rw[show j-1+1=j by lia];exact hv);have hJ2:=hJ.rP H.sa k1 λz hz v hv=>by obtain⟨p,p1,p2,p3⟩:=m9 hz;have h1:=k3 p z p1 p2 (by rw[Qi];exact p3);exact lN (yb v hv) (Ou h1)
 have hrest:∀z∈a.toList.take k,rk z<=rk y:=λz hz=>by obtain⟨p,p1,p3⟩:=br hz;exact k2 p z p1 (by rw[Qi];exact p3)
 by_cases hk0:i-k>0
 .rw[ck hk0];rw[<- mx,<- P_,<- Oj]at hJ2;by_cases e:k=0
  .rw[ck (by simpa using e)];exact j7 (.inl ⟨_,rfl,J_ H hJ2 (.inl e),_,rfl⟩)
  .rw[cO (by simpa using e)];exact Ft C H hk first hJ2 (by lia) hj (by lia) λy' hy' z hz=>by rw[y2]at hy';cases hy';exact hrest z hz
 .rw[cO hk0];have:k=i:=by lia
  subst this;exact Ft C H hk first hJ hi hj hn λy' hy' z hz=>by rw[y2]at hy';cases hy';exact hrest z hz
def Kb(C:Cmp prog w A s κ S rk)(H:Ab rk S a b)(hk:kindOf st₀=κ)(first:∀x,b.toList[0]?=some x->∀y∈a.toList,rk x<=rk y){n g c d i j:Nat}{st:SortSt}(M:jt rk a b st₀ st n o i j) :
 wpS (model prog w) A E s (Mb a b (r,i,j,o,g,c,d)) (QH rk a b st₀ n) st:=by
 unfold Mb;dsimp only;split
 .exact Fu C H hk first M
 .exact Fu C H hk first M
def Kc(C:Cmp prog w A s κ S rk)(H:Ab rk S a b)(hk:kindOf st₀=κ)(first:∀x,b.toList[0]?=some x->∀y∈a.toList,rk x<=rk y){n g i j:Nat}{st:SortSt}(M:jt rk a b st₀ st n o i j) :
 wpS (model prog w) A E s (Me a b (r,i,j,o,g)) (λq st'=>match q with
  |.done v=>zH rk a b st₀ st' v.1
  |.yield v=>v.1=none/\jt rk a b st₀ st' (n+1) v.2.2.2.1 v.2.1 v.2.2.1) st:=by
 have ht:0<a.size+b.size:=by have:=M.2.1;lia
 unfold Me;dsimp only;refine i6 (OO (OK (I:=λm (v:H6) st'=>v.1=none/\jt rk a b st₀ st' (n+m) v.2.2.2.1 v.2.1 v.2.2.1) (Q:=λv st'=>zH rk a b st₀ st' v.1\/(v.1=none/\jt rk a b st₀ st' (n+1) v.2.2.2.1 v.2.1 v.2.2.1)) ?_ ?_ ⟨rfl,M⟩) ?_)
 .rintro m ⟨r,i,j,o,c,d⟩ st' _ hm ⟨rfl,M'⟩;refine OO (Ka C H hk first M') λq st2 hq=>?_;cases q with
  |done v=>
   rcases hq with hq|⟨h1,h2⟩
   .exact .inl hq
   .exact .inr ⟨h1,h2.1,h2.2.1,h2.2.2.1,by have:=h2.2.2.2.1;lia,h2.2.2.2.2⟩
  |yield v=>exact hq
 .rintro⟨r,i,j,o,c,d⟩ st' ⟨rfl,M'⟩;exact .inr ⟨rfl,M'.1,M'.2.1,M'.2.2.1,by have:=M'.2.2.2.1;lia,M'.2.2.2.2⟩
 .rintro⟨r,i,j,o,c,d⟩ st' hq;rcases hq with⟨x,e,hF,g',rfl⟩|⟨e,M'⟩
  .dsimp only at e ⊢;subst e;exact j7 ⟨x,rfl,hF,g',rfl⟩
  .dsimp only at e M' ⊢;subst e;refine i6 (kq ?_);refine i6 (OO (OK (I:=λm (v:H7) st'=>v.1=none/\jt rk a b st₀ st' (n+1+m) v.2.2.2.1 v.2.1 v.2.2.1) (Q:=λv st'=>zH rk a b st₀ st' v.1\/(v.1=none/\jt rk a b st₀ st' (n+1) v.2.2.2.1 v.2.1 v.2.2.1)) ?_ ?_ ⟨rfl,M'⟩) ?_)
   .rintro m ⟨r,i,j,o,g,c,d⟩ st' _ hm ⟨rfl,M'⟩;refine OO (Kb C H hk first M') λq st2 hq=>?_;cases q with
    |done v=>
     rcases hq with hq|⟨h1,h2⟩
     .exact .inl hq
     .exact .inr ⟨h1,h2.1,h2.2.1,h2.2.2.1,by have:=h2.2.2.2.1;lia,h2.2.2.2.2⟩
    |yield v=>exact hq
   .rintro⟨r,i,j,o,g,c,d⟩ st' ⟨rfl,M'⟩;exact .inr ⟨rfl,M'.1,M'.2.1,M'.2.2.1,by have:=M'.2.2.2.1;lia,M'.2.2.2.2⟩
   .rintro⟨r,i,j,o,g,c,d⟩ st' hq;rcases hq with⟨x,e,hF,g',rfl⟩|⟨e,h1,h2,h3,h4,g',rfl⟩
    .dsimp only at e ⊢;subst e;exact j7 ⟨x,rfl,hF,g',rfl⟩
    .dsimp only at e h1 h2 h3 h4 ⊢;subst e;exact i6 (qB (j7 ⟨rfl,h1,h2,h3,h4,_,rfl⟩))
def yC(C:Cmp prog w A s κ S rk)(H:Ab rk S a b)(hk:kindOf st₀=κ)(na:1<=a.size)(nb:1<=b.size)(first:∀x,b.toList[0]?=some x->∀y∈a.toList,rk x<=rk y)(last:∀x∈b.toList,∀y,a.toList[a.size-1]?=some y->rk x<=rk y){Q:Array Keyed->SortSt->Prop}
 (hq:∀o g,Fin rk a.toList b.toList o.toList->Q o (rQ st₀ g)):wpS (model prog w) A E s (js a b) Q st₀:=by
 obtain⟨y,y1,y2,y3⟩:=bw (show a.size-1<a.size by lia);have J0:JH rk a.toList b.toList [] (a.size-1+1) b.size:=⟨by rw[OG (by simp;lia),OG (by simp)];exact .refl _,List.Pairwise.nil,(λx hx=>by cases hx),λx hx=>by cases hx⟩;have hJ:JH rk a.toList b.toList (#[y]:Array Keyed).toList (a.size-1) b.size:=JH.p8 (o:=#[]) J0 H y2 λx hx=>last x (Ov hx) y y2;rw[sN];refine i6 (kq (i6 (bc y1 ?_)));by_cases e:a.size-1=0
 .rw[ck (by simpa using e)];exact j7 (hq _ (gallopOf st₀) (J_ H hJ (.inl e)))
 .rw[cO (by simpa using e)];by_cases e2:b.size=1
  .rw[ck (by simpa using e2)];rw[e2]at hJ ⊢;exact j7 (hq _ (gallopOf st₀) (Mf H first hJ))
  .rw[cO (by simpa using e2)];refine i6 (wpS_get (i6 (OO (OK (I:=λm (v:H5) st'=>v.1=none/\jt rk a b st₀ st' m v.2.2.2.1 v.2.1 v.2.2.1) (Q:=λv st'=>zH rk a b st₀ st' v.1) ?_ ?_ ⟨rfl,hJ,⟨by dsimp only;lia,by dsimp only;lia⟩,⟨by dsimp only;lia,by dsimp only;lia⟩,by dsimp only;lia,gallopOf st₀,rfl⟩) ?_)))
   .rintro m ⟨r,i,j,o,g⟩ st' _ hm ⟨rfl,M'⟩;refine OO (Kc C H hk first M') λq st2 hq=>?_;cases q with
    |done v=>exact hq
    |yield v=>exact hq
   .rintro⟨r,i,j,o,g⟩ st' ⟨rfl,h1,h2,h3,h4,_⟩;dsimp only at h2 h3 h4;lia
   .rintro⟨r,i,j,o,g⟩ st' ⟨x,e,hF,g',rfl⟩;dsimp only at e ⊢;subst e;exact j7 (hq _ _ hF)
end
noncomputable def wr(c:Nat)(m:Array Keyed)(xs:Array Keyed):Array Keyed:=m.toList.zipIdx.foldl (λz (p,j)=>z.setIfInBounds (c+j) p) xs
def sO(i:Nat):mergeAt' i=(do
 let st <- get
 let (some (u,n,q),some (v,m,_)):=((pendingOf st)[i]?,(pendingOf st)[i+1]?)|unsupported "internal:list.sort.pending"
 set (setPending st (((pendingOf st).setIfInBounds i (u,n+m,q)).eraseIdxIfInBounds (i+1)))
 let some k <- du false (<- elem' (arrOf st) v) (arrOf st) u n 0|return false
 if n-k==0 then return true
 let some m <- du true (<- elem' (arrOf st) (u+k+(n-k)-1)) (arrOf st) v m (m-1)|return false
 if m==0 then return true
 let z <- if n-k<=m then jo ((arrOf st).extract (u+k) v) ((arrOf st).extract v (v+m))else js ((arrOf st).extract (u+k) v) ((arrOf st).extract v (v+m))
 modify λt=>setArr t (wr (u+k) z (arrOf t))
 return (failedOf (<- get)).isNone):=rfl
theorem AB(c:Nat):∀(l:List Keyed)(n:Nat)(xs:Array Keyed),c+n+l.length<=xs.size->∀k,((l.zipIdx n).foldl (λz (p:Keyed×Nat)=>z.setIfInBounds (c+p.2) p.1) xs)[k]?=if c+n<=k/\k<c+n+l.length then l[k-(c+n)]? else xs[k]?
 |[],n,xs,h,k=>by simp;intro h1 h2;lia
 |p::r,n,xs,h,k=>by
  rw[List.zipIdx_cons,O2];rw[lO]at h ⊢;rw[AB c r (n+1) _ (by rw[Array.size_setIfInBounds];lia)];by_cases h1:c+(n+1)<=k/\k<c+(n+1)+r.length
  .rw[ck h1,ck (by lia),show k-(c+n)=(k-(c+(n+1)))+1 by lia,Qr]
  .rw[cO h1];by_cases h2:k=c+n
   .subst h2;rw[ck (by lia),Nat.sub_self,List.getElem?_cons_zero];have hlt:c+n<xs.size:=by lia
    simp[QY,hlt]
   .rw[cO (by lia)];rw[Array.getElem?_setIfInBounds_ne (by lia)]
def Dm(e:xs.toList=P++M++R)(hc:P.length=c)(hm:M.length=m.size):(wr c m xs).toList=P++m.toList++R:=by
 have hs:xs.size=P.length+M.length+R.length:=by rw[<- p7,e];simp;lia
 apply ON
 intro k;rw[gA];have hw:=AB c m.toList 0 xs (by simp;lia) k;rw[show(wr c m xs)[k]?=_ from hw,<- gA (xs:=xs),e];have l2:m.toList.length=m.size:=by simp
 by_cases h1:k<P.length
 .rw[cO (by lia),fC,fC,gY h1,gY h1]
 .by_cases h2:k<P.length+M.length
  .rw[ck (by lia),fC,cP (by lia),gY (by lia)];congr 1;lia
  .rw[cO (by lia),cP (by simp;lia),cP (by simp;lia)];congr 1;simp;lia
def Ke{A:RA}{E:Rz->Rv->Prop}{s:Rv}{st x:SortSt}{Q:PUnit->SortSt->Prop}(h:Q ⟨⟩ x):wpS (model prog w) A E s (set x:SM PUnit) Q st:=by unfold wpS;rw[StateT.run_set];exact bF ⟨rfl,h⟩
structure SB(κ:SortKind) (a₀:Array Keyed) (st:SortSt):Prop where
 perm:(arrOf st).toList.Perm a₀.toList
 kind:kindOf st=κ
 fail:failedOf st=none
section
variable{prog:Ry}{w:World}{A:RA}{E:Rz->Rv->Prop}{s:Rv}{κ:SortKind}{rk:Keyed->Nat}{a₀:Array Keyed}
def ju(hx:Srt rk X)(hy:Srt rk Y)(h:∀x∈X,∀y∈Y,rk x<=rk y):Srt rk (X++Y):=OE.mpr ⟨hx,hy,h⟩
def yD(C:Cmp prog w A s κ a₀.toList rk){st:SortSt}(B:SB κ a₀ st){P X Y R:List Keyed}(e:(arrOf st).toList=P++X++Y++R)(hX:Srt rk X)(hY:Srt rk Y)(nX:0<X.length)(nY:0<Y.length)
 (hp:(pendingOf st).toList=l₁++(P.length,X.length,q)::(P.length+X.length,Y.length,q')::l₂) {Q:Bool->SortSt->Prop}
 (hq:∀Z st',SB κ a₀ st'->(arrOf st').toList=P++Z++R->Srt rk Z->Z.length=X.length+Y.length->(pendingOf st').toList=l₁++(P.length,X.length+Y.length,q)::l₂->Q true st'):wpS (model prog w) A E s (mergeAt' l₁.length) Q st:=by
 have hsz:(arrOf st).size=P.length+X.length+Y.length+R.length:=by rw[<- p7,e];simp;lia
 have hS:∀x∈(arrOf st).toList,x∈a₀.toList:=λx hx=>B.perm.subset hx;have p1:(pendingOf st)[l₁.length]?=some (P.length,X.length,q):=by rw[<- gA,hp];simp
 have p2:(pendingOf st)[l₁.length+1]?=some (P.length+X.length,Y.length,q'):=by rw[<- gA,hp];simp
 have hp':(((pendingOf st).setIfInBounds l₁.length (P.length,X.length+Y.length,q)).eraseIdxIfInBounds (l₁.length+1)).toList=l₁++(P.length,X.length+Y.length,q)::l₂:=by simp[hp,List.set_append_right,List.eraseIdx_append_of_length_le]
 have eX:∀i,i<X.length->(arrOf st).toList[P.length+i]?=X[i]?:=λi hi=>by rw[e,fC,fC,cP (by lia),gY (by lia)];congr 1;lia
 have eY:∀i,i<Y.length->(arrOf st).toList[P.length+X.length+i]?=Y[i]?:=λi hi=>by rw[e,fC,cP (by simp),gY (by simp;lia)];congr 1;simp
 have dX:((arrOf st).toList.drop P.length).take X.length=X:=by rw[e,fC,fC];simp
 have dY:((arrOf st).toList.drop (P.length+X.length)).take Y.length=Y:=by rw[e,show P++X++Y++R=(P++X)++(Y++R) by simp,show P.length+X.length=(P++X).length by simp,List.drop_left,Ri]
 obtain⟨y0,y1,y2,y3⟩:=bw (a:=arrOf st) (i:=P.length+X.length) (by lia);have y4:Y[0]?=some y0:=by rw[<- eY 0 nY];exact y2
 rw[sO];refine i6 (wpS_get ?_);rw[p1,p2];dsimp only;generalize hpp:((pendingOf st).setIfInBounds l₁.length (P.length,X.length+Y.length,q)).eraseIdxIfInBounds (l₁.length+1)=pp at hp' ⊢;refine i6 (Ke ?_);refine i6 (bc y1 (i6 (vj C (st:=setPending st pp) B.kind (hS y0 y3) hS (by rw[dX];exact hX) (by lia) nX λk k1 k2 k3=>?_)));dsimp only;have hY0:∀y∈Y,rk y0<=rk y:=λy hy=>jp hY y4 y (by rw[O8];exact hy);have hX1:∀x∈X.take k,rk x<=rk y0:=λx hx=>by obtain⟨p,h1,h2⟩:=br hx;exact k2 p x h1 (by rw[eX p (by lia)];exact h2)
 have hX2:∀x∈X.drop k,rk y0<rk x:=λx hx=>by obtain⟨p,h1,h2⟩:=bq hx;have hp:=(bE.mp h2).1;exact k3 p x h1 hp (by rw[eX p hp];exact h2)
 have flat:(∀x∈X.drop k,∀y∈Y,rk x<=rk y)->wpS (model prog w) A E s (pure true) Q (setPending st pp):=λh=>
  j7 (hq (X++Y) _ ⟨B.perm,B.kind,B.fail⟩ (by show(arrOf st).toList=_;rw[e];simp) (ju hX hY λx hx y hy=>by
   rw[<- lR k X]at hx;rcases gZ.mp hx with hx|hx
   .exact lN (hX1 x hx) (hY0 y hy)
   .exact h x hx y hy) (by simp) hp')
 by_cases h0:X.length-k=0
 .rw[ck (by simpa using h0)];refine flat λx hx=>?_;rw[OG (by lia)]at hx;cases hx
 .rw[cO (by simpa using h0)];obtain⟨x0,x1,x2,x3⟩:=bw (a:=arrOf st) (i:=P.length+k+(X.length-k)-1) (by lia);have x4:X[X.length-1]?=some x0:=by rw[<- eX (X.length-1) (by lia),<- x2];congr 1;lia
  refine i6 (bc x1 (i6 (vm C (st:=setPending st pp) B.kind (hS x0 x3) hS (by rw[dY];exact hY) (by lia) (by lia) λm m1 m2 m3=>?_)));dsimp only;have hXl:∀x∈X,rk x<=rk x0:=λx hx=>jr hX x4 x (by rw[Oe (by lia)];exact hx);have hY1:∀y∈Y.take m,rk y<rk x0:=λy hy=>by obtain⟨p,h1,h2⟩:=br hy;exact m2 p y h1 (by rw[eY p (by lia)];exact h2)
  have hY2:∀y∈Y.drop m,rk x0<=rk y:=λy hy=>by obtain⟨p,h1,h2⟩:=bq hy;have hp:=(bE.mp h2).1;exact m3 p y h1 hp (by rw[eY p hp];exact h2)
  by_cases h1:m=0
  .rw[ck (by simpa using h1)];refine flat λx hx y hy=>lN (hXl x (OP hx)) (hY2 y (by rw[h1,O8];exact hy))
  .rw[cO (by simpa using h1)];have exa:((arrOf st).extract (P.length+k) (P.length+X.length)).toList=X.drop k:=by rw[mx,e,show P++X++Y++R=(P++X)++(Y++R) by simp,show P.length+X.length=(P++X).length by simp,Ri];simp[List.drop_append]
   have eya:((arrOf st).extract (P.length+X.length) (P.length+X.length+m)).toList=Y.take m:=by rw[m8,e,show P++X++Y++R=(P++X)++(Y++R) by simp,show P.length+X.length=(P++X).length by simp,List.drop_left,QU m1]
   have H:Ab rk a₀.toList ((arrOf st).extract (P.length+k) (P.length+X.length)) ((arrOf st).extract (P.length+X.length) (P.length+X.length+m)):=by
    refine⟨λx hx=>?_,λx hx=>?_,?_,?_⟩
    .rw[exa]at hx;exact hS x (by rw[e];have:=OP hx;simp[this])
    .rw[eya]at hx;exact hS x (by rw[e];have:=Ov hx;simp[this])
    .rw[exa];exact hX.sublist (Pq _ _)
    .rw[eya];exact hY.sublist (OZ _ _)
   have sx:((arrOf st).extract (P.length+k) (P.length+X.length)).size=X.length-k:=by rw[<- p7,exa,Pc]
   have sy:((arrOf st).extract (P.length+X.length) (P.length+X.length+m)).size=m:=by rw[<- p7,eya,N5];lia
   have first:∀x,((arrOf st).extract (P.length+X.length) (P.length+X.length+m)).toList[0]?=some x->∀y∈((arrOf st).extract (P.length+k) (P.length+X.length)).toList,rk x<=rk y:=λx hx y hy=>by rw[eya,OI,ck (by lia),y4]at hx;cases hx;rw[exa]at hy;exact Ou (hX2 y hy)
   have last:∀x∈((arrOf st).extract (P.length+X.length) (P.length+X.length+m)).toList,∀y,((arrOf st).extract (P.length+k) (P.length+X.length)).toList[((arrOf st).extract (P.length+k) (P.length+X.length)).size-1]?=some y->rk x<=rk y:=λx hx y hy=>by rw[eya]at hx;rw[sx,exa,Qq,show k+(X.length-k-1)=X.length-1 by lia,x4]at hy;cases hy;exact Ou (hY1 x hx)
   have fin:∀(o:Array Keyed) g,Fin rk ((arrOf st).extract (P.length+k) (P.length+X.length)).toList ((arrOf st).extract (P.length+X.length) (P.length+X.length+m)).toList o.toList->wpS (model prog w) A E s (do
    modify λt=>setArr t (wr (P.length+k) o (arrOf t))
    return (failedOf (<- get)).isNone) Q (rQ (setPending st pp) g):=by
    intro o g hF;rw[exa,eya]at hF;have lo:o.size=X.length-k+m:=by have:=hF.1.length_eq;simp at this;lia
    have e3:P++X++Y++R=(P++X.take k)++(X.drop k++Y.take m)++(Y.drop m++R):=by
     conv=>lhs;rw[<- lR k X,<- lR m Y]
     simp only[fC]
    have ew:(wr (P.length+k) o (arrOf st)).toList=(P++X.take k)++o.toList++(Y.drop m++R):=Dm (M:=X.drop k++Y.take m) (e.trans e3) (by simp;lia) (by simp;lia);refine i6 (wpS_modify (i6 (wpS_get (j7 ?_))));show Q (failedOf st).isNone _;rw[B.fail];refine hq (X.take k++o.toList++Y.drop m) _ ⟨?_,B.kind,B.fail⟩ (by show(wr (P.length+k) o (arrOf st)).toList=_;rw[ew];simp) ?_ (by simp;lia) hp'
    .show(wr (P.length+k) o (arrOf st)).toList.Perm _;refine List.Perm.trans ?_ B.perm;rw[ew,e];rw[e3];exact(hF.1.append_left _).append_right _
    .refine ju (ju (hX.sublist (OZ _ _)) hF.2 λx hx y hy=>?_) (hY.sublist (Pq _ _)) λx hx y hy=>?_
     .rcases gZ.mp (hF.1.subset hy)with hy|hy
      .exact lN (hX1 x hx) (Ou (hX2 y hy))
      .exact lN (hX1 x hx) (hY0 y (Ov hy))
     .rcases gZ.mp hx with hx|hx
      .exact lN (hX1 x hx) (hY0 y (OP hy))
      .rcases gZ.mp (hF.1.subset hx)with hx|hx
       .exact lN (hXl x (OP hx)) (hY2 y hy)
       .exact lN (Ou (hY1 x hx)) (hY2 y hy)
   by_cases h2:X.length-k<=m
   .rw[ck h2];exact i6 (yB C H (st₀:=setPending st pp) B.kind (by lia) (by lia) first last fin)
   .rw[cO h2];exact i6 (yC C H (st₀:=setPending st pp) B.kind (by lia) (by lia) first last fin)
end
def sP(e:xs.toList=P++M++x::R):(bubble xs (P.length+M.length) M.length).toList=P++x::M++R:=by
 have hs:xs.size=P.length+M.length+R.length+1:=by rw[<- p7,e];simp;lia
 apply ON
 intro k;rw[gA,getElem?_bubble (by lia) _ (by lia)];rw[show P.length+M.length-M.length=P.length by lia];simp only[<- gA,e];by_cases h1:k=P.length
 .rw[ck h1,h1];simp
 .rw[cO h1];by_cases h2:k<P.length
  .rw[cO (by lia),fC,fC,gY h2,gY h2]
  .by_cases h3:k<=P.length+M.length
   .rw[ck (by lia),fC,cP (by lia),gY (by lia),fC,cP (by lia),Rr,show k-P.length=(k-1-P.length)+1 by lia,Qr,gY (by lia)]
   .rw[cO (by lia),cP (by simp;lia),cP (by simp;lia),show k-(P++M).length=(k-(P++x::M).length)+1 by simp;lia,Qr]
def sQ(e:xs.toList=P++M++R):(mirror xs P.length (P.length+M.length) ((P.length+M.length-P.length)/2)).toList=P++M.reverse++R:=by
 have hs:xs.size=P.length+M.length+R.length:=by rw[<- p7,e];simp;lia
 apply ON
 intro k;rw[gA,getElem?_mirror_all (by lia)];simp only[<- gA,e];by_cases h2:k<P.length
 .rw[cO (by lia),fC,fC,gY h2,gY h2]
 .by_cases h3:k<P.length+M.length
  .rw[ck (by lia),fC,cP (by lia),gY (by lia),fC,cP (by lia),gY (by simp;lia),QN (by lia)];congr 1;lia
  .rw[cO (by lia),cP (by simp;lia),cP (by simp;lia)];congr 1;simp
section
variable{prog:Ry}{w:World}{A:RA}{E:Rz->Rv->Prop}{s:Rv}{κ:SortKind}{rk:Keyed->Nat}{a₀:Array Keyed}
def m_(C:Cmp prog w A s κ a₀.toList rk){st:SortSt}(B:SB κ a₀ st)(hx:(arrOf st).toList[i]?=some x)(hy:(arrOf st).toList[j]?=some y){Q:Option Bool->SortSt->Prop}(h:Q (some (decide (rk x<rk y))) st):wpS (model prog w) A E s (ltAt' i j) Q st:=by rw[ltAt'_eq];refine i6 (wpS_get ?_);show wpS _ _ _ _ (do let x <- elem' (arrOf st) i;let y <- elem' (arrOf st) j;lt' x y) Q st;refine i6 (bc (by rw[<- gA];exact hx) (i6 (bc (by rw[<- gA];exact hy) ?_)));exact Az C (B.perm.subset (OD hx)) (B.perm.subset (OD hy)) B.kind h
def SB.set{st:SortSt}(B:SB κ a₀ st)(h:xs.toList.Perm (arrOf st).toList):SB κ a₀ (setArr st xs):=⟨h.trans B.perm,B.kind,B.fail⟩
def AC(C:Cmp prog w A s κ a₀.toList rk){st:SortSt}(B:SB κ a₀ st)(e:(arrOf st).toList=P++X++R)(h1:1<=ok)(aG:ok<=X.length)(hs:Srt rk (X.take ok)){Q:Bool->SortSt->Prop}
 (hq:∀Z st',SB κ a₀ st'->(arrOf st').toList=P++Z++R->Srt rk Z->Z.length=X.length->pendingOf st'=pendingOf st->Q true st'):wpS (model prog w) A E s (binarySort' P.length X.length ok) Q st:=by
 rw[binarySort'_eq,Nat.max_eq_left h1];have e0:(arrOf st).toList=P++X.take ok++(X.drop ok++R):=by
  rw[e];conv=>lhs;rw[<- lR ok X]
  simp only[fC]
 refine i6 (OO (OK (I:=λk (c:Option Bool×Unit) st'=>c.1=none/\SB κ a₀ st'/\pendingOf st'=pendingOf st/\∃Z:List Keyed,Z.length=k/\Srt rk Z/\(arrOf st').toList=P++Z++(X.drop k++R))
  (Q:=λc st'=>c.1=none/\SB κ a₀ st'/\pendingOf st'=pendingOf st/\∃Z:List Keyed,Z.length=X.length/\Srt rk Z/\(arrOf st').toList=P++Z++R) ?_ ?_ ⟨rfl,B,rfl,X.take ok,by rw[N5];lia,hs,e0⟩) ?_)
 .rintro k ⟨r,u⟩ st' hk1 hk2 ⟨rfl,B',hp,Z,hZ,sZ,eZ⟩;obtain⟨x,hx⟩ : ∃x,X[k]?=some x:=⟨X[k],by simp[hk2]⟩;have dX:X.drop k=x::X.drop (k+1):=by obtain⟨h1,h2⟩:=bE.mp hx;rw[OC h1,h2]
  rw[dX]at eZ;have ax:(arrOf st').toList[P.length+k]?=some x:=by rw[eZ,cP (by simp;lia),<- hZ];simp
  have aZ:∀m z,Z[m]?=some z->(arrOf st').toList[P.length+m]?=some z:=λm z hz=>by have hm:=(bE.mp hz).1;rw[eZ,fC,cP (by lia),gY (by lia),<- hz];congr 1;lia
  dsimp only;refine i6 (OO (OK (I:=λi (c:Option Bool×Nat×Nat) st2=>c.1=none/\st2=st'/\c.2.1<=c.2.2/\c.2.2<=k/\(c.2.2-c.2.1)+i<=k/\(∀m z,m<c.2.1->Z[m]?=some z->rk z<=rk x)/\(∀m z,c.2.2<=m->Z[m]?=some z->rk x<rk z))
   (Q:=λc st2=>c.1=none/\st2=st'/\c.2.1<=k/\(∀m z,m<c.2.1->Z[m]?=some z->rk z<=rk x)/\(∀m z,c.2.1<=m->Z[m]?=some z->rk x<rk z)) ?_ ?_ ⟨rfl,rfl,N3 _,cN _,by dsimp only;lia,(λm z hm=>by dsimp only at hm;lia),λm z hm hz=>by have:=(bE.mp hz).1;dsimp only at hm;lia⟩) ?_)
  .rintro i ⟨r,l,q⟩ st2 _ hi ⟨rfl,rfl,c1,c2,c3,c4,c5⟩;dsimp only at *;by_cases hlq:l>=q
   .rw[ck hlq];have:l=q:=by lia
    subst this;exact j7 ⟨rfl,rfl,c2,c4,c5⟩
   .rw[cO hlq];obtain⟨z,hz⟩ : ∃z,Z[(l+q)/2]?=some z:=⟨Z[(l+q)/2]'(by lia),by simp⟩;refine i6 (m_ C B' ax (aZ _ z hz) ?_);dsimp only;by_cases hless:rk x<rk z
    .rw[db hless,ck rfl];exact j7 ⟨rfl,rfl,by dsimp only;lia,by dsimp only;lia,by dsimp only;lia,c4,λm v hm hv=>N6 hless (g_ sZ hz hv hm)⟩
    .rw[iA hless,cO (by simp)];exact j7 ⟨rfl,rfl,by dsimp only;lia,by dsimp only;lia,by dsimp only;lia,λm v hm hv=>lN (g_ sZ hv hz (by dsimp only at hm;lia)) (PL hless),c5⟩
  .rintro⟨r,l,q⟩ st2 ⟨rfl,rfl,c1,c2,c3,c4,c5⟩;dsimp only at *;have:l=q:=by lia
   subst this;exact⟨rfl,rfl,c2,c4,c5⟩
  .rintro⟨r,l,q⟩ st2 ⟨rfl,rfl,c2,c4,c5⟩;dsimp only at c2 c4 c5 ⊢;rw[moveDown'_eq];refine i6 (wpS_modify (j7 ?_));have e1:(arrOf st2).toList=(P++Z.take l)++Z.drop l++x::(X.drop (k+1)++R):=by
    rw[eZ];conv=>lhs;rw[<- lR l Z]
    simp only[fC,Rr]
   have eb:=sP e1;rw[show(P++Z.take l).length+(Z.drop l).length=P.length+k by simp;lia,show(Z.drop l).length=P.length+k-(P.length+l) by simp;lia]at eb;refine⟨rfl,B'.set ?_,hp,Z.take l++x::Z.drop l,by simp;lia,?_,?_⟩
   .exact(bubble_perm _ _ _).toList
   .refine ju (sZ.sublist (OZ _ _)) (Ob.mpr ⟨λz hz=>?_,sZ.sublist (Pq _ _)⟩) λy hy z hz=>?_
    .obtain⟨p,h1,h2⟩:=bq hz;exact Ou (c5 p z h1 h2)
    .obtain⟨p,h1,h2⟩:=br hy;have hyx:=c4 p y h1 h2;rcases j5.mp hz with rfl|hz
     .exact hyx
     .obtain⟨p2,h3,h4⟩:=bq hz;exact lN hyx (Ou (c5 p2 z h3 h4))
   .show(bubble (arrOf st2) (P.length+k) (P.length+k-(P.length+l))).toList=_;rw[eb];simp only[fC,Rr]
 .rintro⟨r,u⟩ st' ⟨rfl,B',hp,Z,hZ,sZ,eZ⟩;rw[Rt aG]at hZ eZ;exact⟨rfl,B',hp,Z,hZ,sZ,by rw[eZ,QV];rfl⟩
 .rintro⟨r,u⟩ st' ⟨rfl,B',hp,Z,hZ,sZ,eZ⟩;exact j7 (hq Z st' B' eZ sZ hZ hp)
noncomputable def Kf(lo:Nat)(c:Option (Option Nat)×Nat):SM (ForInStep (Option (Option Nat)×Nat)):=do
 let x <- ltAt' (lo+c.2) (lo+c.2-1)
 match x with
 |some y=>if y=true then pure (ForInStep.done (none,c.2))else pure (ForInStep.yield (none,c.2+1))
 |_=>pure (ForInStep.done (some none,c.2))
def oD{T:List Keyed}(hs:Srt rk (T.take n))(hn:1<=n)(hx:T[n]?=some x)(hy:T[n-1]?=some y)(h:rk y<=rk x):Srt rk (T.take (n+1)):=by
 obtain⟨h1,h2⟩:=bE.mp hx;rw[Pl h1,h2];refine ju hs (OV _ _) λz hz v hv=>?_;rw[lQ]at hv;subst hv;obtain⟨p,p1,p2⟩:=br hz;refine lN (g_ hs (p:=p) (q:=n-1) (x:=z) (y:=y) ?_ ?_ (by lia)) h
 .rw[OI,ck p1];exact p2
 .rw[OI,ck (by lia)];exact hy
def Fv(C:Cmp prog w A s κ a₀.toList rk){st:SortSt}(B:SB κ a₀ st)(e:(arrOf st).toList=P++T)(h1:1<=a)(ha:a<=T.length)(hs:Srt rk (T.take a)){Q:Option (Option Nat)×Nat->SortSt->Prop}
 (hq:∀n,a<=n->n<=T.length->Srt rk (T.take n)->(∀x y,T[n]?=some x->T[n-1]?=some y->rk x<rk y)->Q (none,n) st):wpS (model prog w) A E s (forIn [a:T.length] ((none,a):Option (Option Nat)×Nat) λ_ c=>Kf P.length c) Q st:=by
 have at_:∀n x,T[n]?=some x->(arrOf st).toList[P.length+n]?=some x:=λn x hx=>by rw[e,cP (by lia),<- hx];congr 1;lia
 refine OO (OK (I:=λi (c:Option (Option Nat)×Nat) st'=>st'=st/\c=(none,i)/\Srt rk (T.take i)) (Q:=λc st'=>st'=st/\∃n,c=(none,n)/\a<=n/\n<=T.length/\Srt rk (T.take n)/\(∀x y,T[n]?=some x->T[n-1]?=some y->rk x<rk y)) ?_ ?_ ⟨rfl,rfl,hs⟩) ?_
 .rintro i c st' Fq hi2 ⟨rfl,rfl,hs'⟩;obtain⟨x,hx⟩ : ∃x,T[i]?=some x:=⟨T[i],by simp[hi2]⟩;obtain⟨y,hy⟩ : ∃y,T[i-1]?=some y:=⟨T[i-1]'(by lia),by simp⟩;unfold Kf;refine i6 (m_ C B (at_ i x hx) (by rw[show P.length+i-1=P.length+(i-1) by lia];exact at_ _ y hy) ?_);dsimp only;by_cases h:rk x<rk y
  .rw[db h,ck rfl];exact j7 ⟨rfl,i,rfl,Fq,by lia,hs',λx' y' hx' hy'=>by rw[hx]at hx';rw[hy]at hy';cases hx';cases hy';exact h⟩
  .rw[iA h,cO (by simp)];exact j7 ⟨rfl,rfl,oD hs' (by lia) hx hy (PL h)⟩
 .rintro c st' ⟨rfl,rfl,hs'⟩;rw[Rt ha]at hs' ⊢;exact⟨rfl,T.length,rfl,ha,cN _,hs',λx y hx=>by rw[Og (cN _)]at hx;cases hx⟩
 .rintro c st' ⟨rfl,n,rfl,h2,h3,h4,h5⟩;exact hq n h2 h3 h4 h5
def Fw{l:List Keyed}(h:(l.map rk).Nodup){i j:Nat}{x y:Keyed}(hij:i<j)(hx:l[i]?=some x)(hy:l[j]?=some y):rk x≠rk y:=by obtain⟨h1,e1⟩:=bE.mp hx;obtain⟨h2,e2⟩:=bE.mp hy;have:=j8.mp h i j (by simpa using h1) (by simpa using h2) hij;simp only[List.getElem_map,e1,e2]at this;exact this
def Do(C:Cmp prog w A s κ a₀.toList rk)(D:(a₀.toList.map rk).Nodup){st:SortSt}(B:SB κ a₀ st){P T:List Keyed}(e:(arrOf st).toList=P++T)(h1:1<=T.length){Q:Option Nat->SortSt->Prop}
 (hq:∀X R st',SB κ a₀ st'->(arrOf st').toList=P++X++R->Srt rk X->1<=X.length->pendingOf st'=pendingOf st->Q (some X.length) st'):wpS (model prog w) A E s (countRun' P.length T.length) Q st:=by
 rw[countRun'_eq];dsimp only;refine i6 (OO (Fv C B e (a:=1) (cN _) h1 (by
  cases T with
  |nil=>simp at h1
  |cons t r=>exact OV _ _) (Q:=λc st'=>st'=st/\∃n,c=(none,n)/\1<=n/\n<=T.length/\Srt rk (T.take n)/\(∀x y,T[n]?=some x->T[n-1]?=some y->rk x<rk y)) λn a1 a2 a3 a4=>⟨rfl,n,rfl,a1,a2,a3,a4⟩) ?_)
 rintro c st' ⟨rfl,n,rfl,a1,a2,a3,a4⟩;dsimp only;by_cases hn:n=T.length
 .rw[ck (by simpa using hn)];subst hn;rw[Ru]at a3;exact j7 (hq T [] st' B (by rw[e];simp) a3 h1 rfl)
 .rw[cO (by simpa using hn)];have D':((arrOf st').toList.map rk).Nodup:=(B.perm.map rk).nodup_iff.mpr D;have DT:(T.map rk).Nodup:=by rw[e,N4,Pu]at D';exact D'.2.1
  have at_:∀n x,T[n]?=some x->(arrOf st').toList[P.length+n]?=some x:=λn x hx=>by rw[e,cP (by lia),<- hx];congr 1;lia
  by_cases hn1:n>1
  .rw[ck hn1];obtain⟨x,hx⟩ : ∃x,T[0]?=some x:=⟨T[0]'(by lia),by simp⟩;obtain⟨y,hy⟩ : ∃y,T[n-1]?=some y:=⟨T[n-1]'(by lia),by simp⟩;have hlt:rk x<rk y:=by have h2:=g_ a3 (p:=0) (q:=n-1) (x:=x) (y:=y) (by rw[OI,ck (by lia)];exact hx) (by rw[OI,ck (by lia)];exact hy) (by lia);have h3:=Fw DT (i:=0) (j:=n-1) (by lia) hx hy;lia
   refine i6 (m_ C B (by have:=at_ 0 x hx;simpa using this) (by rw[show P.length+n-1=P.length+(n-1) by lia];exact at_ _ y hy) ?_);dsimp only;rw[db hlt,ck rfl];have:=hq (T.take n) (T.drop n) st' B (by rw[e,fC,lR]) a3 (by rw[N5];lia) rfl;rw[N5,Q4 a2]at this;exact j7 this
  .rw[cO hn1];have:n=1:=by lia
   subst this;refine i6 (kq ?_);refine i6 (OO (OK (I:=λi (c:Option (Option Nat)×Nat×Nat) st2=>st2=st'/\c=(none,i,0)/\(T.take i).Pairwise λx y=>rk y<=rk x) (Q:=λc st2=>st2=st'/\∃m,c=(none,m,0)/\2<=m/\m<=T.length/\(T.take m).Pairwise λx y=>rk y<=rk x) ?_ ?_ ⟨rfl,rfl,?_⟩) ?_)
   .rintro i c st2 Fq hi2 ⟨rfl,rfl,hd⟩;obtain⟨x,hx⟩ : ∃x,T[i]?=some x:=⟨T[i],by simp[hi2]⟩;obtain⟨y,hy⟩ : ∃y,T[i-1]?=some y:=⟨T[i-1]'(by lia),by simp⟩;refine i6 (m_ C B (at_ i x hx) (by rw[show P.length+i-1=P.length+(i-1) by lia];exact at_ _ y hy) ?_);dsimp only;by_cases h:rk x<rk y
    .rw[db h,ck rfl,cO (by lia)];refine j7 ⟨rfl,rfl,?_⟩;obtain⟨g1,g2⟩:=bE.mp hx;rw[Pl g1,g2];refine OE.mpr ⟨hd,OV _ _,λz hz v hv=>?_⟩;rw[lQ]at hv;subst hv;obtain⟨p,p1,p2⟩:=br hz;by_cases hpi:p=i-1
     .rw[hpi,hy]at p2;cases p2;exact Ou h
     .have q1:(T.take i)[p]?=some z:=by rw[OI,ck p1];exact p2
      have q2:(T.take i)[i-1]?=some y:=by rw[OI,ck (by lia)];exact hy
      obtain⟨b1,c1⟩:=bE.mp q1;obtain⟨b2,c2⟩:=bE.mp q2;have:=j8.mp hd p (i-1) b1 b2 (by lia);rw[c1,c2]at this;lia
    .rw[iA h,cO (by simp)];have hne:=Fw DT (i:=i-1) (j:=i) (by lia) hy hx;refine i6 (m_ C B (by rw[show P.length+i-1=P.length+(i-1) by lia];exact at_ _ y hy) (at_ i x hx) ?_);dsimp only;rw[db (show rk y<rk x by lia),ck rfl];exact j7 ⟨rfl,i,rfl,Fq,by lia,hd⟩
   .rintro c st2 ⟨rfl,rfl,hd⟩;rw[Rt (by lia)]at hd ⊢;exact⟨rfl,T.length,rfl,by lia,cN _,hd⟩
   .obtain⟨x,hx⟩ : ∃x,T[0]?=some x:=⟨T[0]'(by lia),by simp⟩;obtain⟨y,hy⟩ : ∃y,T[1]?=some y:=⟨T[1]'(by lia),by simp⟩;have:=a4 y x hy hx;cases T with
    |nil=>simp at h1
    |cons t r=>
     cases r with
     |nil=>simp at hn
     |cons u r=>simp at hx hy;subst hx;subst hy;show List.Pairwise _ [t,u];refine Ob.mpr ⟨λz hz=>?_,OV _ _⟩;rw[lQ]at hz;subst hz;lia
   .rintro c st2 ⟨rfl,m,rfl,m1,m2,hd⟩;dsimp only;rw[cO (by lia),reverseSlice'_eq];refine i6 (wpS_modify ?_);have e3:(arrOf st2).toList=P++T.take m++T.drop m:=by rw[e,fC,lR]
    have em:=sQ e3;rw[show P.length+(T.take m).length=P.length+m by simp;lia]at em;have B2:SB κ a₀ (setArr st2 (mirror (arrOf st2) P.length (P.length+m) ((P.length+m-P.length)/2))):=B.set (mirror_perm _ _ _ _).toList;have lT:((T.take m).reverse++T.drop m).length=T.length:=by simp;lia
    have tT:((T.take m).reverse++T.drop m).take m=(T.take m).reverse:=by rw[QU (by simp;lia),Oe (by simp;lia)]
    have asc:=Fv (E:=E) C B2 (P:=P) (T:=(T.take m).reverse++T.drop m) (by show(mirror (arrOf st2) P.length (P.length+m) ((P.length+m-P.length)/2)).toList=_;rw[em,fC]) (a:=m) (by lia) (by lia) (by rw[tT];unfold Srt;rw[QM];exact hd)
     (Q:=λc st3=>st3=setArr st2 (mirror (arrOf st2) P.length (P.length+m) ((P.length+m-P.length)/2))/\∃n,c=(none,n)/\m<=n/\n<=T.length/\Srt rk (((T.take m).reverse++T.drop m).take n)) λn b1 b2 b3 _=>⟨rfl,n,rfl,b1,by lia,b3⟩
    rw[lT]at asc;refine i6 (OO asc ?_);rintro c st3 ⟨rfl,n,rfl,b1,b2,b3⟩;dsimp only;have:=hq (((T.take m).reverse++T.drop m).take n) (((T.take m).reverse++T.drop m).drop n) _ B2 (by show(mirror (arrOf st2) P.length (P.length+m) ((P.length+m-P.length)/2)).toList=_;rw[em,fC,fC,lR]) b3 (by rw[N5];lia) rfl;rw[N5,Q4 (by lia)]at this;exact j7 this
end
noncomputable abbrev Pn:=List (Nat×Nat×Nat)
noncomputable def Ch(rk:Keyed->Nat):List (Nat×Nat)->Nat->List Keyed->Prop
 |[],_,xs=>xs=[]
 |(u,n)::l,c,xs=>∃X Y,xs=X++Y/\u=c/\X.length=n/\0<n/\Srt rk X/\Ch rk l (c+n) Y
noncomputable def pm(l:Pn):List (Nat×Nat):=l.map λt=>(t.1,t.2.1)
section
variable{rk:Keyed->Nat}
theorem Ch.split:∀{l₁ l₂:List (Nat×Nat)}{c:Nat}{xs:List Keyed},Ch rk (l₁++l₂) c xs->∃A B,xs=A++B/\Ch rk l₁ c A/\Ch rk l₂ (c+A.length) B
 |[],l₂,c,xs,h=>⟨[],xs,rfl,rfl,h⟩
 |(u,n)::l,l₂,c,xs,h=>by obtain⟨X,Y,rfl,h1,h2,h3,h4,h5⟩:=h;obtain⟨A,B,rfl,g1,g2⟩:=Ch.split h5;refine⟨X++A,B,by simp,⟨X,A,rfl,h1,h2,h3,h4,g1⟩,?_⟩;rw[show c+(X++A).length=c+n+A.length by simp;lia];exact g2
theorem Ch.join:∀{l₁ l₂:List (Nat×Nat)}{c:Nat}{A B:List Keyed},Ch rk l₁ c A->Ch rk l₂ (c+A.length) B->Ch rk (l₁++l₂) c (A++B)
 |[],l₂,c,A,B,h,g=>by have:A=[]:=h;subst this;simpa using g
 |(u,n)::l,l₂,c,A,B,h,g=>by obtain⟨X,Y,rfl,h1,h2,h3,h4,h5⟩:=h;refine⟨X,Y++B,by simp,h1,h2,h3,h4,Ch.join h5 ?_⟩;rw[show c+n+Y.length=c+(X++Y).length by simp;lia];exact g
theorem Ch.len:∀{l:List (Nat×Nat)}{c:Nat}{xs:List Keyed},Ch rk l c xs->l.length<=xs.length
 |[],c,xs,h=>N3 _
 |(u,n)::l,c,xs,h=>by obtain⟨X,Y,rfl,h1,h2,h3,h4,h5⟩:=h;have:=Ch.len h5;simp;lia
end
section
variable{prog:Ry}{w:World}{A:RA}{E:Rz->Rv->Prop}{s:Rv}{κ:SortKind}{rk:Keyed->Nat}{a₀:Array Keyed}
def pq(C:Cmp prog w A s κ a₀.toList rk){st:SortSt}(B:SB κ a₀ st)(e:(arrOf st).toList=D++R)(hc:Ch rk (pm (pendingOf st).toList) 0 D)(hi:i+1<(pendingOf st).size){Q:Bool->SortSt->Prop}
 (hq:∀D' st',SB κ a₀ st'->(arrOf st').toList=D'++R->D'.length=D.length->Ch rk (pm (pendingOf st').toList) 0 D'->(pendingOf st').size+1=(pendingOf st).size->Q true st'):wpS (model prog w) A E s (mergeAt' i) Q st:=by
 have hl:i+1<(pendingOf st).toList.length:=by simpa using hi
 obtain⟨l₁,x,y,l₂,hp,hl1⟩ : ∃(l₁:Pn)(x y:Nat×Nat×Nat)(l₂:Pn),(pendingOf st).toList=l₁++x::y::l₂/\l₁.length=i:=by refine⟨(pendingOf st).toList.take i,(pendingOf st).toList[i]'(by lia),(pendingOf st).toList[i+1],(pendingOf st).toList.drop (i+2),?_,by rw[N5];lia⟩;rw[<- OC (by lia),<- OC (by lia),lR]
 obtain⟨u,n,q⟩:=x;obtain⟨v,m,q'⟩:=y;have hpm:pm (pendingOf st).toList=pm l₁++(u,n)::(v,m)::pm l₂:=by rw[hp];simp[pm]
 rw[hpm]at hc;obtain⟨P,T,rfl,c1,c2⟩:=hc.split;obtain⟨X,Y',rfl,rfl,rfl,n1,sX,Y,Z,rfl,rfl,rfl,n2,sY,c3⟩:=c2;rw[Qi]at hp c3 hpm;subst hl1;refine yD C B (P:=P) (X:=X) (Y:=Y) (R:=Z++R) (by rw[e];simp) sX sY n1 n2 hp λW st' B' e' sW lW hp'=>hq (P++(W++Z)) st' B' (by rw[e'];simp) (by simp;lia) ?_ ?_
 .rw[hp',show pm (l₁++(P.length,X.length+Y.length,q)::l₂)=pm l₁++(P.length,X.length+Y.length)::pm l₂ by simp[pm]];refine Ch.join c1 ⟨W,Z,rfl,by simp,lW,by lia,sW,?_⟩;rw[Qi,<- P4];exact c3
 .rw[<- p7,<- p7,hp',hp];simp;lia
noncomputable def wJ(pw:Nat):SM (ForInStep (Option Unit×Unit)):=do
 let t <- get
 match(if(pendingOf t).size>1 then(pendingOf t)[(pendingOf t).size-2]? else none)with
 |some (_,_,o)=>if o<=pw then pure (.done (none,()))else do
  let y <- mergeAt' ((pendingOf t).size-2)
  if(!y)=true then pure (.done (some (),()))else pure (.yield (none,()))
 |_=>pure (.done (none,()))
def yE(size lo n:Nat):SM (ForInStep (Option Unit×Nat)):=do
 let t <- get
 match(pendingOf t).back? with
 |some (u,m,_)=>do
  let r <- forIn [0:size] ((none,()):Option Unit×Unit) λ_ _=>wJ (power' size (2*u+m) (2*u+m+m+n) size)
  match r.1 with
  |some x=>pure (.done (some x,lo))
  |none=>do
   modify λt=>setPending t ((pendingOf t).modify ((pendingOf t).size-1) λx=>(x.1,x.2.1,power' size (2*u+m) (2*u+m+m+n) size))
   modify λt=>setPending t ((pendingOf t).push (lo,n,0))
   pure (.yield (none,lo+n))
 |_=>do
  modify λt=>setPending t ((pendingOf t).push (lo,n,0))
  pure (.yield (none,lo+n))
def GX(size mr:Nat)(c:Option Unit×Nat):SM (ForInStep (Option Unit×Nat)):=
 if c.2>=size then pure (.done (none,c.2))else do
  let x <- countRun' c.2 (size-c.2)
  match x with
  |some n=>
   if n<mr then do
    rule "list.sort.binary-insertion"
    let y <- binarySort' c.2 (min (size-c.2) mr) n
    if(!y)=true then pure (.done (some (),c.2))else yE size c.2 (min (size-c.2) mr)
   else yE size c.2 n
  |_=>pure (.done (some (),c.2))
noncomputable def GY:SM (ForInStep (Option Unit×Unit)):=do
 let t <- get
 if(pendingOf t).size<=1 then pure (.done (none,()))else do
  let y <- mergeAt' (if(if(pendingOf t).size-2>0 then(pendingOf t)[(pendingOf t).size-2-1]?.map (·.2.1)else none).any (·< ((pendingOf t)[(pendingOf t).size-2+1]?.elim 0 (·.2.1)))then(pendingOf t).size-2-1 else(pendingOf t).size-2)
  if(!y)=true then pure (.done (some (),()))else pure (.yield (none,()))
def Dp:sortRuns'=(do
 let t <- get
 let r <- forIn [0:(arrOf t).size] ((none,0):Option Unit×Nat) λ_ c=>GX (arrOf t).size (minRun' (arrOf t).size (arrOf t).size 0) c
 match r.1 with
 |some x=>pure x
 |none=>do
  let q <- forIn [0:(arrOf t).size] ((none,()):Option Unit×Unit) λ_ _=>GY
  match q.1 with
  |some x=>pure x
  |none=>pure ()):=by
 rw[sortRuns'_eq];refine N7 (get >>= ·) ?_;funext t;dsimp only;refine congr (N7 Bind.bind ?_) ?_
 .refine N7 (forIn [0:(arrOf t).size] ((none,0):Option Unit×Nat)) ?_;funext _ c;unfold GX;refine Rm rfl (λ_=>rfl) λ_=>?_;refine N7 (countRun' c.2 ((arrOf t).size-c.2) >>= ·) ?_;funext x;cases x with
  |none=>rfl
  |some n=>
   refine Rm rfl (λ_=>?_) λ_=>?_
   .refine N7 (liftM (rule "list.sort.binary-insertion") >>= ·) ?_;funext _;refine N7 (binarySort' c.2 (min ((arrOf t).size-c.2) (minRun' (arrOf t).size (arrOf t).size 0)) n >>= ·) ?_;funext y;refine Rm rfl (λ_=>rfl) λ_=>?_;unfold yE;refine N7 (get >>= ·) ?_;funext t2;generalize(pendingOf t2).back?=bk;cases bk with
    |none=>rfl
    |some b=>
     obtain⟨u,m,q⟩:=b;dsimp only;refine congr (N7 Bind.bind ?_) ?_
     .refine N7 (forIn [0:(arrOf t).size] ((none,()):Option Unit×Unit)) ?_;funext _ _;unfold wJ;refine N7 (get >>= ·) ?_;funext t3;generalize(if(pendingOf t3).size>1 then(pendingOf t3)[(pendingOf t3).size-2]? else none)=o;cases o with
      |none=>rfl
      |some o=>rfl
     .funext r;obtain⟨r,_⟩:=r;cases r with
      |none=>rfl
      |some x=>rfl
   .unfold yE;refine N7 (get >>= ·) ?_;funext t2;generalize(pendingOf t2).back?=bk;cases bk with
    |none=>rfl
    |some b=>
     obtain⟨u,m,q⟩:=b;dsimp only;refine congr (N7 Bind.bind ?_) ?_
     .refine N7 (forIn [0:(arrOf t).size] ((none,()):Option Unit×Unit)) ?_;funext _ _;unfold wJ;refine N7 (get >>= ·) ?_;funext t3;generalize(if(pendingOf t3).size>1 then(pendingOf t3)[(pendingOf t3).size-2]? else none)=o;cases o with
      |none=>rfl
      |some o=>rfl
     .funext r;obtain⟨r,_⟩:=r;cases r with
      |none=>rfl
      |some x=>rfl
 .funext r;obtain⟨r,lo⟩:=r;cases r with
  |some x=>rfl
  |none=>
   dsimp only;refine congr (N7 Bind.bind ?_) ?_
   .refine N7 (forIn [0:(arrOf t).size] ((none,()):Option Unit×Unit)) ?_;funext _ _;unfold GY;rfl
   .funext r;obtain⟨r,_⟩:=r;cases r with
    |none=>rfl
    |some x=>rfl
def t_runs(C:Cmp prog w A s κ a₀.toList rk)(Dn:(a₀.toList.map rk).Nodup){st:SortSt}(B:SB κ a₀ st)(hpe:pendingOf st=#[])(h2:2<=a₀.size){Q:Unit->SortSt->Prop}
 (hq:∀st',SB κ a₀ st'->Srt rk (arrOf st').toList->Q () st'):wpS (model prog w) A E s sortRuns' Q st:=by
 have hsz:∀{st':SortSt},SB κ a₀ st'->(arrOf st').toList.length=a₀.size:=λB'=>by rw[B'.perm.length_eq];simp
 have hs0:(arrOf st).size=a₀.size:=by have:=hsz B;simpa using this
 rw[Dp];refine i6 (wpS_get ?_);rw[hs0];generalize minRun' a₀.size a₀.size 0=mr;refine i6 (OO (OK (I:=λi (c:Option Unit×Nat) st'=>c.1=none/\i<=c.2/\c.2<=a₀.size/\SB κ a₀ st'/\∃D R,(arrOf st').toList=D++R/\D.length=c.2/\Ch rk (pm (pendingOf st').toList) 0 D)
  (Q:=λc st'=>c.1=none/\SB κ a₀ st'/\Ch rk (pm (pendingOf st').toList) 0 (arrOf st').toList) ?_ ?_ ⟨rfl,N3 _,N3 _,B,[],(arrOf st).toList,rfl,rfl,by rw[hpe];rfl⟩) ?_)
 .rintro i ⟨r,lo⟩ st1 _ hi ⟨rfl,hlo,hlo2,B1,D,R,e1,hD,hc⟩;dsimp only at hlo hlo2 hD;have bN:=hsz B1;rw[e1,KE]at bN;unfold GX;dsimp only;by_cases hge:lo>=a₀.size
  .rw[ck hge];have:R=[]:=Qn.mp (by lia);subst this;exact j7 ⟨rfl,B1,by rw[e1,Oo];exact hc⟩
  .rw[cO hge];have aX:∀(n:Nat)(st2:SortSt)(X R2:List Keyed),0<n->X.length=n->Srt rk X->SB κ a₀ st2->(arrOf st2).toList=D++X++R2->pendingOf st2=pendingOf st1->wpS (model prog w) A E s (yE a₀.size lo n) (λr st'=>match r with
    |.done c'=>c'.1=none/\SB κ a₀ st'/\Ch rk (pm (pendingOf st').toList) 0 (arrOf st').toList
    |.yield c'=>c'.1=none/\i+1<=c'.2/\c'.2<=a₀.size/\SB κ a₀ st'/\∃D R,(arrOf st').toList=D++R/\D.length=c'.2/\Ch rk (pm (pendingOf st').toList) 0 D) st2:=by
    intro n st2 X R2 n0 hX sX B2 e2 hp2;have l2:=hsz B2;rw[e2]at l2;simp only[KE]at l2;have push:∀(st3:SortSt)(D3:List Keyed),SB κ a₀ st3->(arrOf st3).toList=D3++(X++R2)->D3.length=lo->Ch rk (pm (pendingOf st3).toList) 0 D3->wpS (model prog w) A E s (do
     modify λt=>setPending t ((pendingOf t).push (lo,n,0))
     pure (ForInStep.yield ((none,lo+n):Option Unit×Nat))) (λr st'=>match r with
     |.done c'=>c'.1=none/\SB κ a₀ st'/\Ch rk (pm (pendingOf st').toList) 0 (arrOf st').toList
     |.yield c'=>c'.1=none/\i+1<=c'.2/\c'.2<=a₀.size/\SB κ a₀ st'/\∃D R,(arrOf st').toList=D++R/\D.length=c'.2/\Ch rk (pm (pendingOf st').toList) 0 D) st3:=by
     intro st3 D3 B3 e3 l3 c3;refine i6 (wpS_modify (j7 ⟨rfl,by dsimp only;lia,by dsimp only;lia,⟨B3.perm,B3.kind,B3.fail⟩,D3++X,R2,by show(arrOf st3).toList=_;rw[e3];simp,by simp;lia,?_⟩));show Ch rk (pm ((pendingOf st3).push (lo,n,0)).toList) 0 (D3++X);rw[Ps,show pm ((pendingOf st3).toList++[(lo,n,0)])=pm (pendingOf st3).toList++[(lo,n)] by simp[pm]];exact Ch.join c3 ⟨X,[],by simp,by lia,hX,n0,sX,rfl⟩
    unfold yE;refine i6 (wpS_get ?_);cases hb:(pendingOf st2).back? with
    |none=>exact push st2 D B2 (by rw[e2];simp) hD (by rw[hp2];exact hc)
    |some b=>
     obtain⟨u,m,q⟩:=b;dsimp only;generalize power' a₀.size (2*u+m) (2*u+m+m+n) a₀.size=pw;refine i6 (OO (OK (I:=λ_ (c:Option Unit×Unit) st'=>c.1=none/\SB κ a₀ st'/\∃D3,(arrOf st').toList=D3++(X++R2)/\D3.length=lo/\Ch rk (pm (pendingOf st').toList) 0 D3)
      (Q:=λc st'=>c.1=none/\SB κ a₀ st'/\∃D3,(arrOf st').toList=D3++(X++R2)/\D3.length=lo/\Ch rk (pm (pendingOf st').toList) 0 D3) ?_ (λc st' h=>h) ⟨rfl,B2,D,by rw[e2];simp,hD,by rw[hp2];exact hc⟩) ?_)
     .rintro j ⟨r,_⟩ st3 _ _ ⟨rfl,B3,D3,e3,l3,c3⟩;unfold wJ;refine i6 (wpS_get ?_);by_cases hp1:(pendingOf st3).size>1
      .rw[ck hp1];have hg:∃o,(pendingOf st3)[(pendingOf st3).size-2]?=some o:=⟨(pendingOf st3)[(pendingOf st3).size-2]'(by lia),by simp⟩;obtain⟨⟨o1,o2,o3⟩,ho⟩:=hg;rw[ho];dsimp only;by_cases ho3:o3<=pw
       .rw[ck ho3];exact j7 ⟨rfl,B3,D3,e3,l3,c3⟩
       .rw[cO ho3];refine i6 (pq C B3 e3 c3 (by lia) λD4 st4 B4 e4 l4 c4 _=>?_);rw[cO (by simp)];exact j7 ⟨rfl,B4,D4,e4,by lia,c4⟩
      .rw[cO hp1];exact j7 ⟨rfl,B3,D3,e3,l3,c3⟩
     .rintro⟨r,_⟩ st3 ⟨rfl,B3,D3,e3,l3,c3⟩;dsimp only;refine i6 (wpS_modify ?_);refine push _ D3 ⟨B3.perm,B3.kind,B3.fail⟩ e3 l3 ?_;show Ch rk (pm ((pendingOf st3).modify ((pendingOf st3).size-1) λx=>(x.1,x.2.1,pw)).toList) 0 D3;have:pm ((pendingOf st3).modify ((pendingOf st3).size-1) λx=>(x.1,x.2.1,pw)).toList=pm (pendingOf st3).toList:=by
       unfold pm;apply ON
       intro k;rw[ol,ol,gA,gA,Array.getElem?_modify];by_cases hk:(pendingOf st3).size-1=k
       .rw[ck hk];cases(pendingOf st3)[k]?<;>rfl
       .rw[cO hk]
      rw[this];exact c3
   have hRl:R.length=a₀.size-lo:=by lia
   have cnt:=Do (E:=E) C Dn B1 e1 (by lia) (Q:=λx st'=>∃X R2,x=some X.length/\SB κ a₀ st'/\(arrOf st').toList=D++X++R2/\Srt rk X/\1<=X.length/\pendingOf st'=pendingOf st1) λX R2 st' b1 b2 b3 b4 b5=>⟨X,R2,rfl,b1,b2,b3,b4,b5⟩;rw[hD,hRl]at cnt;refine i6 (OO cnt ?_);rintro x st2 ⟨X,R2,rfl,B2,e2,sX,n0,hp2⟩;dsimp only;have l2:=hsz B2;rw[e2]at l2;simp only[KE]at l2;by_cases hmr:X.length<mr
   .rw[ck hmr];refine i6 (kq ?_);have e2':(arrOf st2).toList=D++(X++R2).take (min (a₀.size-lo) mr)++(X++R2).drop (min (a₀.size-lo) mr):=by rw[e2,fC,fC,lR]
    have lf:((X++R2).take (min (a₀.size-lo) mr)).length=min (a₀.size-lo) mr:=by rw[N5,KE];lia
    have bin:=AC (E:=E) C B2 e2' (ok:=X.length) n0 (by lia) (by rw[List.take_take,Q4 (by lia),Ri];exact sX) (Q:=λy st'=>∃Z,y=true/\SB κ a₀ st'/\(arrOf st').toList=D++Z++(X++R2).drop (min (a₀.size-lo) mr)/\Srt rk Z/\Z.length=min (a₀.size-lo) mr/\pendingOf st'=pendingOf st2) λZ st' b1 b2 b3 b4 b5=>⟨Z,rfl,b1,b2,b3,by lia,b5⟩;rw[hD,lf]at bin;refine i6 (OO bin ?_);rintro y st3 ⟨Z,rfl,B3,e3,sZ,lZ,hp3⟩;rw[cO (by simp)];exact OO (aX _ st3 Z _ (by lia) lZ sZ B3 e3 (hp3.trans hp2)) λr st' h=>by cases r<;>exact h
   .rw[cO hmr];exact OO (aX _ st2 X R2 n0 rfl sX B2 e2 hp2) λr st' h=>by cases r<;>exact h
 .rintro⟨r,lo⟩ st1 ⟨rfl,hlo,hlo2,B1,D,R,e1,hD,hc⟩;dsimp only at hlo hlo2 hD;have bN:=hsz B1;rw[e1,KE]at bN;have:R=[]:=Qn.mp (by lia);subst this;exact⟨rfl,B1,by rw[e1,Oo];exact hc⟩
 .rintro⟨r,lo⟩ st1 ⟨rfl,B1,hc1⟩;dsimp only;have hl0:=hc1.len;rw[hsz B1]at hl0;refine i6 (OO (OK (I:=λi (c:Option Unit×Unit) st'=>c.1=none/\SB κ a₀ st'/\Ch rk (pm (pendingOf st').toList) 0 (arrOf st').toList/\(pendingOf st').size+i<=a₀.size) (Q:=λc st'=>c.1=none/\SB κ a₀ st'/\Ch rk (pm (pendingOf st').toList) 0 (arrOf st').toList/\(pendingOf st').size<=1) ?_ ?_ ⟨rfl,B1,hc1,by simpa[pm]using hl0⟩) ?_)
  .rintro i ⟨r,_⟩ st2 _ hi ⟨rfl,B2,c2,hz⟩;unfold GY;refine i6 (wpS_get ?_);by_cases h1:(pendingOf st2).size<=1
   .rw[ck h1];exact j7 ⟨rfl,B2,c2,h1⟩
   .rw[cO h1];refine i6 (pq C B2 (D:=(arrOf st2).toList) (R:=[]) (by simp) c2 ?_ λD' st3 B3 e3 l3 c3 hz3=>?_)
    .exact(show ∀(p:Prop) [Decidable p],(if p then(pendingOf st2).size-2-1 else(pendingOf st2).size-2)+1<(pendingOf st2).size from λp _=>by split<;>lia) _
    .rw[cO (by simp)];rw[Oo]at e3;exact j7 ⟨rfl,B3,by rw[e3];exact c3,by lia⟩
  .rintro⟨r,_⟩ st2 ⟨rfl,B2,c2,hz⟩;exact⟨rfl,B2,c2,by lia⟩
  .rintro⟨r,_⟩ st2 ⟨rfl,B2,c2,hz⟩;dsimp only;refine j7 (hq st2 B2 ?_);have hl:=hsz B2;cases hp:(pendingOf st2).toList with
   |nil=>rw[hp]at c2;have:(arrOf st2).toList=[]:=c2;rw[this];exact List.Pairwise.nil
   |cons x l=>
    have:l=[]:=by
     have h3:(pendingOf st2).toList.length<=1:=by simpa using hz
     rw[hp]at h3;simpa using h3
    subst this;rw[hp]at c2;obtain⟨X,Y,e4,_,_,_,sX,e5⟩:=c2;have e5:Y=[]:=e5;rw[e4,e5,Oo];exact sX
end
end TS
namespace L2
open PySem PySem.Spec PySem.Calls PyProof.Rows ST
def gb(K:List (List Int))(k:List Int):Nat:=(K.filter λj=>cp j k).length
theorem px:∀{K:List (List Int)},(∀x,p x=true->q x=true)->(K.filter p).length<=(K.filter q).length
 |[],_=>cN _
 |x::K,h=>by
  have ih:=px (K:=K) h;rw[O5,O5];cases hp:p x with
  |true=>rw[h x hp];simpa using ih
  |false=>cases hq:q x<;>simp<;>lia
theorem nc:∀{K:List (List Int)},(∀x,p x=true->q x=true)->z∈K->p z=false->q z=true->(K.filter p).length<(K.filter q).length
 |[],_,h,_,_=>by cases h
 |x::K,h,hz,h1,h2=>by
  have le:=px (K:=K) h;rw[O5,O5];rcases j5.mp hz with rfl|hz
  .rw[h1,h2];simp;lia
  .have ih:=nc h hz h1 h2;cases hp:p x with
   |true=>rw[h x hp];simpa using ih
   |false=>cases hq:q x<;>simp<;>lia
def my{K:List (List Int)}(ha:a∈K)(hb:b∈K):cp a b=decide (gb K a<gb K b):=by
 have up:∀{a b:List Int},a∈K->cp a b=true->gb K a<gb K b:=λ{a b} ha h=>nc (λx hx=>qy x a b hx h) ha (jk a) h;cases h:cp a b with
 |true=>rw[db (up ha h)]
 |false=>
  by_cases e:a=b
  .subst e;rw[iA (Pd _)]
  .have:=up hb ((jl a b e).resolve_left (by rw[h];simp));rw[iA (by lia)]
def sR{α β:Type}(f:α->β){l m:List β}(h:l.Perm m):∀xs:List α,m=xs.map f->∃ys:List α,ys.Perm xs/\l=ys.map f:=by
 induction h with
 |nil=>intro xs e;have:xs=[]:=List.map_eq_nil_iff.mp e.symm;subst this;exact⟨[],.refl _,rfl⟩
 |cons x _ ih=>
  intro xs e;cases xs with
  |nil=>cases e
  |cons y ys=>rw[fV]at e;obtain⟨rfl,e2⟩:=List.cons.inj e;obtain⟨zs,h1,h2⟩:=ih ys e2;exact⟨y::zs,h1.cons y,by rw[fV,h2]⟩
 |swap x y l=>
  intro xs e;cases xs with
  |nil=>cases e
  |cons a r=>
   cases r with
   |nil=>simp at e
   |cons b r=>simp only[fV,List.cons.injEq]at e;obtain⟨rfl,rfl,rfl⟩:=e;exact⟨b::a::r,List.Perm.swap _ _ _,rfl⟩
 |trans _ _ ih1 ih2=>intro xs e;obtain⟨ys,h1,h2⟩:=ih2 xs e;obtain⟨zs,h3,h4⟩:=ih1 ys h2;exact⟨zs,h3.trans h1,h4⟩
section
variable{prog:Ry}{w:World}{A:RA}{E:Rz->Rv->Prop}{s:Rv}
open Classical in
noncomputable def eQ(xs:List ga)(p:Keyed):List Int:=if h:∃x∈xs,p.1=Value.ref x.2 then h.choose.1 else []
noncomputable abbrev uI(x:ga):Keyed:=(Value.ref x.2,Value.ref x.2)
def om.same(t:om prog w h xs)(hx:x∈xs)(hy:y∈xs)(e:x.2=y.2):x.1=y.1:=by
 obtain⟨ox,ix,nx,h1,_,d1,l1⟩:=t.is x hx;obtain⟨oy,iy,ny,h2,_,d2,l2⟩:=t.is y hy;rw[e,h2]at h1;cases h1;rw[d2]at d1;cases d1;have:=ItemsAre.inj l1 l2;unfold iK at this;have inj:∀{a b:List Int},a.map (Sum.inl:Int->bu)=b.map Sum.inl->a=b:=by
  intro a;induction a with
  |nil=>intro b hb;cases b with
   |nil=>rfl
   |cons _ _=>cases hb
  |cons x r ih=>intro b hb;cases b with
   |nil=>cases hb
   |cons y q=>rw[fV,fV]at hb;rw[PB (List.cons.inj hb).1,ih (List.cons.inj hb).2]
 exact inj this
def eB(t:om prog w h xs)(hx:x∈xs):eQ xs (uI x)=x.1:=by have hex:∃y∈xs,(uI x).1=Value.ref y.2:=⟨x,hx,rfl⟩;unfold eQ;rw[dif_pos hex];have hc:=hex.choose_spec;have e:Value.ref x.2=Value.ref hex.choose.2:=hc.2;injection e with e;exact(t.same hx hc.1 e).symm
def AD(t:om prog w s.heap xs):TS.Cmp prog w A s (tuples' true) (xs.map uI) λp=>gb (xs.map (·.1)) (eQ xs p):=by intro p hp q hq Q hQ;obtain⟨x,hx,rfl⟩:=j3.mp hp;obtain⟨y,hy,rfl⟩:=j3.mp hq;have hQ:Q (decide (gb (xs.map (·.1)) (eQ xs (uI x))<gb (xs.map (·.1)) (eQ xs (uI y)))) s:=hQ;rw[eB t hx,eB t hy,<- my (OL hx) (OL hy)]at hQ;obtain⟨ox,ix,nx,h1,c1,d1,l1⟩:=t.is x hx;obtain⟨oy,iy,ny,h2,c2,d2,l2⟩:=t.is y hy;refine PySem.W.kat_lt h1 d1 h2 d2 ?_;have:=wH (A:=A) 0 l1 l2 hQ;simpa using this
def vn{P:PySem.Fin->Rv->Prop}(ho:s.heap.get? a=some (seqObj "list" (valsT xs).toArray n)) (t:om prog w s.heap xs) (hz:xs.length<=1000)
 (h:∀ys h' c,ys.Perm xs->ys.Pairwise (λx y=>cp x.1 y.1=true)->h'.get? a=some (seqObj "list" (valsT ys).toArray c)->(∀b o,b≠a->s.heap.get? b=some o->h'.get? b=some o)->P (.done (.ret .none)) {s with heap:=h'}) :
 wpAny (model prog w) A (Builtin.«list.sort» ⟨[.ref a],[]⟩) P E s:=by
 have ha:a<s.heap.objs.size:=jZ ho;have hvl:(valsT xs).length=xs.length:=by simp[valsT]
 rw[list_sort_plain];refine bo (listItems_at ho rfl (bo (Qp ho rfl ?_ (by rw[cQ,hvl,Od];lia) (N3 _))));obtain⟨e1,ho1⟩ : ∃e1,(s.heap.update a (Obj.mapSeq λ_=>#[])).get? a=some (seqObj "list" #[] e1):=⟨_,get?_update_seq ho (λ_=>#[])⟩;refine bo (Q3 ho1 rfl (bo (wpAny_newTuple (bo (wpAny_newList (On ?_) (N3 _))) (by show(valsT xs).length<=_;rw[hvl,Od];lia))));have oth:∀b o,b≠a->s.heap.get? b=some o->(((s.heap.update a (Obj.mapSeq λ_=>(#[]:Array Rz))).push (seqObj "tuple" (valsT xs).toArray 0)).push (seqObj "list" #[] 0)).get? b=some o:=λb o hb e=>cj _ (cj _ ((OF _ _ (Oz hb)).trans e));have ho6:(((s.heap.update a (Obj.mapSeq λ_=>(#[]:Array Rz))).push (seqObj "tuple" (valsT xs).toArray 0)).push (seqObj "list" #[] 0)).get? a=some (seqObj "list" #[] e1):=cj _ (cj _ ho1);show wpAny (model prog w) A _ P E { s with heap:=((s.heap.update a (Obj.mapSeq λ_=>(#[]:Array Rz))).push (seqObj "tuple" (valsT xs).toArray 0)).push (seqObj "list" #[] 0) };generalize(((s.heap.update a (Obj.mapSeq λ_=>(#[]:Array Rz))).push (seqObj "tuple" (valsT xs).toArray 0)).push (seqObj "list" #[] 0))=H6 at ho6 oth;dsimp only;have fin:∀(ys:List ga)(out:Array Rz),ys.Perm xs->ys.Pairwise (λx y=>cp x.1 y.1=true)->out=(valsT ys).toArray->P (.done (.ret .none)) {s with heap:=H6.update a (Obj.mapSeq λ_=>out)}:=λys out hp hw ho=>by subst ho;exact h ys _ _ hp hw (get?_update_seq ho6 λ_=>(valsT ys).toArray) λb o hb e=>(OF _ _ (Oz hb)).trans (oth b o hb e)
 have hzip:(valsT xs).toArray.zip (valsT xs).toArray=(xs.map uI).toArray:=by apply Array.ext';simp[valsT,List.zip_map']
 by_cases h2:(valsT xs).toArray.size<2
 .rw[ck h2,ck h2];refine bo (bF ?_);rw[StateT.run_pure];have hx2:xs.length<2:=by rw[cQ,hvl]at h2;exact h2
  have hout:Array.map (λx:Keyed=>x.2) ((valsT xs).toArray.zip (valsT xs).toArray)=(valsT xs).toArray:=by apply Array.ext';simp[List.map_snd_zip]
  refine bo (bF ?_);dsimp only;refine bo (Q3 ho6 rfl (bo (Qp ho6 rfl ?_ (N3 _) ?_)))
  .simp only[Pt,gy,Oh];refine bF (fin xs _ (Rg _) ?_ hout)
   match xs,hx2 with
   |[],_=>exact List.Pairwise.nil
   |[x],_=>exact OV _ _
  .show(Array.map (λx:Keyed=>x.2) ((valsT xs).toArray.zip (valsT xs).toArray)).size<=_;rw[hout,cQ,hvl,Od];lia
 .rw[cO h2,cO h2];have hx2:2<=xs.length:=by rw[cQ,hvl]at h2;lia
  have t6:om prog w H6 xs:=t.off ho rfl oth;refine bo (yy (s:={s with heap:=H6}) t6 (by lia) ?_);have C:=AD (A:=A) (s:={s with heap:=H6}) t6;have hnd:(((xs.map uI).toArray).toList.map λp=>gb (xs.map (·.1)) (eQ xs p)).Nodup:=by
   show(((xs.map uI)).map λp=>gb (xs.map (·.1)) (eQ xs p)).Nodup;rw[v9];unfold List.Nodup;rw[Oc];have nd:=t.nd;unfold List.Nodup at nd;rw[Oc]at nd;refine O4 (λ{x y} hx hy hne e=>?_) nd;have e:gb (xs.map (·.1)) (eQ xs (uI x))=gb (xs.map (·.1)) (eQ xs (uI y)):=e;rw[eB t hx,eB t hy]at e;have h1:=my (OL (f:=(·.1)) hx) (OL (f:=(·.1)) hy);have h2:=my (OL (f:=(·.1)) hy) (OL (f:=(·.1)) hx);rw[e,iA (Pd _)]at h1;rw[e,iA (Pd _)]at h2;rcases jl _ _ hne with q|q
   .rw[h1]at q;cases q
   .rw[h2]at q;cases q
  have run:=TS.t_runs (E:=E) (a₀:=(xs.map uI).toArray) (st:=SortSt.mk' (tuples' true) (xs.map uI).toArray #[] 7 none) C hnd ⟨.refl _,rfl,rfl⟩ rfl (by simp;exact hx2) (Q:=λ_ st'=>∃ys:List ga,ys.Perm xs/\(arrOf st').toList=ys.map uI/\ys.Pairwise (λx y=>cp x.1 y.1=true)/\failedOf st'=none) λst' B sr=>by obtain⟨ys,hp,he⟩:=sR uI B.perm xs rfl;refine⟨ys,hp,he,?_,B.fail⟩;rw[he]at sr;unfold TS.Srt at sr;rw[Oc]at sr;have nd:=(hp.map (·.1)).nodup_iff.mpr t.nd;unfold List.Nodup at nd;rw[Oc]at nd;refine(sr.and nd).imp_of_mem λ{x y} hx hy hh=>?_;have hx:=hp.subset hx;have hy:=hp.subset hy;obtain⟨h1,h2⟩:=hh;have h1:gb (xs.map (·.1)) (eQ xs (uI x))<=gb (xs.map (·.1)) (eQ xs (uI y)):=h1;rw[eB t hx,eB t hy]at h1;have h3:=my (OL (f:=(·.1)) hy) (OL (f:=(·.1)) hx);rw[iA (by lia)]at h3;exact(jl _ _ h2).resolve_right (by rw[h3];simp)
  rw[hzip];refine bo (OT run ?_ λ_ _ e=>e);rintro⟨⟨⟩,st'⟩ s' ⟨rfl,ys,hp,he,hw,hf⟩;dsimp only at he hf ⊢;have hout:(arrOf st').map (·.2)=(valsT ys).toArray:=by apply Array.ext';rw[Array.toList_map,he,v9];rfl
  rw[hout];refine bo (Q3 ho6 rfl (bo (Qp ho6 rfl ?_ (N3 _) ?_)))
  .rw[hf];simp only[Pt,gy,Oh];exact bF (fin _ _ hp hw rfl)
  .show(valsT ys).toArray.size<=_;have:=hp.length_eq;simp[valsT,this];rw[Od];lia
def GZ:qz prog w 300:=λ_ _ _ _ _ _ _ ho t hz h=>vn ho t (by lia) h
end
section
def Dq(T:oj t es)(sp:iU t)(h:Int)(x:Rz):∃j,j∉t.place.toList/\j<=t.mask/\Rea t.mask (·∈ t.place.toList) h j/\layNew t es h x=(SetTable.insertAt es (t.put j).2 (h,x),(t.put j).1,false,false):=by
 have hs:=f_ sp;have pr:=mV T.tb hs (λ_=>h+1) h (Va.st t.mask h);have hst:t.probeStart h=st t.mask h:=rfl;generalize hp:t.probe (λ_=>h+1) h (st t.mask h)=m at pr;cases pr with
 |ca n i hi e q b=>exact absurd q (by lia)
 |em n e b=>
  have re:Rea t.mask (·∈ t.place.toList) h (it t.mask n (st t.mask h)).j:=⟨n,rfl,λk hk=>by obtain⟨i,hi,q,_⟩:=b k hk;show _∈t.place.toList;rw[<- q];simp⟩;have hjm:(it t.mask n (st t.mask h)).j<=t.mask:=((Va.st t.mask h).it).ND;refine⟨_,e,hjm,re,?_⟩;obtain⟨T',em,ez⟩:=u6 T e hjm (v:=x) re;have hp1:(t.put (it t.mask n (st t.mask h)).j).2<=es.size:=by rw[mn,<- T.len];exact(cz _ T.tb.uA).1
  have le':(t.put (it t.mask n (st t.mask h)).j).1.place.size<=(t.put (it t.mask n (st t.mask h)).j).1.mask:=by grind [iU]
  have hf:=oj.fits T' le';unfold layNew SetTable.freeSlot;rw[hst,hp];dsimp only[Option.getD,Option.isSome];unfold SetTable.orStandIn;rw[ck hf,hf];rfl
def yF(hm:uH m)(hn:SetTable.sizeAbove n=m+1)(hl:es.size<=m):∃es' t',relayAll t es n=(es',t',false)/\Laid m es es' t'/\t'.led=t.led/\t'.plain=t.plain:=by
 obtain⟨t',order,e,L,h1,h2,hp⟩:=sF hm es hl t.finger (t.movedTo m) t.led t.plain;refine⟨_,t',?_,L,h1,h2⟩;have er:t.relaid (es.map (·.1)) n=some (t',order):=by unfold SetTable.relaid;rw[hn];exact e
 unfold relayAll;rw[er];dsimp only;have hc:coversAll order es.size=true:=by unfold coversAll;exact List.isPerm_iff.mpr hp
 have hf:t'.fits (order.filterMap (es[·]?)).size=true:=oj.fits L.uC (by rw[L.uC.len,L.mask,L.size];exact hl);rw[hc,hf];rfl
end
section
def Dr(hS:SetAt w s.heap a es)(el:ElemsOf (intKind prog w) es.toList)(hz:es.size+1<=300)
 (h1:∀tk,s.toks<=tk->(∃e∈es.toList,(intKind prog w).is i e.2=true)->Q false {s with toks:=tk})
 (h2:∀tk h' es',s.toks<=tk->(∀e∈es.toList,(intKind prog w).is i e.2=false)->Heap.SameBut a s.heap h'->SetAt w h' a es'->lL es es' ((intKind prog w).hash i,.int i t0)->Q true {s with heap:=h',toks:=tk}) :
 wpAny (model prog w) A (setAdd a (.int i t0)) Q E s:=by
 obtain⟨o,ep,t,ho,hex,hd,T,sp,hpl,hle⟩:=hS;have hf:=oj.fits T (f_ sp);have l9:=intKind_is prog w i t0;have hsc:(Value.int i t0).scannable=true:=rfl;unfold setAdd;refine On ?_;refine bo ((intKind prog w).pyHash (k:=i) l9 ?_);have htk:s.toks<=s.toks+1:=Nat.le_succ _;generalize s.toks+1=tk at htk;unfold setAddHashed setAddHashedIn;refine On (bo (OB (s:={s with toks:=tk}) ho hd hf ?_));dsimp only;rw[byScan_of hsc (by unfold scanBound;lia) el];simp only[O_];unfold setAddByScan;refine bo ?_;refine bo (Q1 ?_);refine bo (wpAny_setScan_of (s:={s with toks:=tk}) l9 ho hd hf el ?_);cases hr:List.findIdx? (λe=>(intKind prog w).is i e.2) es.toList with
 |some j=>dsimp only;obtain⟨hj,hpj,_⟩:=List.findIdx?_eq_some_iff_getElem.mp hr;exact bF (bF (h1 tk htk ⟨_,Qe hj,hpj⟩))
 |none=>
  dsimp only;have hout:∀e∈es.toList,(intKind prog w).is i e.2=false:=λe he=>by have:=List.findIdx?_eq_none_iff.mp hr e he;simpa using this
  obtain⟨j,hj,hjm,re,hlay⟩:=Dq T sp ((intKind prog w).hash i) (.int i t0);obtain⟨T',em,ez⟩:=u6 T hj hjm (v:=Value.int i t0) re;have hpl':(t.put j).1.plain=true:=by rw[jh T.tb];exact hpl
  have hle':(t.put j).1.led=!byT w:=by rw[jh T.tb];exact hle
  rw[hlay];dsimp only;refine bo (show wpAny _ _ (pure ()) _ _ _ from bF ?_);rw[hpl'];simp only[O_];rw[hashByValue_scannable 8 hsc];refine bo (bF ?_);rw[show plainKind (Value.int i t0)=true from rfl];simp only[O_];have hp:(t.put j).2<=es.size:=by rw[mn,<- T.len];exact(cz j T.tb.uA).1
  have g:=o_ es (t.put j).2 ((intKind prog w).hash i,Value.int i t0) hp;refine bo (QB (s:={s with toks:=tk}) ho hd ?_ (by rw[g.size,Od];lia));obtain⟨o1,q1,q2,q3⟩:=iB (SetTable.insertAt es (t.put j).2 ((intKind prog w).hash i,Value.int i t0)) (t.put j).1 ho hex hd;have sb:=Os s.heap a (Obj.putSet (SetTable.insertAt es (t.put j).2 ((intKind prog w).hash i,Value.int i t0)) (t.put j).1);have fill:(t.put j).1.fill=es.size+1:=by unfold SetTable.fill;rw[T'.tb.Jq,ez,T.len];rfl
  by_cases hfull:(t.put j).1.tooFull=true
  .rw[hfull];simp only[Bool.not_false,Rn,O_];unfold SetTable.tooFull at hfull;rw[fill,em]at hfull;have hfull:(es.size+1)*5>=t.mask*3:=by simpa using hfull
   have sp':es.size*5<t.mask*3:=by rw[<- T.len];exact sp
   obtain⟨m,m1,m2,m3⟩:=mY T.tb.dc sp' hfull hz;rw[g.size];obtain⟨es',t',hra,L,l1,l2⟩:=yF (t:=(t.put j).1) (es:=SetTable.insertAt es (t.put j).2 ((intKind prog w).hash i,Value.int i t0)) m2 m1 (by rw[g.size];lia);rw[hra];dsimp only;refine bo (show wpAny _ _ (pure ()) _ _ _ from bF ?_);refine bo (QB q1 q3 ?_ (by rw[L.size,g.size,Od];lia));obtain⟨o2,r1,r2,r3⟩:=iB es' t' q1 q2 q3;refine bF (bF (h2 tk _ es' htk hout (sb.trans (Os _ a _)) ⟨o2,_,_,r1,r2,r3,L.uC,?_,by rw[l2];exact hpl',by rw[l1];exact hle'⟩ (g.laid L)));unfold iU;rw[L.uC.len,L.mask,L.size,g.size];exact m3
  .have hfull:(t.put j).1.tooFull=false:=by simpa using hfull
   rw[hfull];simp only[Re,gy,Oh];refine bF (bF (h2 tk _ _ htk hout sb ⟨o1,_,_,q1,q2,q3,T',?_,hpl',hle'⟩ g));unfold SetTable.tooFull at hfull;unfold iU;rw[fill]at hfull;rw[ez,T.len];simpa using hfull
end
section
noncomputable abbrev sS:=Int×Tok
noncomputable abbrev eI(prog:Ry)(w:World)(x:sS):Int×Rz:=((intKind prog w).hash x.1,.int x.1 x.2)
def isI:(intKind prog w).is k (.int j t)=true↔k=j:=by
 constructor
 .intro h;by_cases e:k=j
  .exact e
  .have h2:=intKind_is prog w j t;exact absurd ((intKind prog w).inj _ _ _ h h2) e
 .rintro rfl;exact intKind_is prog w k t
def Kg:Dc (eI prog w) its:=λx _ y _ e=>by injection e with _ e;injection e
def Ds:wF prog w A hb S (eI prog w) its:=λx xs s es Q E hx hs K hS v hz h1 h2=>by
 refine Dr hS (λe he=>?_) hz (λtk t hin=>h1 tk t ?_) λtk h' es' t hout sb sa g=>h2 tk h' es' t (λhin=>?_) sb sa g
 .obtain⟨y,_,rfl⟩:=v.el e he;exact⟨⟨y.1,intKind_is prog w y.1 y.2,rfl⟩,rfl⟩
 .obtain⟨e,he,hh⟩:=hin;obtain⟨y,y1,rfl⟩:=v.el e he;exact⟨y,y1,(isI.mp hh).symm⟩
 .obtain⟨y,y1,y2⟩:=hin;obtain⟨z,z1,z2,z3⟩:=v.all y y1;have:=hout _ z3;rw[isI.mpr (z2.trans y2).symm]at this;cases this
end
section
def Kh(r:Vals (xs.map V.int) us):∃its:List sS,its.map (·.1)=xs/\us=its.map λz=>Value.int z.1 z.2:=by
 induction xs generalizing us with
 |nil=>cases r;exact⟨[],rfl,rfl⟩
 |cons x xs ih=>
  cases r with
  |cons q h=>obtain⟨t,rfl⟩:=q;obtain⟨its,rfl,rfl⟩:=ih h;exact⟨(x,t)::its,rfl,rfl⟩
def vp(hc:X.calm=true):CallR X (.type "set") (λvs H Q=>∃l xs,vs=[.ref l]/\Rd H l (.lst (xs.map V.int))/\xs.length<=300/\∀p es its,H p=none->its.map (·.1)=xs->g6 (eI X.prog X.w) es its->Q (.ref p) (aC H p (.ext λh=>SetAt X.w h p es))):=by
 intro aa s σ H vs us Q I r h;obtain⟨l,xs,rfl,hl,hz,q⟩:=h;obtain⟨u,rfl,ru⟩:=eJ r;obtain rfl:u=Value.ref l:=ru;obtain⟨_,us,n,rv,hg⟩:=(show ObjOk X.prog X.w H s.heap l (.lst (xs.map V.int))from hl.ok I.aG);obtain⟨its,rfl,rfl⟩:=Kh rv;rw[cM]at hz;refine pd (ent:=eI X.prog X.w) (I.ok.hd hc) hg (its:=its) (by simp) (by simpa using hz) (λi v e=>?_) Kg Ds λh' tk es hS v hk=>?_
 .simp only[List.getElem?_toArray,ol,N_]at e;obtain⟨x,h1,h2⟩:=e;exact⟨x,h1,h2.symm⟩
 .refine⟨.ref s.heap.objs.size,_,I.laid (a:=s.heap.objs.size) (o:=.ext λh=>SetAt X.w h s.heap.objs.size es) (t':=tk) (λb o e=>hk b o (jZ e) e) (cN _) ?_,rfl,q _ es its (I.aG.fresh (cN _)) rfl v⟩;exact⟨hS,(let ⟨o,_,_,e,_⟩:=hS;⟨o,e⟩),λh1 h2 hs k=>SetAt.keep hs k⟩
end
noncomputable def hG(zs:List sS):List Rz:=zs.map λz=>Value.int z.1 z.2
section
theorem sT:∀zs:List sS,IntsAre (hG zs) (zs.map (·.1))
 |[]=>.nil
 |z::zs=>.cons _ _ (sT zs)
def yG{P:PySem.Fin->Rv->Prop}(ho:s.heap.get? a=some (seqObj "list" (hG zs).toArray n)) (nd:(zs.map (·.1)).Nodup) (hz:zs.length<=63)
 (h:∀ys h' c,ys.Perm zs->ys.Pairwise (λx y=>x.1<y.1)->h'.get? a=some (seqObj "list" (hG ys).toArray c)->(∀b o,b≠a->s.heap.get? b=some o->h'.get? b=some o)->P (.done (.ret .none)) {s with heap:=h'}) :
 wpAny (model prog w) A (Builtin.«list.sort» ⟨[.ref a],[]⟩) P E s:=by
 have hvl:(hG zs).length=zs.length:=by simp[hG]
 have at_:∀k (hk:k<zs.length),iN (0,0) zs k=zs[k]:=λk hk=>by simp[iN,hk]
 refine Ay (κ:=oneType') (lt:=λi j=>decide ((iN (0,0) zs i).1<(iN (0,0) zs j).1)) ho (by lia) (λH oth h2=>⟨λQ q=>?_,⟨λi=>by simp,λi j k=>by grind,λi j hi hj e=>?_⟩,λi j C hi hj q=>?_⟩) λp h' c pm so e k=>?_
 .have hkind:keyKind' (hG zs).toArray=pure oneType':=by
   match zs,(show 2<=zs.length by lia)with
   |z1::z2::r,_=>exact keyKind_ints (sT (z1::z2::r))
  rw[hkind];exact bF q
 .rw[hvl]at hi hj;rw[at_ i hi,at_ j hj];rcases Q9 e with q|q
  .have:=j8.mp nd i j (by grind) (by grind) q;grind
  .have:=j8.mp nd j i (by grind) (by grind) q;grind
 .rw[hvl]at hi hj;unfold PySem.W.kas_ask;have one:∀k (hk:k<zs.length),(hG zs).getD k Value.none=.int zs[k].1 zs[k].2:=λk hk=>by simp[hG,hk]
  rw[one i hi,one j hj,keyLt'_oneType];dsimp only at q;rw[at_ i hi,at_ j hj]at q;exact oneLt_int q
 .rw[hvl]at pm so;refine h (p.toList.map (iN (0,0) zs)) h' c (yz _ pm) ((Df (r:=λx y=>decide (x.1<y.1)) pm so).imp λh=>P5 h) ?_ k;rw[e];unfold hG;rw[Ax (0,0) pm]
end
section
theorem pz:∀ys:List sS,Vals (ys.map λy=>V.int y.1) (hG ys)
 |[]=>.nil
 |y::ys=>.cons ⟨y.2,rfl⟩ (pz ys)
def oE(hc:X.calm=true):CallR X (.builtin "sorted") (λvs H Q=>∃p es its,vs=[.ref p]/\H p=some (.ext λh=>SetAt X.w h p es)/\g6 (eI X.prog X.w) es its/\its.length<=63/\
 ∀(l:Addr)(ks:List Int),H l=none->(∀k,k∈ks↔k∈its.map (·.1))->ks.Pairwise (·< ·)->Q (.ref l) (aC H l (.lst (ks.map V.int)))):=by
 intro aa s σ H vs us Q I r h;obtain⟨p,es,its,rfl,hp,v,hz,q⟩:=h;obtain⟨u,rfl,ru⟩:=eJ r;obtain rfl:u=Value.ref p:=ru;obtain⟨hS,_,_⟩:=(show ObjOk X.prog X.w H s.heap p (.ext λh=>SetAt X.w h p es)from I.aG p _ hp);refine jm hS v Kg (I.ok.hd hc) (by decide) (lt:=(·< ·)) (λA E s a n zs P _ ho _ nd hz h=>yG ho nd hz h) hz λys h' tk l c so hyl hle hl hk=>?_;have em:(ys.map (·.1)).map V.int=ys.map λy=>V.int y.1:=by rw[v9];rfl
 refine⟨.ref l,_,I.laid (a:=l) (o:=.lst ((ys.map (·.1)).map V.int)) (t':=tk) hk hle ?_,rfl,q l (ys.map (·.1)) (I.aG.fresh hle) (λk=>?_) (Oc.mpr so.pw)⟩
 .rw[em];exact⟨by rw[cM,Od];lia,hG ys,c,pz ys,hl⟩
 .constructor
  .intro hk;obtain⟨y,hy,rfl⟩:=j3.mp hk;exact j3.mpr ⟨y,so.sub y hy,rfl⟩
  .intro hk;obtain⟨x,hx,rfl⟩:=j3.mp hk;obtain⟨y,y1,y2⟩:=so.all x hx;exact j3.mpr ⟨y,y1,y2⟩
end
end L2
namespace L2
open PySem PySem.Spec PySem.Calls PyProof.Rows
section
def G0{k:List bu}{dflt:Rz}{Q:Rz->Rv->Prop}(hu:A.units<cLine)(l9:(tK prog w).is s.heap k a)(hm:s.heap.DictOfH (tK prog w) d xs)(hsz:xs.length<=sizeLine)
 (h1:∀p,atKey xs k=some p->Q p.2 {s with toks:=s.toks+(tK prog w).draws k})
 (h2:atKey xs k=none->∀h',h'.DictOfH (tK prog w) d (storedH xs k a dflt)->Heap.SameBut d s.heap h'->Q dflt {s with heap:=h',toks:=s.toks+(tK prog w).draws k}):wpAny (model prog w) A (dictSetDefault d (.ref a) dflt) Q E s:=by
 obtain⟨o,es,ep,ho,hc,hd,he,his,hn⟩:=hm;unfold dictSetDefault
 try with_reducible refine On ?_
 refine bo ((tK prog w).pyHash hu l9 (bo (wpAny_dictFind_heap (knd:=tK prog w) (s:={s with toks:=s.toks+(tK prog w).draws k}) hu l9 ho hd he his hn (λhno=>?_) λj p hj=>?_)))
 .have hnone:=atKey_none_of_get hno;have hnot:k∉xs.map (·.1):=not_mem_keys_of_get hno;refine bo (Q1 (bo (wpAny_updateDictKeys (hz:=by have e:=size_of_entries he;lia) (s:={s with toks:=s.toks+(tK prog w).draws k}) ho hd (bF (h2 hnone _ ⟨_,_,ep+1,OU _ ho (Obj.isFreed_of_dict (Obj.data_mapDictKeys hd _)),hc.mapDictKeys _,Obj.data_mapDictKeys hd _,?_,?_,?_⟩ (Os ..))))))
  .rw[storedH_new hnone];simp[he,entryOfKey]
  .rw[storedH_new hnone];intro x hx;rcases gZ.mp hx with hx|hx
   .exact(tK prog w).keeps (his x hx) ho hd (Os ..)
   .obtain rfl:=lQ.mp hx;exact(tK prog w).keeps l9 ho hd (Os ..)
  .rw[storedH_new hnone,N4,Pu];exact⟨hn,by simp,λx hx y hy e=>by simp only[fV,Q8,lQ]at hy;subst hy;exact hnot (e▸hx)⟩
 .refine bo (P6 (s:={s with toks:=s.toks+(tK prog w).draws k}) ho hd ?_);rw[entry_at he j,hj];exact bo (Q1 (bF (h1 p (atKey_of_get hn hj))))
end
section
def Dt:V->List V->Hp->VK->Prop:=λx xs H Q=>∃a b k y kvs,x=.ref a/\xs=[.ref b,y]/\H b=some (.tup (k.map kV))/\H a=some (.dT kvs)/\kvs.length<sizeLine/\
 ((∃v,dQ kvs k=some v/\Q v H)\/(dQ kvs k=none/\Q y (aC H a (.dT (cU kvs k y)))))
def pA(hu:X.A.units+64<cLine):MC X "dict.setdefault" Dt:=by
 intro aa s σ H x xs v us Q I rx rs q;obtain⟨a,b,k,y,kvs,rfl,rfl,hb,ha,hz,q⟩:=q;obtain rfl:v=Value.ref a:=rx;obtain⟨u1,u2,rfl,ru1,ru2⟩:=Fc rs;obtain rfl:u1=Value.ref b:=ru1;obtain⟨z1,y1,vs,r1,d1⟩:=Ff I.aG ha;have l9:=eL I.aG hb;have hT:Shared.TypeIs s (.ref a) "dict":=by obtain⟨o,es,ep,ho,hc,_⟩:=d1;exact⟨o,ho,hc.1⟩
 refine Ow PU hT PySem.F.entry_dict_setdefault ?_ (PySem.F.args_dict_setdefault_3 _ _ _);unfold Builtin.«dict.setdefault»;refine bo ?_;unfold Builtin.Dict.keyAndDefault;refine bo (wpAny_notOrdered_dict hT (show wpAny _ _ (pure (a,Value.ref b,some u2)) _ _ s from bF ?_));show wpAny _ _ (if(a==sysModules)=true then _ else(dictSetDefault a (Value.ref b) u2 >>= _)) _ _ s;rw[cO (by grind)];have bN:vs.length<=sizeLine:=by rw[<- Pw r1];exact z1
 have rv:=r1.val k;refine bo (G0 (by grind) l9 d1 bN (λp hp=>?_) λhn0 h' dd' hs=>?_)
 .rcases q with⟨v,hv,q⟩|⟨hv,q⟩
  .have:RelO (some v) (some p.2):=by rw[<- hv];rw[hp]at rv;exact rv
   exact bF ⟨_,rfl,v,H,I.tok _,this,q⟩
  .have:=rv.gu;rw[hv,hp]at this;cases this
 .rcases q with⟨v,hv,q⟩|⟨hv,q⟩
  .have:=rv.gu;rw[hv,hn0]at this;cases this
  .obtain⟨o',es,ep,hq,h2,h3,h4,_,h5⟩:=dd';have hl:(cU kvs k y).length<=sizeLine:=by have:=g8 kvs k y;lia
   have aG:ObjOk X.prog X.w (aC H a (.dT (cU kvs k y))) h' a (.dT (cU kvs k y)):=by refine⟨hl,y1,_,(r1.put k hb ru2).keeps λc ys ec=>?_,o',es,ep,hq,h2,h3,h4,h5⟩;rw[af (rX ec ha (λz=>nomatch z))];exact ec
   exact bF ⟨_,rfl,y,_,mj (t':=s.toks+(tK X.prog X.w).draws k) I (by rw[ha];exact True.intro) hs ⟨o',hq⟩ aG,ru2,q⟩
def vq:V->List V->Hp->VK->Prop:=λx xs H Q=>∃a b k y kvs,x=.ref a/\xs=[.ref b,y]/\H b=some (.tup (k.map kV))/\(H a=some (.dT kvs)\/(H a=some (.dK [])/\kvs=[]))/\kvs.length<sizeLine/\
 ((∃v,dQ kvs k=some v/\Q v H)\/(dQ kvs k=none/\Q y (aC H a (.dT (cU kvs k y)))))
def sU(hu:X.A.units+64<cLine):MC X "dict.setdefault" vq:=by
 intro aa s σ H x xs v us Q I rx rs q;obtain⟨a,b,k,y,kvs,e1,e2,hb,ha,hz,q⟩:=q;rcases ha with ha|⟨ha,rfl⟩
 .exact pA hu aa s σ H x xs v us Q I rx rs ⟨a,b,k,y,kvs,e1,e2,hb,ha,hz,q⟩
 .have nba:b≠a:=rX hb ha (λz=>nomatch z);refine pA hu aa s σ (aC H a (.dT [])) x xs v us Q (I.LR ha) rx rs ⟨a,b,k,y,[],e1,e2,by rw[af nba];exact hb,ag,hz,.inr ?_⟩;rcases q with⟨v,hv,q⟩|⟨hv,q⟩
  .cases hv
  .have:aC (aC H a (.dT [])) a (.dT (cU [] k y))=aC H a (.dT (cU [] k y)):=by
    funext c;by_cases h:c=a
    .subst h;rw[ag,ag]
    .rw[af h,af h,af h]
   exact⟨hv,by grind⟩
end
def RawD(h:Heap)(d:Addr)(es:Array DictEntry)(ep:Nat):Prop:=∃o,h.get? d=some o/\o.ExactDict/\o.data=.dict es ep
section
variable{prog:Ry}{w:World}{A:RA}{s:Rv}{d v it:Addr}{es:Array DictEntry}{ep i:Nat}{ok ov:Rz}
def RawD.ty(m:RawD s.heap d es ep):s.TypeIs (.ref d) "dict":=let ⟨o,h,c,_⟩:=m;⟨o,h,c.1⟩
def qD(d:Addr)(hd:(d==sysModules)=false) :
 MeetsIn prog w (Builtin.«dict.items» ⟨[.ref d],[]⟩) (λ_ R s=>(∃es ep,RawD s.heap d es ep)/\R (.ok (.ret (.ref s.heap.objs.size))) { s with heap:=s.heap.push { cls:=.type "dict_items",data:=.fields #[.ref d] } }):=
 .of_wp λA R s ⟨⟨es,ep,m⟩,h⟩=>by unfold Builtin.«dict.items» Builtin.Dict.noArgs;refine bo (bo (wpAny_notOrdered_dict m.ty (bF ?_)));show wpAny _ _ (Builtin.Dict.showsAll d >>= _) _ _ s;unfold Builtin.Dict.showsAll;rw[cO (by rw[hd];simp)];exact bo (bF (bo (Oy (bF ⟨_,rfl,h⟩))))
def sV(hv:s.heap.IsItemsView v d)(m:RawD s.heap d es ep)
 (hQ:Q (.ref s.heap.objs.size) { s with heap:=s.heap.push { cls:=.type "dict_itemiterator",data:=.fields #[.none,.bool false,.ref d,.int 0 0,.int es.size 0,.int ep 0,.none,.none] } }) :
 wpAny (model prog w) A (pyIter (.ref v)) Q E s:=by
 obtain⟨vo,e1,_,e2⟩:=id hv;obtain⟨o,ho,_,hd⟩:=id m;refine QE hv.typeIs F.slot_dict_items_iter (Ow F.slot_dict_items_iter hv.typeIs F.entry_dict_items_iter ?_ (F.args_dict_items_iter_1 _));unfold Builtin.«dict_items.__iter__» Builtin.Dict_items.dictOf Builtin.Dict_items.newIterator;refine bo (bF (bo (bo (Qz e1 e2 (x:=.ref d) rfl (bF (bo (bo (P6 ho hd (bo (wpAny_dictEpoch ho hd ?_))))))))));simp only[show Builtin.Dict_items.ownsTuple "dict_itemiterator"=true by decide,O_];refine Oy (bF ⟨_,rfl,"dict_itemiterator",_,⟨_,jY _ rfl,rfl⟩,OA.lookup,?_⟩)
  (by simp only[sizeOk,Builtin.Dict_items.ownedTupleFields,cQ,KE,lO,Qo,Od];lia)
 simpa[rawInt,Builtin.Dict_items.ownedTupleFields]using hQ
def s_(hh:A.handled=none)(y:IsItemIter s.heap it d i es.size ep ok ov)(m:RawD s.heap d es ep)(hi:es.size<=i)(hQ:∀h',Heap.ExtBut it s.heap h'->Q none {s with heap:=h'}):wpAny (model prog w) A (pyNext (.ref it)) Q E s:=by
 obtain⟨o,ho,_,hd⟩:=id m;have hT:s.TypeIs (.ref it) "dict_itemiterator":=⟨_,y,rfl⟩;unfold pyNext;refine bo (QZ (OM (name:=Str.ofString "__next__") hT OA (Ow OA hT F.entry_dict_itemiterator_next ?_ (F.args_dict_itemiterator_next_1 _))));refine bo (bF (bo (bo ?_)))
 first|refine bo (O3 hT (bF ?_))|refine bo (Pk hT (bF ?_))
 refine bo (wpAny_fieldsOf y rfl ?_);simp only[show Builtin.Dict_items.ownsTuple "dict_itemiterator"=true by decide,O_];show wpAny _ _ (if(Value.ref d==Value.none)=true then _ else _) _ _ s;rw[cO (show ¬((Value.ref d==Value.none)=true)from Pe)];refine bo (bF (bo (P6 ho hd ?_)));rw[cO (by simp)];refine bo (bF (bo (wpAny_dictEpoch ho hd ?_)));rw[cO (by simp)];refine bF ?_;simp only[show ¬((i:Int)<0)from by lia,Oh,P3,Array.getElem?_eq_none hi];refine bo ?_
 first|refine bo (O3 hT (bF ?_))|refine bo (Pk hT (bF ?_))
 show wpAny _ _ (setField (.ref it) 2 .none >>= _) _ _ s;refine bo (Rh y rfl (by simp) ?_);show wpAny _ _ (newExc (.type "StopIteration") [] >>= _) _ _ _;refine bo ?_;simp only[newExc,newTuple];refine bo (Oy ?_ (by size_fits));refine bo (m:=firstArgMember _ _) (wpAny_of_eq (a:=Value.none) (by first|rfl|(simp only[firstArgMember];rfl)) ?_);refine Oy ?_ (by size_fits);simp only[raiseNew];refine bo (wpAny_handled ?_);rw[show A.in1.handled=none from hh];refine bo (bF (wpAny_throw ?_));refine bo (Qd (T:="StopIteration") (b:=true) ⟨_,jY _ rfl,rfl⟩ isSubtype_stop ?_);exact bF (hQ _ (((Os ..).extBut.push _).push _))
def vw(y:IsItemIter s.heap it d i es.size ep ok ov)(m:RawD s.heap d es ep)(he:es[i]?=some e)
 (hQ:∀h',IsItemIterOut h' it d (i+1) es.size ep e.key e.val s.heap.objs.size->h'.get? s.heap.objs.size=some { cls:=.type "tuple",data:=.seq #[e.key,e.val] }->
   (∀b o,b≠it->s.heap.get? b=some o->h'.get? b=some o)->Q (some (.ref s.heap.objs.size)) {s with heap:=h'}):wpAny (model prog w) A (pyNext (.ref it)) Q E s:=by
 obtain⟨hp,g,dr,tk,os⟩:=s;obtain⟨o,ho,_,hd⟩:=id m;have hT:Shared.TypeIs ⟨hp,g,dr,tk,os⟩ (.ref it) "dict_itemiterator":=⟨_,y,rfl⟩;have hil:hp.objs.size≠it:=QI (jZ y);unfold pyNext;refine bo (QZ (OM (name:=Str.ofString "__next__") hT OA (Ow OA hT F.entry_dict_itemiterator_next ?_ (F.args_dict_itemiterator_next_1 _))));refine bo (bF (bo (bo ?_)))
 first|refine bo (O3 hT (bF ?_))|refine bo (Pk hT (bF ?_))
 refine bo (wpAny_fieldsOf y rfl ?_);simp only[show Builtin.Dict_items.ownsTuple "dict_itemiterator"=true by decide,O_];show wpAny _ _ (if(Value.ref d==Value.none)=true then _ else _) _ _ _;rw[cO (show ¬((Value.ref d==Value.none)=true)from Pe)];refine bo (bF (bo (P6 ho hd ?_)));rw[cO (by simp)];refine bo (bF (bo (wpAny_dictEpoch ho hd ?_)));rw[cO (by simp)];refine bF ?_;simp only[show ¬((i:Int)<0)from by lia,Oh,P3,he];refine bo ?_
 first|refine bo (O3 hT (bF ?_))|refine bo (Pk hT (bF ?_))
 refine bo (Qy hT ?_);show wpAny _ _ (setField (.ref it) 3 (rawInt ((i:Int)+1)) >>= _) _ _ ⟨hp,g,dr,tk,os⟩;refine bo (PV y (by simp) λh1 y1 s1=>?_);replace s1:Heap.SameBut it hp h1:=s1;replace y1:IsItemIter h1 it d (i+1) es.size ep ok ov:=by
  have q:((i+1:Nat):Int)=(i:Int)+1:=by lia
  unfold IsItemIter;rw[q];simpa[rawInt]using y1
 have hT1:Shared.TypeIs ⟨h1,g,dr,tk,os⟩ (.ref it) "dict_itemiterator":=⟨_,y1,rfl⟩;refine bo (On (bo (Qy hT1 (bo (Qy hT1 ?_)))));show wpAny _ _ (Builtin.Dict_items.pairFromOwner (.ref it) 6 e.key e.val) _ _ ⟨h1,g,dr,tk,os⟩;unfold Builtin.Dict_items.pairFromOwner;refine bo (wpAny_newTuple ?_);have y2:IsItemIter (h1.push { cls:=.type "tuple",data:=.seq #[e.key,e.val] }) it d (i+1) es.size ep ok ov:=cj _ y1;have t2:(h1.push { cls:=.type "tuple",data:=.seq #[e.key,e.val] }).get? hp.objs.size=some { cls:=.type "tuple",data:=.seq #[e.key,e.val] }:=by rw[<- s1.1];exact jY _ rfl
 have k2:∀b o,b≠it->hp.get? b=some o->(h1.push { cls:=.type "tuple",data:=.seq #[e.key,e.val] }).get? b=some o:=λb o n q=>cj _ (s1.extBut b o n q);have z1:h1.objs.size=hp.objs.size:=s1.1;generalize h1.push { cls:=.type "tuple",data:=.seq #[e.key,e.val] }=h2 at y2 t2 k2;show wpAny _ _ (Builtin.Dict_items.ownedTupleIsFree (.ref it) >>= _) _ _ ⟨h2,g,dr,tk,os⟩;rw[z1];clear y1 s1 hT1 z1 h1;refine bo ?_;unfold Builtin.Dict_items.ownedTupleIsFree;refine bo (Qz y2 rfl (x:=.none) rfl (bF ?_));simp only[O_];refine bo (Qz y2 rfl (x:=ok) rfl (bo (Qz y2 rfl (x:=ov) rfl ?_)));refine bo (PV y2 (by simp) λh3 y3 s3=>?_);replace y3:IsItemIter h3 it d (i+1) es.size ep e.key ov:=y3;refine bo (PV y3 (by simp) λh4 y4 s4=>?_);replace y4:IsItemIter h4 it d (i+1) es.size ep e.key e.val:=y4;refine bo (PV y4 (by simp) λh5 y5 s5=>?_);replace y5:IsItemIterOut h5 it d (i+1) es.size ep e.key e.val hp.objs.size:=y5;refine bo (PV y5 (by simp) λh6 y6 s6=>?_);replace y6:IsItemIterOut h6 it d (i+1) es.size ep e.key e.val hp.objs.size:=y6;have up:∀b o,b≠it->h2.get? b=some o->h6.get? b=some o:=λb o n q=>Qg (show Heap.SameBut it h5 h6 from s6) b o n (Qg (show Heap.SameBut it h4 h5 from s5) b o n (Qg (show Heap.SameBut it h3 h4 from s4) b o n (Qg (show Heap.SameBut it h2 h3 from s3) b o n q)));exact bo (wpAny_letGo (bF (bF ⟨_,rfl,bF (hQ h6 y6 (up _ _ hil t2) λb o n q=>up b o n (k2 b o n q))⟩)))
end
def vx{P:Ry}{w:World}{K:Rx}{es:List Expr}{k0:Nat}{pos:Pos}{J:It}{d it:Addr}{o:Obj}{u:HO}{en:Array DictEntry}{ep:Nat}(hex:o.ExactDict)(hdat:o.data=.dict en ep)(hgo:∀i H,J.go i H->H d=some (.az o u))(hst:∀i H,J.stop i H->H d=some (.az o u)/\en.size<=i)
 (hent:∀H h,HOk P w H h->∀i,J.go i H->∃e y v,en[i]?=some e/\RelV y e.key/\RelV v e.val/\∀p,H p=none->J.CM i H (.ref p) (aC H p (.tup [y,v]))) :
 Turn P w K (.Tuple es k0 pos) J [it] it (λi h=>∃ok ov,IsItemIter h it d i en.size ep ok ov) where
 mem:=by simp
 obj:=λi h st b hb=>by
  have e:b=it:=by simpa using hb
  subst e;obtain⟨ok,ov,e⟩:=st;exact⟨_,e,λv z=>by cases z⟩
 keep:=λi h h' st k=>by obtain⟨ok,ov,e⟩:=st;exact⟨ok,ov,k it (by simp) _ e⟩
 item:=by
  intro X hP hw hK hc i aa s σ H E I hf st hg;subst hP hw hK;have hd:=hgo i H hg;obtain⟨ok,ov,st⟩:=st;obtain⟨eo,_⟩:=(show ObjOk X.prog X.w H s.heap d (.az o u)from I.aG d _ hd);obtain⟨e,y,v,he,ry,rv,hy⟩:=hent H s.heap I.aG i hg;have fi:=hf it (by simp);refine vw st ⟨o,eo,hex,hdat⟩ he λh' hout hT kp=>?_;refine⟨_,rfl,wpAny_letOwnedTupleGo_items hout λh'' hit'' hs''=>?_⟩;have keep2:∀b o,b≠it->s.heap.get? b=some o->h''.get? b=some o:=λb o n1 q=>(hs''.2 b n1).trans (kp b o n1 q);have hTe:s.heap.objs.size≠it:=QI (jZ st);have hT'':h''.get? s.heap.objs.size=some { cls:=.type "tuple",data:=.seq #[e.key,e.val] }:=(hs''.2 _ hTe).trans hT;have fr:=I.aG.fresh (cN _);have I1:Inv X aa σ (aC H s.heap.objs.size (.tup [y,v])) {s with heap:=h''}:=by
   refine I.step (g':=s.gens) (d':=s.drawn) (ch:=[it]) (λb hb=>?_) (λb o _ _ hn q _=>keep2 b o (λz=>hn (by simp[z])) q)
    (λb o _ _ hn q _=>⟨o.slots,keep2 b o (λz=>hn (by simp[z])) q⟩) (λb o _ q hH=>by rw[af (N9 (jZ q))];exact hH)
    (λb o hn q=>⟨o,keep2 b o (λz=>hn (by simp[z])) q⟩) (λb ys q=>by rw[af (aD q fr)];exact q)
    (λb o' u' q=>by rw[af (aD q fr)];exact q) (λb ps q=>⟨#[],by rw[af (aD q fr)];simp[q]⟩) (λm hm=>?_) (λb u' q=>?_) I.bare
   .have:b=it:=by simpa using hb
    subst this;exact⟨fi.2.2.2.1,fi.2.1,fi.2.2.2.2.1,fi.2.2.2.2.2⟩
   .obtain⟨o,es',ep,ho',r⟩:=hm;exact⟨o,es',ep,keep2 _ o (Oz fi.2.1) ho',r⟩
   .by_cases hb:b=s.heap.objs.size
    .subst hb;rw[ag]at q;cases q;exact⟨by show 2<=sizeLine;decide,[e.key,e.val],.cons ry (.cons rv .nil),⟨_,hT'',rfl,0,rfl⟩⟩
    .rw[af hb]at q;refine(I.aG b u' q).stay (λc v hc' q'=>keep2 c v ?_ q') (λc r=>by rw[af (aD r fr)];exact r) λc ys r=>by rw[af (aD r fr)];exact r
     rcases hc' with z|z
     .rw[z];exact aD q fi.1
     .exact aD z fi.1
  refine⟨.ref s.heap.objs.size,_,I1,rfl,hy _ fr,⟨_,_,hit''⟩,λb hb=>?_⟩;have:b=it:=by simpa using hb
  subst this;rw[af (N9 (jZ st))];exact fi.1
 done:=by intro X hP hw hK hc i aa s σ H E I hf st hg;subst hP hw hK;obtain⟨hd,hi⟩:=hst i H hg;obtain⟨ok,ov,st⟩:=st;obtain⟨eo,_⟩:=(show ObjOk X.prog X.w H s.heap d (.az o u)from I.aG d _ hd);obtain⟨f0,f1,f2,f3,f4,f5⟩:=hf it (by simp);exact s_ (I.ok.hd hc) st ⟨o,eo,hex,hdat⟩ (by lia) λh' eb=>⟨rfl,I.turned (t':=s.toks) (λb o hb e=>eb b o hb e) f0 f1 f3 f4 f5⟩
 self:=λA i s Q E st h=>by obtain⟨ok,ov,st⟩:=st;have hT:s.TypeIs (.ref it) "dict_itemiterator":=⟨_,st,rfl⟩;refine QE hT F.slot_dict_itemiterator_iter (Ow F.slot_dict_itemiterator_iter hT (entryFor_alias (id':="dict_keyiterator.__iter__") (by kernel_rfl) rfl (by decide +kernel) (by kernel_rfl):entryFor table "dict_itemiterator.__iter__"=some Builtin.«dict_keyiterator.__iter__») ?_ (F.args_dict_itemiterator_iter_1 _));show wpAny _ _ (ret (.ref it)) _ _ s;exact bF ⟨_,rfl,"dict_itemiterator",_,hT,OA.lookup,h⟩
section
def yH{R:It->Hp->Prop}(I2:Inv X aa σ H2 s1)(e2:H2 d=some (.az o u))(hd:(d==sysModules)=false)(hex:o.ExactDict)(hdat:o.data=.dict en ep)(hgo:∀i H,J.go i H->H d=some (.az o u))(hst:∀i H,J.stop i H->H d=some (.az o u)/\en.size<=i)
 (hent:∀H h,HOk X.prog X.w H h->∀i,J.go i H->∃e y v,en[i]?=some e/\RelV y e.key/\RelV v e.val/\∀p,H p=none->J.CM i H (.ref p) (aC H p (.tup [y,v]))) (q2:R J H2) :
 MethodOn X.prog X.w X.A "items" cpos (.ref d) [] (λv s1=>wX X (pyIter v) (JJ X aa σ (.Tuple es k0 iR) R) X.xe s1) X.xe s1:=by
 obtain⟨eo,_⟩:=(show ObjOk X.prog X.w H2 s1.heap d (.az o u)from I2.aG d _ e2);have hty:s1.TypeIs (.ref d) "dict":=⟨o,eo,hex.1⟩;have hnod:∀a,Value.ref d=.ref a->∃ob,s1.heap.get? a=some ob/\ob.dict=none:=λa e=>by cases e;exact⟨o,eo,hex.2.1⟩
 refine⟨"dict","dict.items",Pz,PySem.F.slot_dict_items,PySem.F.type_dict_items,hty,hnod,Qx rfl (PySem.evalArgs_none ?_)⟩;refine QL PySem.F.slot_dict_items hty PySem.F.entry_dict_items (PySem.F.args_dict_items_1 _) (qD d hd) ⟨⟨en,ep,o,eo,hex,hdat⟩,?_⟩;have I3:Inv X aa σ H2 { s1 with heap:=s1.heap.push { cls:=.type "dict_items",data:=.fields #[.ref d] } }:=I2.kept (t':=s1.toks) λb o e=>cj _ e;have e3:({ s1 with heap:=s1.heap.push { cls:=.type "dict_items",data:=.fields #[.ref d] } }:Rv).heap.get? d=some o:=cj _ eo;generalize hs3:({ s1 with heap:=s1.heap.push { cls:=.type "dict_items",data:=.fields #[.ref d] } }:Rv)=s3 at I3 e3;have hv:s3.heap.IsItemsView s1.heap.objs.size d:=by rw[<- hs3];exact⟨_,jY _ rfl,rfl,rfl⟩
 show wpAny _ _ (pyIter (.ref s1.heap.objs.size)) _ _ _;refine sV hv ⟨o,e3,hex,hdat⟩ ?_;refine⟨s3.heap.objs.size,[s3.heap.objs.size],_,_,H2,rfl,I3.kept (t':=s3.toks) λb o e=>cj _ e,vx hex hdat hgo hst hent,⟨_,_,jY _ rfl⟩,λb hb=>?_,q2⟩;have e:b=s3.heap.objs.size:=by simpa using hb
 subst e;exact I3.oP (cN _) (I3.aG.fresh (cN _))
end
theorem KV.at(r:KV a b):∀(i:Nat) p q,a[i]?=some p->b[i]?=some q->p.1=q.1/\RelV p.2 q.2:=by
 induction r with
 |nil=>intro i p q e;simp at e
 |cons hq t ih=>
  intro i p q e1 e2;cases i with
  |zero=>simp at e1 e2;subst e1 e2;exact hq
  |succ i=>exact ih i p q (by simpa using e1) (by simpa using e2)
def Ki(d:Addr)(o:Obj)(u:HO)(kvs:List (List bu×V)):It:=⟨λi H=>H d=some (.az o u)/\i<kvs.length,λi H x H'=>∃p b k v,H p=none/\x=.ref p/\H b=some (.tup (k.map kV))/\H'=aC H p (.tup [.ref b,v])/\kvs[i]?=some (k,v),λi H=>H d=some (.az o u)/\kvs.length<=i⟩
theorem KT.at{H:Hp}{a:List (List bu×V)}{b:List (List bu×Addr×Rz)}(r:KT H a b):∀(i:Nat) p q,a[i]?=some p->b[i]?=some q->p.1=q.1/\H q.2.1=some (.tup (p.1.map kV))/\RelV p.2 q.2.2:=by
 induction r with
 |nil=>intro i p q e;simp at e
 |cons hq t ih=>
  intro i p q e1 e2;cases i with
  |zero=>simp at e1 e2;subst e1 e2;exact hq
  |succ i=>exact ih i p q (by simpa using e1) (by simpa using e2)
section
def G1(X:Cx)(tl:TE):TI:=λσ H R=>tl σ H λx H1=>∃d kvs u,x=.ref d/\(u=.dT kvs\/(u=.dK []/\kvs=[]))/\((∃o,H1 d=some (.az o u)/\R (Ki d o u kvs) H1)\/(H1 d=some u/\∀o,(∀o' v,X.H₀ d≠some (.az o' v))->R (Ki d o u kvs) (aC H1 d (.az o u))))
def yI(hl:PE X l tl)(hbase:autoParam (attributeBase l "items" X.env (eval l X.env)=eval l X.env) RJ) (hline:autoParam ((apos.endLine==cpos.line)=true) RJ):PI X (.Tuple es k0 iR) (.Call (.Attribute l "items" apos) [] [] cpos) (G1 X tl):=by
 intro aa s σ H R I h;refine wpAny_Call_method0_late hbase hline (bV (hl aa s σ H _ I h) λv s1 ⟨x,H1,I1,r1,q1⟩=>?_);obtain⟨d,kvs,u,e,hu,q⟩:=q1;subst e;cases r1;have gs:fE u:=by rcases hu with rfl|⟨rfl,_⟩<;>exact True.intro
 have fin:∀(o:Obj)(H2:Hp),Inv X aa σ H2 s1->H2 d=some (.az o u)->R (Ki d o u kvs) H2->MethodOn X.prog X.w X.A "items" cpos (.ref d) [] (λv s1=>wX X (pyIter v) (JJ X aa σ (.Tuple es k0 iR) R) X.xe s1) X.xe s1:=λo H2 I2 e2 q2=>by
  obtain⟨eo,_⟩:=(show ObjOk X.prog X.w H2 s1.heap d (.az o u)from I2.aG d _ e2);have key:∀{H h},HOk X.prog X.w H h->H d=some (.az o u)->(d==sysModules)=false/\∃(en:Array DictEntry)(ep:Nat),o.ExactDict/\o.data=.dict en ep/\en.size=kvs.length/\∀(i:Nat) p,kvs[i]?=some p->∃e b,en[i]?=some e/\e.key=.ref b/\H b=some (.tup (p.1.map kV))/\RelV p.2 e.val:=λ{H h} ok e=>by
   obtain⟨eo,hx⟩:=(show ObjOk X.prog X.w H h d (.az o u)from ok d _ e);rcases hu with rfl|⟨rfl,rfl⟩
   .obtain⟨_,hd,xs,rel,o',en,ep,eo',hex,hdat,hes,_,_⟩:=k7 ok (.inr ⟨o,e⟩);rw[eo]at eo';cases eo';refine⟨hd,en,ep,hex,hdat,by rw[size_of_entries hes,Pw rel],λi p hp=>?_⟩;have hl:i<xs.length:=by rw[<- Pw rel];exact(bE.mp hp).1
    have hx:xs[i]?=some xs[i]:=by simp[hl]
    obtain⟨_,hb,rv⟩:=rel.at i _ _ hp hx;exact⟨_,_,by rw[entry_at hes,hx];rfl,rfl,hb,rv⟩
   .obtain⟨_,hd,vs,rel,o',en,ep,eo',hex,hdat,_,hpr,_⟩:=kZ ok (.inr ⟨o,e⟩);rw[eo]at eo';cases eo';cases rel;cases he:en.toList with
    |nil=>exact⟨hd,en,ep,hex,hdat,by rw[<- p7,he];rfl,λi p e=>by simp at e⟩
    |cons _ _=>rw[he]at hpr;cases hpr
  obtain⟨hd,en,ep,hex,hdat,bN,_⟩:=key I2.aG e2;refine yH (J:=Ki d o u kvs) I2 e2 hd hex hdat (λi H h=>h.1) (λi H h=>⟨h.1,by rw[bN];exact h.2⟩) (λH h ok i g=>?_) q2;obtain⟨_,en',ep',_,hdat',_,f⟩:=key ok g.1;rw[hdat]at hdat';cases hdat';obtain⟨_,g⟩ : _/\i<kvs.length:=g;have hk:kvs[i]?=some kvs[i]:=by simp[g]
  obtain⟨e,b,h1,h2,h3,h4⟩:=f i _ hk;exact⟨e,.ref b,kvs[i].2,h1,h2,h4,λp hp=>⟨p,b,_,_,hp,rfl,h3,rfl,hk⟩⟩
 rcases q with⟨o,e1,q⟩|⟨e1,q⟩
 .exact fin o H1 I1 e1 q
 .have hob:∃o,s1.heap.get? d=some o:=by
   rcases hu with rfl|⟨rfl,_⟩
   .obtain⟨_,_,_,_,o,_,_,ho,_⟩:=(show ObjOk X.prog X.w H1 s1.heap d (.dT kvs)from I1.aG d _ e1);exact⟨o,ho⟩
   .obtain⟨_,_,_,_,o,_,_,ho,_⟩:=(show ObjOk X.prog X.w H1 s1.heap d (.dK [])from I1.aG d _ e1);exact⟨o,ho⟩
  obtain⟨o,ho⟩:=hob;exact fin o _ (I1.az e1 gs ho) ag (q o (I1.F8 e1 gs))
end
section
def AE:List V->Hp->VK->Prop:=λxs H Q=>∃d kvs u,xs=[.ref d]/\(u=.dK kvs\/(u=.dT []/\kvs=[]))/\Rd H d u/\kvs.length<=sizeLine/\∀l,H l=none->Q (.ref l) (aC H l (.lst (kvs.map λp=>kV p.1)))
theorem wK:∀{vs:List V}{its:List Rz},vs.length=its.length->(∀(i:Nat) v u,vs[i]?=some v->its[i]?=some u->RelV v u)->Vals vs its
 |[],[],_,_=>.nil
 |[],_::_,e,_=>by cases e
 |_::_,[],e,_=>by cases e
 |v::vs,u::its,e,f=>.cons (f 0 v u rfl rfl) (wK (by simpa using e) λi w z a b=>f (i+1) w z (by simpa using a) (by simpa using b))
def vy(hc:X.calm=true):CallR X (.type "list") AE:=by
 intro aa s σ H xs us Q I r h;obtain⟨d,kvs,u,rfl,hu,hrd,hz,q⟩:=h;obtain⟨w,rfl,rx⟩:=eJ r;cases rx;have hx:=hrd.ok I.aG;have key:(d==sysModules)=false/\∃vs,KV kvs vs/\s.heap.DictOf (aq X.prog X.w) d vs:=by
  rcases hu with rfl|⟨rfl,rfl⟩
  .obtain⟨z,hd,vs,rel,dd⟩:=hx;exact⟨hd,vs,rel,dd⟩
  .obtain⟨hd,dd⟩:=mR hx;exact⟨hd,[],.nil,dd⟩
 obtain⟨hd,vs,rel,dd⟩:=key;obtain⟨ep,da⟩:=dd.dictAt;have hl:=rel.length;refine PySem.W.kdl_call (PySem.W.kdl_dict (knd:=aq X.prog X.w) (kvs:=vs) (ep:=ep) hd) (I.ok.hd hc) da (by rw[<- hl];exact hz) λh' tk acc c' kp e it=>?_;obtain⟨i1,i2⟩:=it;have la:acc.toList.length=kvs.length:=by rw[p7,i1,hl]
 have rv:Vals (kvs.map λp=>kV p.1) acc.toList:=by
  refine wK (by rw[cM,la]) λi v w ev ew=>?_;rw[ol]at ev;cases ek:kvs[i]? with
  |none=>rw[ek]at ev;cases ev
  |some p=>rw[ek]at ev;cases ev;obtain⟨k,x,e1,e2⟩:=i2 i w (by rw[<- gA];exact ew);obtain⟨ek',_⟩:=rel.at i _ _ ek e1;show RelV (kV p.1) w;rw[show p.1=k from ek'];exact wz e2
 have e:h'.get? s.heap.objs.size=some { cls:=.type "list",dict:=none,data:=.seq acc.toList.toArray c',slots:=#[] }:=by rw[Array.toArray_toList];exact e
 exact⟨.ref s.heap.objs.size,_,I.laid (t':=tk) kp (cN _) (show ObjOk X.prog X.w _ h' _ (.lst (kvs.map λp=>kV p.1))from⟨by rw[cM];exact hz,acc.toList,c',rv,e⟩),rfl,q _ (I.aG.fresh (cN _))⟩
end
end L2
namespace L2
open PySem PySem.Spec PyProof.Rows
open Sem (wp)
open Builtin
open Sem (wp)
open Builtin
noncomputable def ng(kts:List (Addr×List V))(a:Addr)(o:Obj)(ns:List Int):Hp:=λb=>match kts.lookup b with
 |some xs=>some (.tup xs)
 |none=>if b=a then some (.az o (.lst (ns.map V.int)))else none
section
def Du(e:kts.lookup b=some xs):ng kts a o ns b=some (.tup xs):=by unfold ng;rw[e]
def Dv(e:kts.lookup a=none):ng kts a o ns a=some (.az o (.lst (ns.map V.int))):=by unfold ng;rw[e];exact ck rfl
def Dw(e:kts.lookup b=none)(n:b≠a):ng kts a o ns b=none:=by unfold ng;rw[e];exact cO n
end
theorem jv:∀{vs:List Rz}{ns:List Int},IntsAre vs ns->Vals (ns.map V.int) vs
 |_,_,.nil=>.nil
 |_,_,.cons n t h=>.cons ⟨t,rfl⟩ (jv h)
def yJ{P:Ry}{w:World}{K:Rx}{mg mb:Str->Option Rz}{CX:CH}{k:Nat}{fa a:Addr}{fd:FuncData}{x:Str}{sp:Sp}{s₁:Rv}{vs:List Rz}{ns:List Int}{kts:List (Addr×List V)}
 (KX:K.In s₁.heap) (hns:s₁.heap.Ns mainGlobals mg) (hb:s₁.heap.Ns builtinsNs mb) (hbb:∀x:Str,x≠"__name__"->mb x=bootBuiltins x) (hlim:s₁.heap.NoLimit) (hg:s₁.gens=#[])
 (ha:s₁.heap.get? a=some { cls:=.type "list",data:=.seq vs.toArray }) (hi:IntsAre vs ns) (hl:ns.length<=sizeLine) (hr:gC k callerA)
 (hK:∀o,K.lookup a=some o->o.cls=.type "list"->False)
 (hT:∀b xs,kts.lookup b=some xs->K.lookup b=none/\∃(o:Obj)(its:Array Rz)(n:Nat),s₁.heap.get? b=some o/\o.cls=.type "tuple"/\o.data=.seq its n/\its.size<=sizeLine/\Vals xs its.toList)
 (hM:∀p∈K,∀b xs,Gf p.2=some (b,xs)->kts.lookup b=some xs)
 (F:∀base:Heap,K.In base->base.Ns mainGlobals mg->cS P w K mg base CX k fa fd [x] sp) (hbind:∀(s:Rv)(u:Rz),BindsTo s fd ⟨[u],[]⟩ [(x,u)])
 (hsp:∀H:Hp,(∃o,H a=some (.az o (.lst (ns.map V.int))))->sp [.ref a] H (λv _=>v=.bl true) λ_ _ _=>False)
 (hCX:∀H e s',CX [] H s₁ (λ_ _ _=>False) e s'->False) :
 codeAny (model P w) callerA (.call (.ref fa) ⟨[.ref a],[]⟩) (λr s'=>r=.ok (.ret (.bool true))/\OldK s₁.heap s'.heap/\s'.os=s₁.os/\AllBare s'.gens) s₁:=by
 have rv:=jv hi;have noK:K.lookup a=none:=by
  cases q:K.lookup a with
  |none=>rfl
  |some o=>have e:=KX a o q;rw[ha]at e;cases e;exact(hK _ q rfl).elim
 have noT:kts.lookup a=none:=by
  cases q:kts.lookup a with
  |none=>rfl
  |some xs=>obtain⟨_,o,its,n,e,c,_⟩:=hT a xs q;rw[ha]at e;cases e;exact absurd c (by simp)
 obtain⟨ob,eob⟩ : ∃ob:Obj,ob={ cls:=.type "list",data:=.seq vs.toArray }:=⟨_,rfl⟩;rw[<- eob]at ha;generalize eH:ng kts a ob ns=H;have Ha:H a=some (.az ob (.lst (ns.map V.int))):=by rw[<- eH];exact Dv noT
 have Ht:∀b xs,kts.lookup b=some xs->H b=some (.tup xs):=λb xs e=>by rw[<- eH];exact Du e
 have Hn:∀b,kts.lookup b=none->b≠a->H b=none:=λb e n=>by rw[<- eH];exact Dw e n
 have freeK:∀b o,K.lookup b=some o->H b=none:=λb o e=>by
  refine Hn b ?_ λz=>by rw[z,noK]at e;cases e
  cases q:kts.lookup b with
  |none=>rfl
  |some xs=>rw[(hT b xs q).1]at e;cases e
 have freeD:∀(b:Addr)(o:Obj)(es:Array DictEntry)(ep:Nat),s₁.heap.get? b=some o->o.data=.dict es ep->H b=none:=λb o es ep e d=>by
  refine Hn b ?_ λz=>?_
  .cases q:kts.lookup b with
   |none=>rfl
   |some xs=>obtain⟨_,o',its,n,e',_,d',_⟩:=hT b xs q;rw[e]at e';cases e';rw[d]at d';cases d'
  .rw[z,ha]at e;cases e;rw[eob]at d;cases d
 have nsK:∀{b:Addr}{m:Str->Option Rz},s₁.heap.Ns b m->(rY s₁.heap H).Ns b m:=λ{b m} ⟨o,es,ep,e,d,r⟩=>⟨o,es,ep,rZ e (freeD b o es ep e d),d,r⟩;have hKb:K.In (rY s₁.heap H):=λb o e=>rZ (KX b o e) (freeK b o e);have hMd:Mod K mg (rY s₁.heap H):=⟨hKb,nsK hns,⟨mb,nsK hb,hbb⟩,let ⟨mc,h1,h2⟩:=hlim;⟨mc,nsK h1,h2⟩⟩;have aG:HOk P w H s₁.heap:=λb u e=>by
  cases q:kts.lookup b with
  |some xs=>rw[Ht b xs q]at e;cases e;obtain⟨_,o,its,n,e1,c,d,z,r⟩:=hT b xs q;refine⟨by rw[r.length];simpa using z,its.toList,r,o,e1,c,n,by simpa using d⟩
  |none=>
   by_cases hba:b=a
   .rw[hba,Ha]at e;cases e;rw[hba];exact⟨ha,by rw[cM];exact hl,vs,_,rv,by rw[ha,eob]⟩
   .rw[Hn b q hba]at e;cases e
 have e0:Fa P w K mg (rY s₁.heap H) callerA [] s₁ H:=⟨rfl,hMd,λb o e=>CO e,Nat.le_of_eq (yf _ _),trivial,λb hb=>absurd (show b∈([]:List Addr)from hb) (by simp),aG,.of_eq hg,λp hp b xs e=>Ht b xs (hM p hp b xs e)⟩;refine Q6 ((F _ hKb (nsK hns)).run callerA [] s₁ H ⟨[.ref a],[]⟩ [.ref a] [.ref a] _ _ hr e0 (hbind s₁ (.ref a)) (.cons rfl .nil) (hsp H ⟨ob,Ha⟩)) λr s' h=>?_;cases r with
 |error e=>exact(hCX H e s' h).elim
 |ok fl=>
  cases fl with
  |next=>exact False.elim h
  |brk=>exact False.elim h
  |cont=>exact False.elim h
  |ret u=>
   obtain⟨v,H',os,bare,un,hok',r',q⟩:=h;have q':v=.bl true:=q;subst q';obtain rfl:u=Value.bool true:=r';refine⟨rfl,OldK.of_keep λb o e=>?_,os,bare⟩;by_cases hba:b=a
   .rw[hba]at e ⊢;have z2:=un.l_ a ob _ Ha;obtain⟨e2,_⟩:=hok' a _ z2;rw[ha]at e;cases e;exact e2
   .refine un.keep b o e ?_ (by intro z;exact absurd (show b∈([]:List Addr)from z) (by simp)) (by simp);cases q:kts.lookup b with
    |none=>exact .inl (Hn b q hba)
    |some xs=>exact .inr ⟨xs,Ht b xs q⟩
section
variable{K K':Rx}
def MI(K:Rx):Bool:=K.all λp=>(Gf p.2).isNone
structure wb(K K':Rx):Prop where
 look:∀b o,K.lookup b=some o->(∀its n,o.data≠.seq its n)->K'.lookup b=some o
def yK:wb K K:=⟨λ_ _ e _=>e⟩
def wb.code(S:wb K K')(h:codeIn K cd q=true):codeIn K' cd q=true:=by
 unfold codeIn at h ⊢;cases cd with
 |ref c=>
  dsimp only at h ⊢;cases e:K.lookup c with
  |none=>rw[e]at h;cases h
  |some o=>
   obtain⟨o1,o2,o3,o4⟩:=o;cases o3 with
   |fields vs=>rw[S.look c _ e (λ_ _ z=>nomatch z)];rw[e]at h;exact h
   |_=>rw[e]at h;cases h
 |_=>cases h
def wb.keep(S:wb K K')(e:K.lookup f=some ⟨o1,o2,.func fd,o4⟩):keepIn K' (.ref f)=true:=by unfold keepIn;dsimp only;rw[S.look f _ e (λ_ _ z=>nomatch z)]
end
noncomputable def wL:Rz->Bool
 |.type n=>n=="list"
 |_=>false
def MJ(K:Rx):Bool:=K.all λp=>!wL p.2.cls
theorem AF:∀{K:Rx},MJ K=true->K.lookup a=some o->o.cls=.type "list"->False
 |[],_,e,_=>by cases e
 |(b,x)::r,h,e,c=>by
  unfold MJ at h;rw[List.all_cons,Of]at h;rw[PM]at e;split at e
  .cases e;rw[c]at h;have h1:=h.1;simp[wL]at h1
  .exact AF (K:=r) h.2 e c
section
variable{l:PySem.W.OpenLaw}{K:Params->Rx}{CX:World->CH}{sp:World->Sp}
def AG(hn:l.most=some n)(hn2:n<=sizeLine)(hdf:d.params.defaults=[])(hr:gC k callerA)(hY:∀(w:World)(h:Heap),YP w h->(K w.params).In h)
 (hL:∀w:World,MJ (K w.params)=true/\MI (K w.params)=true)
 (F:∀(w:World)(mg:Str->Option Rz)(fa:Addr)(h:Heap),(K w.params).In h->h.Ns mainGlobals mg->mg d.name=some (.ref fa)->
   ∃fd:FuncData,(∀(s:Rv)(u:Rz),BindsTo s fd ⟨[u],[]⟩ [(x,u)])/\∀base:Heap,(K w.params).In base->base.Ns mainGlobals mg->cS l.prog w (K w.params) mg base (CX w) k fa fd [x] (sp w))
 (hsp:∀(w:World)(H:Hp)(a:Addr)(ns:List Int),ns.length<=n->(∃o,H a=some (.az o (.lst (ns.map V.int))))->sp w [.ref a] H (λv _=>v=.bl true) λ_ _ _=>False)
 (hCX:∀(w:World)(H:Hp)(s:Rv)(e:Rz)(s':Rv),CX w [] H s (λ_ _ _=>False) e s'->False) :
 PySem.W.WalkO q loose XP YP l.row.toRowW d [] (λf vs=>PySem.call f vs):=by
 refine Att.attach_call hn hdf λw s₀ s₁ mg mb fa o pm cd doc a vs ns G Y ho hd hcd hmg hobj hints bN hg=>?_;have KX:=hY w _ Y;obtain⟨fd,hb,hF⟩:=F w mg fa _ KX G.T.g hmg;exact yJ (kts:=[]) KX G.T.g G.T.b G.T.builtins G.T.nolimit hg hobj hints (lN bN hn2) hr (λo e c=>AF (hL w).1 e c) (λb xs e=>by cases e)
  (λp hp b xs e=>by have:=Om.mp (hL w).2 p hp;rw[e]at this;cases this) hF hb (λH hS=>hsp w H a ns bN hS) λH e s'=>hCX w H s₁ e s'
end
end L2
namespace L2
open PySem PySem.Spec PySem.Calls PyProof.Rows
abbrev NK:=List (Sum bu (List bu))
section
variable(P:Ry)(w:World)
inductive gM(h:Heap):NK->List Rz->Prop
 |nil:gM h [] []
 |val {k:bu} {v:Rz} {ks:NK} {vs:List Rz}:(aq P w).is k v=true->gM h ks vs->gM h (.inl k::ks) (v::vs)
 |tup {k:List bu} {b:Addr} {ks:NK} {vs:List Rz}:(tupleKind (aq P w)).is h k b->gM h ks vs->gM h (.inr k::ks) (.ref b::vs)
def IsN(h:Heap)(ks:NK)(a:Addr):Prop:=∃o items n,h.get? a=some o/\o.cls=.type "tuple"/\o.data=.seq items n/\gM P w h ks items.toList
def zI:Sum bu (List bu)->Int
 |.inl k=>(aq P w).hash k
 |.inr ks=>tupleKeyHash (aq P w) ks
noncomputable def Kj:Sum bu (List bu)->Nat
 |.inl _=>1
 |.inr ks=>ks.length+1
def nDrs(ks:NK):Nat:=(ks.map Kj).sum
end
section
variable{P:Ry}{w:World}{h h':Heap}{A:RA}{E:Rz->Rv->Prop}{s:Rv}
theorem gM.inj(hx:gM P w h x vs)(hy:gM P w h y vs):x=y:=by
 induction hx generalizing y with
 |nil=>cases hy;rfl
 |val h1 _ ih=>
  cases hy with
  |val h2 t2=>rw[(aq P w).inj _ _ _ h1 h2,ih t2]
  |tup h2 t2=>exact absurd ((aq P w).byValue _ _ h1) (by simp[carriedByValue])
 |tup h1 _ ih=>
  cases hy with
  |val h2 t2=>exact absurd ((aq P w).byValue _ _ h2) (by simp[carriedByValue])
  |tup h2 t2=>rw[(tupleKind (aq P w)).inj h1 h2,ih t2]
def gM.len(hx:gM P w h x vs):x.length=vs.length:=by
 induction hx with
 |nil=>rfl
 |val _ _ ih=>simp[ih]
 |tup _ _ ih=>simp[ih]
def gM.mono(m:∀k b,(tupleKind (aq P w)).is h k b->(tupleKind (aq P w)).is h' k b)(hx:gM P w h x vs):gM P w h' x vs:=by
 induction hx with
 |nil=>exact .nil
 |val a _ ih=>exact .val a ih
 |tup a _ ih=>exact .tup (m _ _ a) ih
def IsN.ty(x:IsN P w s.heap ks a):s.TypeIs (.ref a) "tuple":=let ⟨o,_,_,ho,hc,_⟩:=x;⟨o,ho,hc⟩
theorem IsN.inj(hx:IsN P w h x a)(hy:IsN P w h y a):x=y:=by obtain⟨o,items,n,ho,_,hd,hi⟩:=hx;obtain⟨o',items',n',ho',_,hd',hi'⟩:=hy;obtain rfl:o=o':=Oi (ho.symm.trans ho');rw[hd]at hd';injection hd' with h1 _;subst h1;exact hi.inj hi'
theorem IsN.keeps{es ep}(x:IsN P w h ks a)(ho:h.get? d=some o)(hd:o.data=.dict es ep)(hs:Heap.SameBut d h h'):IsN P w h' ks a:=by
 obtain⟨o',items,n,ho',hc,hd',hi⟩:=x;have hne:a≠d:=by rintro rfl;obtain rfl:o'=o:=Oi (ho'.symm.trans ho);rw[hd]at hd';exact nomatch hd'
 exact⟨o',items,n,(hs.2 a hne).trans ho',hc,hd',hi.mono λk b z=>(tupleKind (aq P w)).keeps z ho hd hs⟩
def AH(hu:A.units+1<cLine)(hk:IsN P w s.heap ks a)(h:Q (reduceHash (Builtin.Tuple.tupleHashOf (ks.map (zI P w)))) {s with toks:=s.toks+(nDrs ks+1)}) :
 wpAny (model P w) A (pyHash (.ref a)) Q E s:=by
 have hT:=hk.ty;obtain⟨o,items,n,ho,_,hd,hi⟩:=hk;unfold pyHash
 first|unfold pyHashByItsType|skip
 first|refine bo (wpAny_cRoomFor_or (.inr (by lia)) ?_)|skip
 refine bo (Pp hT O6.lookup ?_);show wpAny _ _ (if(some (Value.builtin "tuple.__hash__")==some Value.none)=true then _ else _) Q E s;rw[cO (by rw[beq_builtin_none];exact Pe)];refine bo (Pp hT O6.lookup ?_);show wpAny _ _ (callSpecialIfBoundUnlessNone? (.ref a) "__hash__" _ >>= _) Q E s;refine bo (wpAny_callSpecialIfBoundUnlessNone?_slot hT O6 (Ow O6 hT PySem.F.entry_tuple_hash ?_ (PySem.F.args_tuple_hash_1 _)));show wpAny _ _ (Builtin.Tuple.tupleItemsOf (.ref a) >>= _) _ _ s;refine bo (wpAny_tupleItemsOf ho hd ?_);refine bo ?_;rw[<- PR];refine PJ _
  (λaX (b:Array Int) s'=>∃done left,ks=done++left/\gM P w s.heap left aX/\b.toList=done.map (zI P w)/\s'={s with toks:=s.toks+nDrs done})
  _ ?_ ?_ _ _ ⟨[],ks,rfl,hi,rfl,rfl⟩
 .rintro x aX b s' ⟨done,left,rfl,hl,hb,rfl⟩;cases hl with
  |@val k _ ks' _ h1 hl'=>
   refine bo ((aq P w).pyHash h1 ?_)
   first
    |exact bF ⟨done++[.inl k],ks',by simp,hl',by simp[hb,zI],by simp[nDrs,Kj,P4]⟩
    |exact bo (bF (bF ⟨done++[.inl k],ks',by simp,hl',by simp[hb,zI],by simp[nDrs,Kj,P4]⟩))
  |@tup k c ks' _ h1 hl'=>
   refine bo ((tupleKind (aq P w)).pyHash (show A.units+1<cLine from hu) h1 ?_)
   first
    |exact bF ⟨done++[.inr k],ks',by simp,hl',by simp[hb,zI];rfl,by simp[nDrs,Kj,P4];rfl⟩
    |exact bo (bF (bF ⟨done++[.inr k],ks',by simp,hl',by simp[hb,zI];rfl,by simp[nDrs,Kj,P4];rfl⟩))
 .rintro b s' ⟨done,left,rfl,hl,hb,rfl⟩;cases hl;rw[Oo]at h;show wpAny _ _ (retInt (Builtin.Tuple.tupleHashOf b.toList)) _ _ _;rw[hb];refine wpAny_ret_mkInt ?_;show wpAny _ _ (if(decide (-(2:Int)^63<=Builtin.Tuple.tupleHashOf (done.map (zI P w)))&&decide (Builtin.Tuple.tupleHashOf (done.map (zI P w))<2^63))=true then _ else _) Q E _;unfold reduceHash at h;by_cases hr:(decide (-(2:Int)^63<=Builtin.Tuple.tupleHashOf (done.map (zI P w)))&&decide (Builtin.Tuple.tupleHashOf (done.map (zI P w))<2^63))=true
  .rw[ck hr];rw[ck hr]at h;exact bF (by simpa[P4]using h)
  .rw[cO hr];rw[cO hr]at h;exact bo (Q1 (bF (by simpa[P4]using h)))
end
def wM{α:Type}[DecidableEq α]:∀(x y:List α),((List.range (min x.length y.length)).all (λj=>decide (x[j]?=y[j]?))&&x.length==y.length)=decide (x=y):=by
 intro x y;rw[Pb];simp only[Of,Om,N8,O0,beq_iff_eq];constructor
 .rintro⟨h,l⟩;apply ON
  intro j;by_cases hj:j<min x.length y.length
  .exact h j hj
  .rw[Og (by lia),Og (by lia)]
 .rintro rfl;exact⟨λ_ _=>rfl,rfl⟩
section
variable{P:Ry}{w:World}{h h':Heap}{A:RA}{E:Rz->Rv->Prop}{s:Rv}
def tf(h1:(aq P w).is x u=true)(h2:(aq P w).is y v=true):SeqAt.EqAt A s u v (decide (x=y)):=by
 have ii:∀i j:Int,decide ((Sum.inl i:bu)=Sum.inl j)=(i==j):=λi j=>by by_cases e:i=j<;>simp[e]
 have ss:∀i j:Str,decide ((Sum.inr i:bu)=Sum.inr j)=(i==j):=λi j=>by by_cases e:i=j<;>simp[e]
 rcases aH (show gO x u=true from h1)with⟨i,t,rfl,rfl⟩|⟨i,t,rfl,rfl⟩<;>rcases aH (show gO y v=true from h2)with⟨j,t',rfl,rfl⟩|⟨j,t',rfl,rfl⟩
 .rw[ii];exact .int_int i t j t'
 .exact .int_str i t j t'
 .exact .str_int i t j t'
 .rw[ss];exact .str_str i t j t'
def wN{α:Type}[DecidableEq α]{R:α->Rz->Prop}{x y:List α}{xs ys:Array Rz}(lx:x.length=xs.size)(ly:y.length=ys.size)(hx:∀(j:Nat)(k:α)(z:j<xs.size),x[j]?=some k->R k xs[j])(hy:∀(j:Nat)(k:α)(z:j<ys.size),y[j]?=some k->R k ys[j])
 (he:∀k l u v,R k u->R l v->SeqAt.EqAt A s u v (decide (k=l))):∀j (z1:j<xs.size) (z2:j<ys.size),SeqAt.EqAt A s xs[j] ys[j] (decide (x[j]?=y[j]?)):=by
 intro j z1 z2;have k1:j<x.length:=by lia
 have k2:j<y.length:=by lia
 have g1:x[j]?=some x[j]:=by simp[k1]
 have g2:y[j]?=some y[j]:=by simp[k2]
 have e:decide (x[j]?=y[j]?)=decide (x[j]=y[j]):=by rw[g1,g2];by_cases q:x[j]=y[j]<;>simp[q]
 rw[e];exact he _ _ _ _ (hx j _ z1 g1) (hy j _ z2 g2)
def pB(h:ItemsAre (aq P w) k vs):∀(j:Nat)(x:bu)(v:Rz),k[j]?=some x->vs[j]?=some v->(aq P w).is x v=true:=by
 induction h with
 |nil=>intro j x v e;simp at e
 |cons a _ ih=>
  intro j x v e e';cases j with
  |zero=>simp at e e';subst e;subst e';exact a
  |succ j=>exact ih j x v (by simpa using e) (by simpa using e')
def Dx(hu:A.units<cLine)(hx:(tupleKind (aq P w)).is s.heap x a)(hy:(tupleKind (aq P w)).is s.heap y b):SeqAt.EqAt A s (.ref a) (.ref b) (decide (x=y)):=by
 by_cases e:a=b
 .subst e;obtain rfl:=(tupleKind (aq P w)).inj hx hy;rw[db rfl];exact SeqAt.EqAt.same _
 .obtain⟨o1,i1,n1,q1,c1,d1,r1⟩:=hx;obtain⟨o2,i2,n2,q2,c2,d2,r2⟩:=hy;have l1:x.length=i1.size:=by rw[r1.length];simp
  have l2:y.length=i2.size:=by rw[r2.length];simp
  have z:=SeqAt.RcAt.tuples (s:=s) (A:=A) (l:=a) (b:=b) ⟨o1,q1,c1,n1,d1⟩ ⟨o2,q2,c2,n2,d2⟩ hu (wN (A:=A.in1) l1 l2 (λj k z e=>pB r1 j k _ e (by simp[z])) (λj k z e=>pB r2 j k _ e (by simp[z])) λk l u v=>tf);rw[<- l1,<- l2,wM]at z;exact SeqAt.EqAt.of_refs e z
def MK(P:Ry)(w:World)(h:Heap):Sum bu (List bu)->Rz->Prop
 |.inl k,v=>(aq P w).is k v=true
 |.inr k,v=>∃b,v=.ref b/\(tupleKind (aq P w)).is h k b
def gM.at'(h':gM P w h k vs):∀(j:Nat)(x:Sum bu (List bu))(v:Rz),k[j]?=some x->vs[j]?=some v->MK P w h x v:=by
 induction h' with
 |nil=>intro j x v e;simp at e
 |val a _ ih=>
  intro j x v e e';cases j with
  |zero=>simp at e e';subst e;subst e';exact a
  |succ j=>exact ih j x v (by simpa using e) (by simpa using e')
 |tup a _ ih=>
  intro j x v e e';cases j with
  |zero=>simp at e e';subst e;subst e';exact⟨_,rfl,a⟩
  |succ j=>exact ih j x v (by simpa using e) (by simpa using e')
def AI(hx:(tupleKind (aq P w)).is h x a):∃its,h.IsTuple a its:=let ⟨o1,i1,n1,q1,c1,d1,_⟩:=hx;⟨i1,o1,q1,c1,n1,d1⟩
def AJ(hu:A.units<cLine)(hx:MK P w s.heap x u)(hy:MK P w s.heap y v):SeqAt.EqAt A s u v (decide (x=y)):=by
 cases x with
 |inl x=>
  cases y with
  |inl y=>
   have e:decide ((Sum.inl x:Sum bu (List bu))=Sum.inl y)=decide (x=y):=by by_cases q:x=y<;>simp[q]
   rw[e];exact tf hx hy
  |inr y=>
   obtain⟨b,rfl,hb⟩:=hy;obtain⟨its,p⟩:=AI hb;rcases aH (show gO x u=true from hx)with⟨i,t,rfl,rfl⟩|⟨i,t,rfl,rfl⟩
   .exact .int_tuple i t p hu
   .exact .str_tuple i t p hu
 |inr x=>
  obtain⟨a,rfl,ha⟩:=hx;cases y with
  |inl y=>
   obtain⟨its,p⟩:=AI ha;rcases aH (show gO y v=true from hy)with⟨i,t,rfl,rfl⟩|⟨i,t,rfl,rfl⟩
   .exact .tuple_int i t p hu
   .exact .tuple_str i t p hu
  |inr y=>
   obtain⟨b,rfl,hb⟩:=hy;have e:decide ((Sum.inr x:Sum bu (List bu))=Sum.inr y)=decide (x=y):=by by_cases q:x=y<;>simp[q]
   rw[e];exact Dx hu ha hb
def G2(hu:A.units+1<cLine)(hx:IsN P w s.heap x a)(hy:IsN P w s.heap y b):SeqAt.EqAt A s (.ref a) (.ref b) (decide (x=y)):=by
 by_cases e:a=b
 .subst e;obtain rfl:=hx.inj hy;rw[db rfl];exact SeqAt.EqAt.same _
 .obtain⟨o1,i1,n1,q1,c1,d1,r1⟩:=hx;obtain⟨o2,i2,n2,q2,c2,d2,r2⟩:=hy;have l1:x.length=i1.size:=by rw[r1.len];simp
  have l2:y.length=i2.size:=by rw[r2.len];simp
  have z:=SeqAt.RcAt.tuples (s:=s) (A:=A) (l:=a) (b:=b) ⟨o1,q1,c1,n1,d1⟩ ⟨o2,q2,c2,n2,d2⟩ (by lia) (wN (A:=A.in1) l1 l2 (λj k z e=>r1.at' j k _ e (by simp[z])) (λj k z e=>r2.at' j k _ e (by simp[z])) λk l u v=>AJ (show A.units+1<cLine from hu));rw[<- l1,<- l2,wM]at z;exact SeqAt.EqAt.of_refs e z
def AK(n:Nat)(hk:(tupleKind (aq P w)).is s.heap k a)(h:Q true s):wpAny (model P w) A (eqIsQuiet (n+1) (.ref a)) Q E s:=by
 have hT:=IsTupleKey.typeIs hk;obtain⟨o,items,n,ho,_,hd,hi⟩:=hk;unfold eqIsQuiet;refine bo (Pp hT PySem.F.slot_tuple_eq.lookup ?_);show wpAny _ _ (isInstance (.ref a) (.type "tuple") >>= _) _ _ s;refine bo (Qd hT isSubtype_tuple_tuple ?_);simp only[OH,gy,Oh];refine bo (Rc ho hd ?_);refine bo ?_;show wpAny _ _ (forIn items _ _) _ _ s;rw[<- PR];refine PJ _ (λaX r s'=>r.1=none/\s'=s/\∀v∈aX,carriedByValue v=true) _ ?_ ?_ _ _ ⟨rfl,rfl,hi.byValue⟩
 .rintro v aX r s' ⟨hr,rfl,hall⟩;rw[eqIsQuiet_byValue _ (hall v uB)];refine bo (bF ?_);simp only[OH,gy,Oh];exact bF ⟨rfl,rfl,λu hu'=>hall u (CF _ hu')⟩
 .rintro⟨r1,r2⟩ s' ⟨hr,rfl,_⟩;simp only at hr;subst hr;exact bF h
def Dy(hk:IsN P w s.heap k a)(h:Q true s):wpAny (model P w) A (eqIsQuiet 8 (.ref a)) Q E s:=by
 have hT:=hk.ty;obtain⟨o,items,n,ho,_,hd,hi⟩:=hk;unfold eqIsQuiet;refine bo (Pp hT PySem.F.slot_tuple_eq.lookup ?_);show wpAny _ _ (isInstance (.ref a) (.type "tuple") >>= _) _ _ s;refine bo (Qd hT isSubtype_tuple_tuple ?_);simp only[OH,gy,Oh];refine bo (Rc ho hd ?_);refine bo ?_;show wpAny _ _ (forIn items _ _) _ _ s;rw[<- PR];refine PJ _ (λaX r s'=>r.1=none/\s'=s/\∃ks,gM P w s.heap ks aX) _ ?_ ?_ _ _ ⟨rfl,rfl,k,hi⟩
 .rintro v aX r s' ⟨hr,rfl,ks,hl⟩;cases hl with
  |val h1 h2=>rw[eqIsQuiet_byValue _ ((aq P w).byValue _ _ h1)];refine bo (bF ?_);simp only[OH,gy,Oh];exact bF ⟨rfl,rfl,_,h2⟩
  |tup h1 h2=>refine bo (AK 6 h1 ?_);simp only[OH,gy,Oh];exact bF ⟨rfl,rfl,_,h2⟩
 .rintro⟨r1,r2⟩ s' ⟨hr,rfl,_⟩;simp only at hr;subst hr;exact bF h
end
def k8(P:Ry)(w:World):HeapKind P w NK where
 is:=IsN P w
 hash:=λks=>reduceHash (Builtin.Tuple.tupleHashOf (ks.map (zI P w)))
 draws:=λks=>nDrs ks+1
 room:=λA=>A.units+1<cLine
 inj:=λhx hy=>hx.inj hy
 keeps:=λx ho hd hs=>x.keeps ho hd hs
 pyHash:=λhu hk h=>AH hu hk h
 eqBool:=λhu hx hy h=>G2 hu hx hy _ _ _ _ h
 quiet:=λhk h=>Dy hk h
noncomputable abbrev K0:=Sum Int (List Int)
noncomputable def oF(ks:List (List K0))(k:List K0):Bool:=ks.any λx=>decide (x=k)
noncomputable def tj:K0->Sum bu (List bu)
 |.inl i=>.inl (.inl i)
 |.inr l=>.inr (l.map Sum.inl)
noncomputable def NO:K0->Int
 |.inl i=>hashInt i
 |.inr l=>reduceHash (Builtin.Tuple.tupleHashOf (l.map hashInt))
def ML(k:List K0):Int:=reduceHash (Builtin.Tuple.tupleHashOf (k.map NO))
abbrev NX:=List (List K0×Addr×Rz)
def qE(a:Addr)(xs:NX)(h:Heap):Prop:=∃o es ep,h.get? a=some o/\o.ExactDict/\o.data=.dict es ep/\es.toList=xs.map (λx=>⟨ML x.1,.ref x.2.1,x.2.2⟩)/\(xs.map (·.1)).Nodup
noncomputable def NVs(H:Hp):List K0->List V->Prop
 |[],vs=>vs=[]
 |.inl i::ks,vs=>∃r,vs=.int i::r/\NVs H ks r
 |.inr l::ks,vs=>∃c r,vs=.ref c::r/\H c=some (.tup (l.map V.int))/\NVs H ks r
def KeyN(H:Hp)(k:List K0)(b:Addr):Prop:=∃vs,H b=some (.tup vs)/\NVs H k vs
def Kk(H:Hp)(T:Addr->Prop)(v:V)(ks:List (List K0)):Prop:=∃a xs,v=.ref a/\H a=some (.ext (qE a xs))/\(∀b,T b↔b=a)/\(a==sysModules)=false/\xs.length<=sizeLine/\ks=xs.map (·.1)/\∀x∈xs,KeyN H x.1 x.2.1
section
variable{H H':Hp}
theorem NVs.mono(kt:∀b vs,H b=some (.tup vs)->H' b=some (.tup vs)):∀{k:List K0}{vs:List V},NVs H k vs->NVs H' k vs
 |[],_,h=>h
 |.inl i::ks,_,⟨r,e,h⟩=>⟨r,e,NVs.mono kt h⟩
 |.inr l::ks,_,⟨c,r,e,e2,h⟩=>⟨c,r,e,kt _ _ e2,NVs.mono kt h⟩
theorem KeyN.mono(kt:∀b vs,H b=some (.tup vs)->H' b=some (.tup vs))(h:KeyN H k b):KeyN H' k b:=let ⟨vs,e,q⟩:=h;⟨vs,kt _ _ e,q.mono kt⟩
def nh(kT:∀b o,T b->H b=some o->H' b=some o)(kt:∀b vs,H b=some (.tup vs)->H' b=some (.tup vs))(h:Kk H T v ks):Kk H' T v ks:=by obtain⟨a,xs,e,e1,e2,e3,e4,e5,e6⟩:=h;exact⟨a,xs,e,kT a _ ((e2 a).mpr rfl) e1,e2,e3,e4,e5,λx hx=>(e6 x hx).mono kt⟩
end
section
variable{P:Ry}{w:World}{H:Hp}{h:Heap}{a:Addr}
def Dz{a b:K0}(h:tj a=tj b):a=b:=by
 have li:∀x y:List Int,x.map (Sum.inl:Int->bu)=y.map Sum.inl->x=y:=λx y e=>(List.map_inj_right λ_ _ z=>PB z).mp e;cases a<;>cases b<;>simp only[tj,Sum.inl.injEq,Sum.inr.injEq,reduceCtorEq]at h
 .rw[h]
 .rw[li _ _ h]
def nk{a b:List K0}(h:a.map tj=b.map tj):a=b:=(List.map_inj_right λ_ _ z=>Dz z).mp h
def AL(k:List K0):(k8 P w).hash (k.map tj)=ML k:=by
 show reduceHash (Builtin.Tuple.tupleHashOf ((k.map tj).map (zI P w)))=_;rw[v9];unfold ML;congr 2;apply Ot;intro x _;cases x with
 |inl i=>rfl
 |inr l=>show reduceHash (Builtin.Tuple.tupleHashOf ((l.map Sum.inl).map (Jv w)))=_;rw[v9];rfl
theorem qF(ok:HOk P w H h):∀{k:List K0}{vs:List V}{its:List Rz},NVs H k vs->Vals vs its->gM P w h (k.map tj) its
 |[],_,_,e,r=>by cases e;cases r;exact .nil
 |.inl i::ks,_,_,⟨r,e,q⟩,z=>by
  subst e;cases z with
  |cons z1 z2=>obtain⟨t,rfl⟩:=z1;exact .val (oR i t) (qF ok q z2)
 |.inr l::ks,_,_,⟨c,r,e,hc,q⟩,z=>by
  subst e;cases z with
  |cons z1 z2=>cases z1;refine .tup (eL ok ?_) (qF ok q z2);rw[hc,v9];rfl
def qG(ok:HOk P w H h)(q:KeyN H k b):(k8 P w).is h (k.map tj) b:=by obtain⟨vs,e,q⟩:=q;obtain⟨_,its,r,o,h1,h2,n,h3⟩:=(show ObjOk P w H h b (.tup vs)from ok b _ e);exact⟨o,its.toArray,n,h1,h2,h3,by simpa using qF ok q r⟩
def yL(xs:NX):List (NK×Addr×Rz):=xs.map λx=>(x.1.map tj,x.2)
def wO(ok:HOk P w H h){xs:NX}(d:qE a xs h)(ks:∀x∈xs,KeyN H x.1 x.2.1):h.DictOfH (k8 P w) a (yL xs):=by
 obtain⟨o,es,ep,h1,h2,h3,h4,h5⟩:=d;refine⟨o,es,ep,h1,h2,h3,?_,λx hx=>?_,?_⟩
 .rw[h4];unfold yL;rw[v9];apply Ot;intro x _;show _=entryOfKey (k8 P w) (x.1.map tj,x.2);unfold entryOfKey;rw[AL]
 .obtain⟨y,hy,rfl⟩:=j3.mp hx;exact qG ok (ks y hy)
 .unfold yL;rw[v9];exact Oc.mpr ((Oc.mp h5).imp λz e=>z (nk e))
def DA(d:h.DictOfH (k8 P w) a (yL xs)):qE a xs h:=by
 obtain⟨o,es,ep,h1,h2,h3,h4,_,h5⟩:=d;refine⟨o,es,ep,h1,h2,h3,?_,?_⟩
 .rw[h4];unfold yL;rw[v9];apply Ot;intro x _;show entryOfKey (k8 P w) (x.1.map tj,x.2)=_;unfold entryOfKey;rw[AL]
 .unfold yL at h5;rw[v9]at h5;exact Oc.mpr ((Oc.mp h5).imp λz e=>z (N7 (List.map tj) e))
def tq(xs:NX)(k:List K0):(atKey (yL xs) (k.map tj)).isSome=oF (xs.map (·.1)) k:=by
 unfold atKey yL;rw[Rk,Pb,List.find?_isSome];unfold oF;simp only[PN,j3,O0];constructor
 .rintro⟨_,⟨x,hx,rfl⟩,e⟩;exact⟨_,⟨x,hx,rfl⟩,nk e⟩
 .rintro⟨_,⟨x,hx,rfl⟩,rfl⟩;exact⟨_,⟨x,hx,rfl⟩,rfl⟩
def kr(xs:NX)(k:List K0)(b:Addr)(v:Rz):NX:=if oF (xs.map (·.1)) k then xs.map (λx=>if x.1=k then(x.1,x.2.1,v)else x)else xs++[(k,b,v)]
def yM(xs:NX)(k:List K0)(b:Addr)(v:Rz):storedH (yL xs) (k.map tj) b v=yL (kr xs k b v):=by
 unfold storedH kr;rw[tq];by_cases hk:oF (xs.map (·.1)) k=true
 .rw[ck hk,ck hk];unfold yL;rw[v9,v9];apply Ot;intro x _;show putAt (k.map tj) v (x.1.map tj,x.2)=_;unfold putAt;by_cases e:x.1=k
  .rw[ck (by rw[e])];simp[e]
  .rw[cO λz=>e (nk z)];simp[e]
 .rw[cO hk,cO hk];unfold yL;rw[N4];rfl
def yN(ks:List (List K0))(k:List K0):List (List K0):=if oF ks k then ks else ks++[k]
def yO(xs:NX)(k:List K0)(b:Addr)(v:Rz):(kr xs k b v).map (·.1)=yN (xs.map (·.1)) k:=by
 unfold kr yN;split
 .rw[v9];apply Ot;intro x _;show(if x.1=k then(x.1,x.2.1,v)else x).1=x.1;split<;>rfl
 .rw[N4];rfl
def AM{Pr:List K0->Addr->Prop}(h:∀x∈xs,Pr x.1 x.2.1)(hk:Pr k b):∀x∈kr xs k b v,Pr x.1 x.2.1:=by
 intro x hx;unfold kr at hx;split at hx
 .obtain⟨y,hy,rfl⟩:=j3.mp hx;split
  .exact h y hy
  .exact h y hy
 .rcases gZ.mp hx with z|z
  .exact h x z
  .simp at z;subst z;exact hk
def AN(xs:NX)(k:List K0)(b:Addr)(v:Rz):(kr xs k b v).length<=xs.length+1:=by unfold kr;split<;>simp
end
section
variable{X:Cx}{aa:List (Addr×Obj)}{σ:St}{H:Hp}{s:Rv}{a b:Addr}{xs:NX}{k:List K0}{A:RA}{E:Rz->Rv->Prop}
def Fx(I:Inv X aa σ H s)(e:H a=some (.ext (qE a xs))):qE a xs s.heap:=(show ObjOk X.prog X.w H s.heap a (.ext (qE a xs))from I.aG a _ e).1
def Fy(d:qE a xs h):ObjOk P w H h a (.ext (qE a xs)):=⟨d,let ⟨o,_,_,q,_⟩:=d;⟨o,q⟩,λh1 h2 ⟨o,es,ep,q,r⟩ k=>⟨o,es,ep,k _ q,r⟩⟩
def Kl(hu:A.units+2<cLine)(I:Inv X aa σ H s)(e:H a=some (.ext (qE a xs)))(hd:(a==sysModules)=false)(ks:∀x∈xs,KeyN H x.1 x.2.1)(hk:KeyN H k b)(h:∀s',Inv X aa σ H s'->Q (.bool (oF (xs.map (·.1)) k)) s') :
 wpAny (model X.prog X.w) A (compareOp .In (.ref b) (.ref a)) Q E s:=by
 refine wpAny_in_heap (knd:=k8 X.prog X.w) (show A.units+1+1<cLine by lia) (qG I.aG hk) hd (wO I.aG (Fx I e) ks) ?_;rw[tq];exact h _ (I.tok _)
def G3(hu:A.units+2<cLine)(I:Inv X aa σ H s)(e:H a=some (.ext (qE a xs)))(hz:xs.length<=sizeLine)(ks:∀x∈xs,KeyN H x.1 x.2.1)(hk:KeyN H k b)
 (h:∀s',Inv X aa σ (aC H a (.ext (qE a (kr xs k b r)))) s'->Q () s'):wpAny (model X.prog X.w) A (setItem (.ref a) (.ref b) r) Q E s:=by
 refine wpAny_setItem_heap (knd:=k8 X.prog X.w) (hsz:=by unfold yL;rw[cM];exact hz) (show A.units+1+1<cLine by lia) (qG I.aG hk) (wO I.aG (Fx I e) ks) λh' dd' hs=>h _ ?_;rw[yM]at dd';have nd:=DA dd';exact mj I (by rw[e];exact True.intro) hs (let ⟨q,_,_,hq,_⟩:=nd;⟨q,hq⟩) (Fy nd)
def G4:TE:=λ_ H Q=>∀p,H p=none->(p==sysModules)=false->Q (.ref p) (aC H p (.ext (qE p [])))
def AO:PE X (.Dict [] [] pos) G4:=λaa s σ H Q I h=>
 wpAny_Dict_empty ⟨.ref s.heap.objs.size,_,I.laid (a:=s.heap.objs.size) (o:=.ext (qE s.heap.objs.size [])) (t':=s.toks) (λ_ _ q=>cj _ q) (cN _)
  (Fy ⟨_,#[],0,jY _ rfl,⟨rfl,rfl,rfl⟩,rfl,rfl,Pj⟩),rfl,h _ (I.aG.fresh (cN _)) (beq_eq_false_iff_ne.mpr (Oz (N9 I.big)))⟩
end
section
variable{X:Cx}{value o i:Expr}{td ty tv:TE}{pos pos':Pos}
def Km(td ty tv:TE):TS:=λD σ H=>tv σ H λv H1=>td σ H1 λx H2=>ty σ H2 λy H3=>∃a b xs k,x=.ref a/\y=.ref b/\H3 a=some (.ext (qE a xs))/\xs.length<=sizeLine/\(∀x∈xs,KeyN H3 x.1 x.2.1)/\KeyN H3 k b/\∀r,D.nx σ (aC H3 a (.ext (qE a (kr xs k b r))))
def DB(hu:X.A.units+2<cLine)(ho:PE X o td)(hi:PE X i ty)(hv:PE X value tv)(hs:swapsWith value (some (.Subscript o i pos')) pos.line X.env=pure false) :
 PS X (.Assign [.Subscript o i pos'] value pos) (Km td ty tv):=by
 intro aa s σ H D I h;refine wpAny_Assign_Subscript (bV (hv aa s σ H _ I h) λr s1 ⟨v,H1,I1,rv,q1⟩=>bV (ho aa s1 σ H1 _ I1 q1) λu s2 ⟨x,H2,I2,rx,q2⟩=>bV (hi aa s2 σ H2 _ I2 q2) λiv s3 ⟨y,H3,I3,ry,a,b,xs,k,ex,ey,e1,e2,e3,e4,q3⟩=>?_) hs;subst ex ey;obtain rfl:u=Value.ref a:=rx;obtain rfl:iv=Value.ref b:=ry;exact G3 hu I3 e1 e2 e3 e4 λs4 I4=>⟨σ,_,I4,q3 r⟩
def Ko:R2:=λx y H Q=>∃a b xs k,y=.ref a/\x=.ref b/\H a=some (.ext (qE a xs))/\(a==sysModules)=false/\(∀x∈xs,KeyN H x.1 x.2.1)/\KeyN H k b/\Q (.bl (oF (xs.map (·.1)) k)) H
end
end L2
namespace L3
open PySem PySem.Spec PyProof.Rows L2
abbrev DK:=Sum bu (List bu)
inductive D where
 |fU|bl (b:Bool)|int (i:Int)|str (x:Str)|tup (ds:List D)|lst (ds:List D)|bp (ks:List DK) (ds:List D)
mutual
noncomputable def D.flat:D->Bool
 |.lst _=>false
 |.bp _ _=>false
 |.tup ds=>D.ba ds
 |_=>true
noncomputable def D.ba:List D->Bool
 |[]=>true
 |d::ds=>d.flat&&D.ba ds
end
mutual
noncomputable def D.dep:D->Nat
 |.lst ds=>D.fA ds+1
 |.tup ds=>D.fA ds+1
 |.bp _ ds=>D.fA ds+1000
 |_=>0
noncomputable def D.fA:List D->Nat
 |[]=>0
 |d::ds=>max d.dep (D.fA ds)
end
mutual
noncomputable def fF:D->D->Bool
 |.fU,e=>match e with|.fU=>true|_=>false
 |.bl a,e=>match e with|.bl b=>a==b|.int b=>(if a then 1 else 0)==b|_=>false
 |.int a,e=>match e with|.int b=>a==b|.bl b=>a==(if b then 1 else 0)|_=>false
 |.str a,e=>match e with|.str b=>a==b|_=>false
 |.tup as,e=>match e with|.tup bs=>eqDs as bs|_=>false
 |.lst as,e=>match e with|.lst bs=>eqDs as bs|_=>false
 |.bp ks as,e=>match e with|.bp ls bs=>decide (ks=ls)&&eqDs as bs|_=>false
noncomputable def eqDs:List D->List D->Bool
 |[],bs=>match bs with|[]=>true|_=>false
 |a::as,bs=>match bs with|b::r=>fF a b&&eqDs as r|[]=>false
end
mutual
theorem eR:∀d:D,fF d d=true
 |.fU=>rfl
 |.bl a=>by simp[fF]
 |.int a=>by simp[fF]
 |.str a=>by simp[fF]
 |.tup as=>by simp only[fF];exact eqDs_refl as
 |.lst as=>by simp only[fF];exact eqDs_refl as
 |.bp ks as=>by simp only[fF,decide_true,Bool.true_and];exact eqDs_refl as
theorem eqDs_refl:∀ds:List D,eqDs ds ds=true
 |[]=>rfl
 |d::ds=>by simp only[eqDs,eR d,eqDs_refl ds,Rn]
end
def DAt(H:Hp)(a:Addr)(ks:List DK)(vs:List V):Prop:=(∃kvs:List (bu×V),Rd H a (.dK kvs)/\ks=kvs.map (λp=>.inl p.1)/\vs=kvs.map Prod.snd)\/∃kvs:List (List bu×V),Rd H a (.dT kvs)/\ks=kvs.map (λp=>.inr p.1)/\vs=kvs.map Prod.snd
noncomputable def G8:HO->Prop
 |.lst _=>True
 |.dK _=>True
 |.dT _=>True
 |.ext _=>True
 |_=>False
def Mu(H:Hp)(a:Addr):Prop:=∃o,H a=some o/\G8 o
theorem Mu.lst(h:H a=some (.lst vs)):Mu H a:=⟨_,h,True.intro⟩
def Mu.same(h:Mu H a)(s:∀o,H a=some o->H' a=some o):Mu H' a:=let ⟨o,e,m⟩:=h;⟨o,s o e,m⟩
def Mu.some(h:Mu H a):H a≠none:=by obtain⟨o,e,_⟩:=h;rw[e];simp
def Fz(h:Rd H a u):∃o,H a=some o:=h.elim (λe=>⟨_,e⟩) λ⟨_,e⟩=>⟨_,e⟩
def jb(h:Rd H a u)(s:∀o,H a=some o->H' a=some o):Rd H' a u:=h.imp (s _) λ⟨o,e⟩=>⟨o,s _ e⟩
def DAt.obj(h:DAt H a ks vs):∃o,H a=some o:=h.elim (λ⟨_,e,_⟩=>Fz e) λ⟨_,e,_⟩=>Fz e
def DAt.mu(h:DAt H a ks vs)(n:∀o u,H a≠some (.az o u)):Mu H a:=by rcases h with⟨kvs,e|⟨o,e⟩,_⟩|⟨kvs,e|⟨o,e⟩,_⟩<;>first|exact⟨_,e,True.intro⟩|exact(n _ _ e).elim
def DAt.keep(h:DAt H a ks vs)(s:∀o,H a=some o->H' a=some o):DAt H' a ks vs:=h.imp (λ⟨kvs,e,r⟩=>⟨kvs,jb e s,r⟩) λ⟨kvs,e,r⟩=>⟨kvs,jb e s,r⟩
def DAt.inj(h:DAt H a ks vs)(g:DAt H a ls ws):ks=ls/\vs=ws:=by rcases h with⟨k1,e1|⟨o1,e1⟩,r1,r2⟩|⟨k1,e1|⟨o1,e1⟩,r1,r2⟩<;>rcases g with⟨k2,e2|⟨o2,e2⟩,q1,q2⟩|⟨k2,e2|⟨o2,e2⟩,q1,q2⟩<;>(rw[e1]at e2;cases e2;try exact⟨r1.trans q1.symm,r2.trans q2.symm⟩)
noncomputable def MN:HO->Prop
 |.dK _=>False
 |.dT _=>False
 |.az _ (.dK _)=>False
 |.az _ (.dT _)=>False
 |_=>True
def DAt.no(h:DAt H a ks vs)(e:H a=some o)(n:MN o):False:=by rcases h with⟨k,z|⟨o',z⟩,_⟩|⟨k,z|⟨o',z⟩,_⟩<;>(rw[e]at z;cases z;exact n)
mutual
noncomputable def Is(H:Hp)(m:Addr->Prop):D->V->Prop
 |.fU,v=>v=.fU
 |.bl b,v=>v=.bl b
 |.int i,v=>v=.int i
 |.str x,v=>v=.str x
 |.tup ds,v=>∃a vs,v=.ref a/\H a=some (.tup vs)/\IsAll H m ds vs
 |.lst ds,v=>∃a vs,v=.ref a/\((H a=some (.lst vs)/\m a)\/∃o,H a=some (.az o (.lst vs))/\m a)/\IsAll H m ds vs
 |.bp ks ds,v=>∃a vs,v=.ref a/\(DAt H a ks vs/\m a)/\IsAll H m ds vs
noncomputable def IsAll(H:Hp)(m:Addr->Prop):List D->List V->Prop
 |[],vs=>vs=[]
 |d::ds,vs=>∃v r,vs=v::r/\Is H m d v/\IsAll H m ds r
end
noncomputable def dE:HO->Prop
 |.tup _=>True
 |.az _ _=>True
 |_=>False
section
mutual
theorem Is.mono(kp:∀a o,H a=some o->(m a\/dE o)->H' a=some o)(mm:∀a o,H a=some o->m a->m' a):∀{d:D}{v:V},Is H m d v->Is H' m' d v
 |.fU,_,h=>h
 |.bl _,_,h=>h
 |.int _,_,h=>h
 |.str _,_,h=>h
 |.tup ds,_,h=>by obtain⟨a,vs,e,h1,h2⟩:=h;exact⟨a,vs,e,kp a _ h1 (.inr True.intro),IsAll.mono kp mm h2⟩
 |.lst ds,_,h=>by
  obtain⟨a,vs,e,h1,h2⟩:=h;refine⟨a,vs,e,?_,IsAll.mono kp mm h2⟩;rcases h1 with⟨h1,h3⟩|⟨o,h1,h3⟩
  .exact .inl ⟨kp a _ h1 (.inl h3),mm a _ h1 h3⟩
  .exact .inr ⟨o,kp a _ h1 (.inr True.intro),mm a _ h1 h3⟩
 |.bp ks ds,_,h=>by obtain⟨a,vs,e,h1,h2⟩:=h;obtain⟨o,eo⟩:=h1.1.obj;exact⟨a,vs,e,⟨h1.1.keep λo e=>kp a o e (.inl h1.2),mm a o eo h1.2⟩,IsAll.mono kp mm h2⟩
theorem IsAll.mono(kp:∀a o,H a=some o->(m a\/dE o)->H' a=some o)(mm:∀a o,H a=some o->m a->m' a):∀{ds:List D}{vs:List V},IsAll H m ds vs->IsAll H' m' ds vs
 |[],_,h=>h
 |d::ds,_,h=>by obtain⟨v,r,e,h1,h2⟩:=h;exact⟨v,r,e,Is.mono kp mm h1,IsAll.mono kp mm h2⟩
end
def Is.weak(mm:∀a,m a->m' a)(h:Is H m d v):Is H m' d v:=h.mono (λ_ _ e _=>e) λa _ _=>mm a
def IsAll.weak(mm:∀a,m a->m' a)(h:IsAll H m ds vs):IsAll H m' ds vs:=h.mono (λ_ _ e _=>e) λa _ _=>mm a
def Is.same(s:Same H H')(h:Is H m d v):Is H' m d v:=h.mono (λa o e _=>s a o e) λ_ _ _ z=>z
def IsAll.same(s:Same H H')(h:IsAll H m ds vs):IsAll H' m ds vs:=h.mono (λa o e _=>s a o e) λ_ _ _ z=>z
mutual
theorem Is.flat:∀{d:D}{v:V},d.flat=true->Is H m d v->Is H m' d v
 |.fU,_,_,h=>h
 |.bl _,_,_,h=>h
 |.int _,_,_,h=>h
 |.str _,_,_,h=>h
 |.tup ds,_,f,h=>by obtain⟨a,vs,e,h1,h2⟩:=h;exact⟨a,vs,e,h1,IsAll.flat (by simpa only[D.flat]using f) h2⟩
 |.lst ds,_,f,_=>by simp[D.flat]at f
 |.bp ks ds,_,f,_=>by simp[D.flat]at f
theorem IsAll.flat:∀{ds:List D}{vs:List V},D.ba ds=true->IsAll H m ds vs->IsAll H m' ds vs
 |[],_,_,h=>h
 |d::ds,_,f,h=>by obtain⟨v,r,e,h1,h2⟩:=h;simp only[D.ba,Of]at f;exact⟨v,r,e,Is.flat f.1 h1,IsAll.flat f.2 h2⟩
end
mutual
theorem Is.inj:∀{d e:D}{v:V},Is H m d v->Is H m' e v->d=e
 |.fU,e,_,h,g=>by cases e<;>first|rfl|(cases h;first|(obtain⟨_,_,z,_⟩:=g;cases z;done)|cases g)
 |.bl _,e,_,h,g=>by cases e<;>(cases h;first|(obtain⟨_,_,z,_⟩:=g;cases z;done)|(cases g;rfl)|cases g)
 |.int _,e,_,h,g=>by cases e<;>(cases h;first|(obtain⟨_,_,z,_⟩:=g;cases z;done)|(cases g;rfl)|cases g)
 |.str _,e,_,h,g=>by cases e<;>(cases h;first|(obtain⟨_,_,z,_⟩:=g;cases z;done)|(cases g;rfl)|cases g)
 |.tup ds,e,_,h,g=>by
  obtain⟨a,vs,rfl,h1,h2⟩:=h;cases e with
  |tup es=>obtain⟨b,ws,z,g1,g2⟩:=g;cases z;rw[h1]at g1;cases g1;rw[IsAll.inj h2 g2]
  |lst es=>obtain⟨b,ws,z,g1,g2⟩:=g;cases z;rcases g1 with⟨g1,_⟩|⟨o,g1,_⟩<;>(rw[h1]at g1;cases g1)
  |bp ls es=>obtain⟨b,ws,z,g1,g2⟩:=g;cases z;exact(g1.1.no h1 True.intro).elim
  |_=>cases g
 |.lst ds,e,_,h,g=>by
  obtain⟨a,vs,rfl,h1,h2⟩:=h;cases e with
  |tup es=>obtain⟨b,ws,z,g1,g2⟩:=g;cases z;rcases h1 with⟨h1,_⟩|⟨o,h1,_⟩<;>(rw[h1]at g1;cases g1)
  |lst es=>
   obtain⟨b,ws,z,g1,g2⟩:=g;cases z;have e:vs=ws:=by rcases h1 with⟨h1,_⟩|⟨o,h1,_⟩<;>rcases g1 with⟨g1,_⟩|⟨o',g1,_⟩<;>(rw[h1]at g1;cases g1;try rfl)
   subst e;rw[IsAll.inj h2 g2]
  |bp ls es=>obtain⟨b,ws,z,g1,g2⟩:=g;cases z;rcases h1 with⟨h1,_⟩|⟨o,h1,_⟩<;>exact(g1.1.no h1 True.intro).elim
  |_=>cases g
 |.bp ks ds,e,_,h,g=>by
  obtain⟨a,vs,rfl,h1,h2⟩:=h;cases e with
  |tup es=>obtain⟨b,ws,z,g1,g2⟩:=g;cases z;exact(h1.1.no g1 True.intro).elim
  |lst es=>obtain⟨b,ws,z,g1,g2⟩:=g;cases z;rcases g1 with⟨g1,_⟩|⟨o,g1,_⟩<;>exact(h1.1.no g1 True.intro).elim
  |bp ls es=>obtain⟨b,ws,z,g1,g2⟩:=g;cases z;obtain⟨e1,e2⟩:=h1.1.inj g1.1;subst e1 e2;rw[IsAll.inj h2 g2]
  |_=>cases g
theorem IsAll.inj:∀{ds es:List D}{vs:List V},IsAll H m ds vs->IsAll H m' es vs->ds=es
 |[],es,_,h,g=>by
  cases h;cases es with
  |nil=>rfl
  |cons e es=>obtain⟨_,_,z,_⟩:=g;cases z
 |d::ds,es,_,h,g=>by
  obtain⟨v,r,rfl,h1,h2⟩:=h;cases es with
  |nil=>cases g
  |cons e es=>obtain⟨w,q,z,g1,g2⟩:=g;cases z;rw[Is.inj h1 g1,IsAll.inj h2 g2]
end
theorem IsAll.length:∀{ds:List D}{vs:List V},IsAll H m ds vs->vs.length=ds.length
 |[],_,h=>by cases h;rfl
 |d::ds,_,h=>by obtain⟨v,r,rfl,_,h2⟩:=h;simp[IsAll.length h2]
theorem IsAll.append:∀{ds es:List D}{vs ws:List V},IsAll H m ds vs->IsAll H m es ws->IsAll H m (ds++es) (vs++ws)
 |[],_,_,_,h,g=>by cases h;exact g
 |d::ds,_,_,_,h,g=>by obtain⟨v,r,rfl,h1,h2⟩:=h;exact⟨v,r++_,rfl,h1,IsAll.append h2 g⟩
def IsAll.snoc(h:IsAll H m ds vs)(g:Is H m d v):IsAll H m (ds++[d]) (vs++[v]):=h.append ⟨v,[],rfl,g,rfl⟩
theorem IsAll.get:∀{ds:List D}{vs:List V}{i:Nat}{d:D},IsAll H m ds vs->ds[i]?=some d->∃v,vs[i]?=some v/\Is H m d v
 |[],_,_,_,_,e=>by simp at e
 |d::ds,_,0,_,h,e=>by obtain⟨v,r,rfl,h1,h2⟩:=h;simp at e;subst e;exact⟨v,rfl,h1⟩
 |d::ds,_,i+1,_,h,e=>by obtain⟨v,r,rfl,h1,h2⟩:=h;obtain⟨w,a,b⟩:=IsAll.get (i:=i) h2 (by simpa using e);exact⟨w,by simpa using a,b⟩
theorem IsAll.set:∀{ds:List D}{vs:List V}{d:D}{v:V}(i:Nat),IsAll H m ds vs->Is H m d v->IsAll H m (ds.set i d) (vs.set i v)
 |[],_,_,_,_,h,_=>by cases h;exact rfl
 |x::ds,_,d,v,0,h,g=>by obtain⟨w,r,rfl,h1,h2⟩:=h;exact⟨v,r,rfl,g,h2⟩
 |x::ds,_,d,v,i+1,h,g=>by obtain⟨w,r,rfl,h1,h2⟩:=h;exact⟨w,r.set i v,rfl,h1,IsAll.set i h2 g⟩
theorem IsAll.take:∀{ds:List D}{vs:List V}(n:Nat),IsAll H m ds vs->IsAll H m (ds.take n) (vs.take n)
 |_,_,0,_=>rfl
 |[],_,n+1,h=>by cases h;exact rfl
 |d::ds,_,n+1,h=>by obtain⟨v,r,rfl,h1,h2⟩:=h;exact⟨v,r.take n,rfl,h1,IsAll.take n h2⟩
theorem IsAll.drop:∀{ds:List D}{vs:List V}(n:Nat),IsAll H m ds vs->IsAll H m (ds.drop n) (vs.drop n)
 |_,_,0,h=>h
 |[],_,n+1,h=>by cases h;exact rfl
 |d::ds,_,n+1,h=>by obtain⟨v,r,rfl,h1,h2⟩:=h;exact IsAll.drop n h2
end
section
variable{s:Rv}{m m':Addr->Prop}
def G9(ok:HOk P w H s.heap)(h:(H a=some (.lst vs)/\m a)\/∃o,H a=some (.az o (.lst vs))/\m a) :
 ∃its:List Rz,Vals vs its/\s.heap.IsList a its.toArray:=by
 have key:ObjOk P w H s.heap a (.lst vs)->∃its:List Rz,Vals vs its/\s.heap.IsList a its.toArray:=λ⟨_,its,n,r,e⟩=>⟨its,r,⟨_,e,rfl,n,rfl⟩⟩;rcases h with⟨h,_⟩|⟨o,h,_⟩
 .exact key (ok a _ h)
 .exact key (ok a _ h).2
def G_(ok:HOk P w H s.heap)(h:H a=some (.tup vs)):∃its:List Rz,Vals vs its/\s.heap.IsTuple a its.toArray:=by obtain⟨_,its,r,e⟩:=ok a _ h;exact⟨its,r,e⟩
def yP(n:Nat)(e:Nat->Bool):(List.range n).all e=true↔∀j,j<n->e j=true:=by simp[Om,N8]
theorem np:∀(ds es:List D),eqDs ds es=true↔ds.length=es.length/\∀(j:Nat)(d e:D),ds[j]?=some d->es[j]?=some e->fF d e=true
 |[],[]=>by simp[eqDs]
 |[],e::es=>by simp[eqDs]
 |d::ds,[]=>by simp[eqDs]
 |d::ds,e::es=>by
  simp only[eqDs,Of,np ds es,lO,Nat.add_right_cancel_iff];constructor
  .rintro⟨h1,h2,h3⟩;refine⟨h2,λj x y ex ey=>?_⟩;cases j with
   |zero=>simp at ex ey;subst ex;subst ey;exact h1
   |succ j=>exact h3 j x y (by simpa using ex) (by simpa using ey)
  .rintro⟨h2,h3⟩;exact⟨h3 0 d e rfl rfl,h2,λj x y ex ey=>h3 (j+1) x y (by simpa using ex) (by simpa using ey)⟩
theorem d9:∀{ds:List D}{j:Nat}{d:D},ds[j]?=some d->d.dep<=D.fA ds
 |[],_,_,e=>by simp at e
 |d::ds,0,_,e=>by simp at e;subst e;simp only[D.fA];lia
 |d::ds,j+1,x,e=>by have:=d9 (ds:=ds) (j:=j) (d:=x) (by simpa using e);simp only[D.fA];lia
def qH(ok:HOk P w H s.heap){A:RA}{ds es:List D}(h1:IsAll H m ds vs)(h2:IsAll H m' es ws)(r1:Vals vs its)(r2:Vals ws its2)
 (rec:∀d∈ds,∀e∈es,∀(v w:V)(u u':Rz),Is H m d v->Is H m' e w->RelV v u->RelV w u'->SeqAt.EqAt A.in1 s u u' (fF d e)) :
 ∀j (z1:j<its.toArray.size) (z2:j<its2.toArray.size),SeqAt.EqAt A.in1 s its.toArray[j] its2.toArray[j] (match ds[j]?,es[j]? with|some d,some e=>fF d e|_,_=>true):=by
 intro j z1 z2;have l1:=r1.length;have l2:=r2.length;have l3:=h1.length;have l4:=h2.length;have y1:j<its.length:=by simpa using z1
 have y2:j<its2.length:=by simpa using z2
 have k1:j<ds.length:=by lia
 have k2:j<es.length:=by lia
 obtain⟨v,ev,iv⟩:=h1.get (i:=j) (d:=ds[j]) (by simp[k1]);obtain⟨v',ev',iv'⟩:=h2.get (i:=j) (d:=es[j]) (by simp[k2]);obtain⟨u,eu,ru⟩:=r1.get ev;obtain⟨u',eu',ru'⟩:=r2.get ev'
 grind
theorem vz(hl:ds.length=es.length) :
 ((List.range ds.length).all λj=>match ds[j]?,es[j]? with|some d,some e=>fF d e|_,_=>true)=eqDs ds es:=by
 rw[Pb,yP,np];constructor
 .intro h;refine⟨hl,λj d e ed ee=>?_⟩;have:=h j (bE.mp ed).1;rw[ed,ee]at this;exact this
 .rintro⟨_,h⟩ j hj;have e1:ds[j]?=some ds[j]:=by simp[hj]
  have hj':j<es.length:=by lia
  have e2:es[j]?=some es[j]:=by simp[hj']
  rw[e1,e2];exact h j _ _ e1 e2
theorem qI(hl:ds.length≠es.length):eqDs ds es=false:=by grind [eqDs,np]
end
section
variable{s:Rv}
abbrev k9(H:Hp)(s:Rv)(m m':Addr->Prop)(A:RA)(n:Nat):Prop:=∀(d e:D)(v w:V)(u u':Rz),d.dep<n->e.dep<1000->Is H m d v->Is H m' e w->RelV v u->RelV w u'->SeqAt.EqAt A.in1 s u u' (fF d e)
section
def nq(ok:HOk P w H s.heap)(hn:(D.lst l1).dep<=n)(hE:(D.lst l2).dep<1000)(hu:A.units<cLine)(q1:IsAll H m l1 vs1)(q2:IsAll H m' l2 vs2)(y1:Vals vs1 its1)(y2:Vals vs2 its2)(p1:s.heap.IsList a1 its1.toArray)(p2:s.heap.IsList a2 its2.toArray)
 (rec:k9 H s m m' A n):SeqAt.RcAt A s (.ref a1) (.ref a2) (fF (.lst l1) (.lst l2)):=by
 have e1:its1.toArray.size=l1.length:=by rw[cQ,<- y1.length,q1.length]
 have e2:its2.toArray.size=l2.length:=by rw[cQ,<- y2.length,q2.length]
 have hd:∀d∈l1,d.dep<n:=λd hd=>by obtain⟨j,hj⟩:=g4.mp hd;have:=d9 hj;simp only[D.dep]at hn;lia
 have he:∀e∈l2,e.dep<1000:=λd hd=>by obtain⟨j,hj⟩:=g4.mp hd;have:=d9 hj;simp only[D.dep]at hE;lia
 by_cases hl:l1.length=l2.length
 .have z:=SeqAt.RcAt.lists p1 p2 (by rw[e1,e2,hl]) hu (qH ok q1 q2 y1 y2 λd hm e hm2 v w u u' i1 i2 r1 r2=>rec d e v w u u' (hd d hm) (he e hm2) i1 i2 r1 r2);rw[e1,vz hl]at z;exact z
 .have z:=SeqAt.RcAt.lists_lengths p1 p2 (by rw[e1,e2];simpa using hl) hu;rw[show fF (.lst l1) (.lst l2)=eqDs l1 l2 from rfl,qI hl];exact z
def qJ(ok:HOk P w H s.heap)(hn:(D.lst l1).dep<=n)(hE:(D.lst l2).dep<1000)(hu:A.units<cLine)(q1:IsAll H m l1 vs1)(q2:IsAll H m' l2 vs2)(y1:Vals vs1 its1)(y2:Vals vs2 its2)(p1:s.heap.IsList a1 its1.toArray)(p2:s.heap.IsList a2 its2.toArray)
 (rec:k9 H s m m' A n):SeqAt.RcNeAt A s (.ref a1) (.ref a2) (!fF (.lst l1) (.lst l2)):=by
 have e1:its1.toArray.size=l1.length:=by rw[cQ,<- y1.length,q1.length]
 have e2:its2.toArray.size=l2.length:=by rw[cQ,<- y2.length,q2.length]
 have hd:∀d∈l1,d.dep<n:=λd hd=>by obtain⟨j,hj⟩:=g4.mp hd;have:=d9 hj;simp only[D.dep]at hn;lia
 have he:∀e∈l2,e.dep<1000:=λd hd=>by obtain⟨j,hj⟩:=g4.mp hd;have:=d9 hj;simp only[D.dep]at hE;lia
 by_cases hl:l1.length=l2.length
 .have z:=SeqAt.RcNeAt.lists p1 p2 (by rw[e1,e2,hl]) hu (qH ok q1 q2 y1 y2 λd hm e hm2 v w u u' i1 i2 r1 r2=>rec d e v w u u' (hd d hm) (he e hm2) i1 i2 r1 r2);rw[e1,vz hl]at z;exact z
 .have z:=SeqAt.RcNeAt.lists_lengths p1 p2 (by rw[e1,e2];simpa using hl) hu;rw[show fF (.lst l1) (.lst l2)=eqDs l1 l2 from rfl,qI hl];exact z
def wQ:((List.range (min l1.length l2.length)).all (λj=>match l1[j]?,l2[j]? with|some d,some e=>fF d e|_,_=>true)&&l1.length==l2.length)=eqDs l1 l2:=by grind [vz,qI]
def pC(ok:HOk P w H s.heap)(hn:(D.tup l1).dep<=n)(hE:(D.tup l2).dep<1000)(hu:A.units<cLine)(q1:IsAll H m l1 vs1)(q2:IsAll H m' l2 vs2)(y1:Vals vs1 its1)(y2:Vals vs2 its2)(p1:s.heap.IsTuple a1 its1.toArray)(p2:s.heap.IsTuple a2 its2.toArray)
 (rec:k9 H s m m' A n):SeqAt.RcAt A s (.ref a1) (.ref a2) (fF (.tup l1) (.tup l2)):=by
 have e1:its1.toArray.size=l1.length:=by rw[cQ,<- y1.length,q1.length]
 have e2:its2.toArray.size=l2.length:=by rw[cQ,<- y2.length,q2.length]
 have hd:∀d∈l1,d.dep<n:=λd hd=>by obtain⟨j,hj⟩:=g4.mp hd;have:=d9 hj;simp only[D.dep]at hn;lia
 have he:∀e∈l2,e.dep<1000:=λd hd=>by obtain⟨j,hj⟩:=g4.mp hd;have:=d9 hj;simp only[D.dep]at hE;lia
 have z:=SeqAt.RcAt.tuples p1 p2 hu (qH ok q1 q2 y1 y2 λd hm e hm2 v w u u' i1 i2 r1 r2=>rec d e v w u u' (hd d hm) (he e hm2) i1 i2 r1 r2);rw[e1,e2,wQ]at z;exact z
def tu(ok:HOk P w H s.heap)(hn:(D.tup l1).dep<=n)(hE:(D.tup l2).dep<1000)(hu:A.units<cLine)(q1:IsAll H m l1 vs1)(q2:IsAll H m' l2 vs2)(y1:Vals vs1 its1)(y2:Vals vs2 its2)(p1:s.heap.IsTuple a1 its1.toArray)(p2:s.heap.IsTuple a2 its2.toArray)
 (rec:k9 H s m m' A n):SeqAt.RcNeAt A s (.ref a1) (.ref a2) (!fF (.tup l1) (.tup l2)):=by
 have e1:its1.toArray.size=l1.length:=by rw[cQ,<- y1.length,q1.length]
 have e2:its2.toArray.size=l2.length:=by rw[cQ,<- y2.length,q2.length]
 have hd:∀d∈l1,d.dep<n:=λd hd=>by obtain⟨j,hj⟩:=g4.mp hd;have:=d9 hj;simp only[D.dep]at hn;lia
 have he:∀e∈l2,e.dep<1000:=λd hd=>by obtain⟨j,hj⟩:=g4.mp hd;have:=d9 hj;simp only[D.dep]at hE;lia
 have z:=SeqAt.RcNeAt.tuples p1 p2 hu (qH ok q1 q2 y1 y2 λd hm e hm2 v w u u' i1 i2 r1 r2=>rec d e v w u u' (hd d hm) (he e hm2) i1 i2 r1 r2);rw[e1,e2,wQ]at z;exact z
def tw(h:SeqAt.RcAt A s (.ref a1) (.ref a2) k)(hs:a1=a2->k=true):SeqAt.EqAt A s (.ref a1) (.ref a2) k:=by
 by_cases e:a1=a2
 .subst e;rw[hs rfl];exact SeqAt.EqAt.same _
 .exact SeqAt.EqAt.of_refs e h
end
def Is.shape(ok:HOk P w H s.heap)(hE:d.dep<1000)(h:Is H m d v)(r:RelV v u):(d=.fU/\u=.none)\/(∃b,d=.bl b/\u=.bool b)\/(∃i t,d=.int i/\u=.int i t)\/(∃x t,d=.str x/\u=.str x t)\/
 (∃l a vs its,d=.lst l/\v=.ref a/\u=.ref a/\IsAll H m l vs/\Vals vs its/\s.heap.IsList a its.toArray)\/∃l a vs its,d=.tup l/\v=.ref a/\u=.ref a/\IsAll H m l vs/\Vals vs its/\s.heap.IsTuple a its.toArray:=by
 cases d with
 |fU=>cases h;cases r;exact .inl ⟨rfl,rfl⟩
 |bl b=>cases h;cases r;exact .inr (.inl ⟨b,rfl,rfl⟩)
 |int i=>cases h;obtain⟨t,rfl⟩:=r;exact .inr (.inr (.inl ⟨i,t,rfl,rfl⟩))
 |str x=>cases h;obtain⟨t,rfl⟩:=r;exact .inr (.inr (.inr (.inl ⟨x,t,rfl,rfl⟩)))
 |lst l=>obtain⟨a,vs,rfl,g,q⟩:=h;cases r;obtain⟨its,y,p⟩:=G9 ok g;exact .inr (.inr (.inr (.inr (.inl ⟨l,a,vs,its,rfl,rfl,rfl,q,y,p⟩))))
 |tup l=>obtain⟨a,vs,rfl,g,q⟩:=h;cases r;obtain⟨its,y,p⟩:=G_ ok g;exact .inr (.inr (.inr (.inr (.inr ⟨l,a,vs,its,rfl,rfl,rfl,q,y,p⟩))))
 |bp k l=>exact absurd hE (by simp only[D.dep];lia)
def DC(ok:HOk P w H s.heap)(hu:A.units<cLine)(rec:k9 H s m m' A n)(hn:d.dep<=n)(hN:n<1000)(hE:e.dep<1000)(h1:Is H m d v)(h2:Is H m' e w')(r1:RelV v u)(r2:RelV w' u') :
 SeqAt.RcAt A s u u' (fF d e):=by
 rcases h1.shape ok (by lia) r1 with⟨rfl,rfl⟩|⟨b1,rfl,rfl⟩|⟨i1,t1,rfl,rfl⟩|⟨x1,t1,rfl,rfl⟩|⟨l1,a1,vs1,its1,rfl,rfl,rfl,q1,y1,p1⟩|⟨l1,a1,vs1,its1,rfl,rfl,rfl,q1,y1,p1⟩<;>rcases h2.shape ok hE r2 with⟨rfl,rfl⟩|⟨b2,rfl,rfl⟩|⟨i2,t2,rfl,rfl⟩|⟨x2,t2,rfl,rfl⟩|⟨l2,a2,vs2,its2,rfl,rfl,rfl,q2,y2,p2⟩|⟨l2,a2,vs2,its2,rfl,rfl,rfl,q2,y2,p2⟩;exact .none_none;exact .none_bool b2;exact .none_int i2 t2;exact .none_str x2 t2;exact .none_list p2 hu;exact .none_tuple p2 hu;exact .bool_none b1;exact .bool_bool b1 b2;exact .bool_int b1 i2 t2;exact .bool_str b1 x2 t2;exact .bool_list b1 p2 hu;exact .bool_tuple b1 p2 hu;exact .int_none i1 t1;exact .int_bool i1 t1 b2;exact .int_int i1 t1 i2 t2;exact .int_str i1 t1 x2 t2;exact .int_list i1 t1 p2 hu;exact .int_tuple i1 t1 p2 hu;exact .str_none x1 t1;exact .str_bool x1 t1 b2;exact .str_int x1 t1 i2 t2;exact .str_str x1 t1 x2 t2;exact .str_list x1 t1 p2 hu;exact .str_tuple x1 t1 p2 hu;exact .list_none p1 hu;exact .list_bool b2 p1 hu;exact .list_int i2 t2 p1 hu;exact .list_str x2 t2 p1 hu;exact nq ok hn hE hu q1 q2 y1 y2 p1 p2 rec;exact .list_tuple p1 p2 hu;exact .tuple_none p1 hu;exact .tuple_bool b2 p1 hu;exact .tuple_int i2 t2 p1 hu;exact .tuple_str x2 t2 p1 hu;exact .tuple_list p1 p2 hu;exact pC ok hn hE hu q1 q2 y1 y2 p1 p2 rec
def DD(ok:HOk P w H s.heap)(hu:A.units<cLine)(rec:k9 H s m m' A n)(hn:d.dep<=n)(hN:n<1000)(hE:e.dep<1000)(h1:Is H m d v)(h2:Is H m' e w')(r1:RelV v u)(r2:RelV w' u') :
 SeqAt.RcNeAt A s u u' (!fF d e):=by
 rcases h1.shape ok (by lia) r1 with⟨rfl,rfl⟩|⟨b1,rfl,rfl⟩|⟨i1,t1,rfl,rfl⟩|⟨x1,t1,rfl,rfl⟩|⟨l1,a1,vs1,its1,rfl,rfl,rfl,q1,y1,p1⟩|⟨l1,a1,vs1,its1,rfl,rfl,rfl,q1,y1,p1⟩<;>rcases h2.shape ok hE r2 with⟨rfl,rfl⟩|⟨b2,rfl,rfl⟩|⟨i2,t2,rfl,rfl⟩|⟨x2,t2,rfl,rfl⟩|⟨l2,a2,vs2,its2,rfl,rfl,rfl,q2,y2,p2⟩|⟨l2,a2,vs2,its2,rfl,rfl,rfl,q2,y2,p2⟩;exact .none_none;exact .none_bool b2;exact .none_int i2 t2;exact .none_str x2 t2;exact .none_list p2 hu;exact .none_tuple p2 hu;exact .bool_none b1;exact .bool_bool b1 b2;exact .bool_int b1 i2 t2;exact .bool_str b1 x2 t2;exact .bool_list b1 p2 hu;exact .bool_tuple b1 p2 hu;exact .int_none i1 t1;exact .int_bool i1 t1 b2;exact .int_int i1 t1 i2 t2;exact .int_str i1 t1 x2 t2;exact .int_list i1 t1 p2 hu;exact .int_tuple i1 t1 p2 hu;exact .str_none x1 t1;exact .str_bool x1 t1 b2;exact .str_int x1 t1 i2 t2;exact .str_str x1 t1 x2 t2;exact .str_list x1 t1 p2 hu;exact .str_tuple x1 t1 p2 hu;exact .list_none p1 hu;exact .list_bool b2 p1 hu;exact .list_int i2 t2 p1 hu;exact .list_str x2 t2 p1 hu;exact qJ ok hn hE hu q1 q2 y1 y2 p1 p2 rec;exact .list_tuple p1 p2 hu;exact .tuple_none p1 hu;exact .tuple_bool b2 p1 hu;exact .tuple_int i2 t2 p1 hu;exact .tuple_str x2 t2 p1 hu;exact .tuple_list p1 p2 hu;exact tu ok hn hE hu q1 q2 y1 y2 p1 p2 rec
def wR(ok:HOk P w H s.heap)(hu:A.units<cLine)(rec:k9 H s m m' A n)(hn:d.dep<=n)(hN:n<1000)(hE:e.dep<1000)(h1:Is H m d v)(h2:Is H m' e w')(r1:RelV v u)(r2:RelV w' u') :
 SeqAt.EqAt A s u u' (fF d e):=by
 rcases h1.shape ok (by lia) r1 with⟨rfl,rfl⟩|⟨b1,rfl,rfl⟩|⟨i1,t1,rfl,rfl⟩|⟨x1,t1,rfl,rfl⟩|⟨l1,a1,vs1,its1,rfl,rfl,rfl,q1,y1,p1⟩|⟨l1,a1,vs1,its1,rfl,rfl,rfl,q1,y1,p1⟩<;>rcases h2.shape ok hE r2 with⟨rfl,rfl⟩|⟨b2,rfl,rfl⟩|⟨i2,t2,rfl,rfl⟩|⟨x2,t2,rfl,rfl⟩|⟨l2,a2,vs2,its2,rfl,rfl,rfl,q2,y2,p2⟩|⟨l2,a2,vs2,its2,rfl,rfl,rfl,q2,y2,p2⟩;exact .same _;exact .none_bool b2;exact .none_int i2 t2;exact .none_str x2 t2;exact .none_list p2 hu;exact .none_tuple p2 hu;exact .bool_none b1;exact .bool_bool b1 b2;exact .bool_int b1 i2 t2;exact .bool_str b1 x2 t2;exact .bool_list b1 p2 hu;exact .bool_tuple b1 p2 hu;exact .int_none i1 t1;exact .int_bool i1 t1 b2;exact .int_int i1 t1 i2 t2;exact .int_str i1 t1 x2 t2;exact .int_list i1 t1 p2 hu;exact .int_tuple i1 t1 p2 hu;exact .str_none x1 t1;exact .str_bool x1 t1 b2;exact .str_int x1 t1 i2 t2;exact .str_str x1 t1 x2 t2;exact .str_list x1 t1 p2 hu;exact .str_tuple x1 t1 p2 hu;exact .list_none p1 hu;exact .list_bool b2 p1 hu;exact .list_int i2 t2 p1 hu;exact .list_str x2 t2 p1 hu;exact tw (nq ok hn hE hu q1 q2 y1 y2 p1 p2 rec) (λz=>by subst z;rw[Is.inj h1 h2];exact eR _);exact .list_tuple p1 p2 hu;exact .tuple_none p1 hu;exact .tuple_bool b2 p1 hu;exact .tuple_int i2 t2 p1 hu;exact .tuple_str x2 t2 p1 hu;exact .tuple_list p1 p2 hu;exact tw (pC ok hn hE hu q1 q2 y1 y2 p1 p2 rec) (λz=>by subst z;rw[Is.inj h1 h2];exact eR _)
theorem AQ(ok:HOk P w H s.heap):∀(n:Nat)(A:RA){d e:D}{v w':V}{u u':Rz},A.units+n<cLine->n<1000->d.dep<=n->e.dep<1000->Is H m d v->Is H m' e w'->RelV v u->RelV w' u'->SeqAt.EqAt A s u u' (fF d e)
 |0,A,d,e,v,w',u,u',hu,hN,hn,hE,h1,h2,r1,r2=>wR ok (by lia) (λd e v w u u' hd=>absurd hd (by lia)) hn hN hE h1 h2 r1 r2
 |n+1,A,d,e,v,w',u,u',hu,hN,hn,hE,h1,h2,r1,r2=>wR ok (by lia) (λd e v w u u' hd he i1 i2 r1 r2=>AQ ok n A.in1 (by show A.units+1+n<cLine;lia) (by lia) (by lia) he i1 i2 r1 r2) hn hN hE h1 h2 r1 r2
def AR(ok:HOk P w H s.heap)(hu:A.units+n<cLine)(hN:n<1000):k9 H s m m' A n:=λd e v w u u' hd he i1 i2 r1 r2=>AQ ok (n-1) A.in1 (by show A.units+1+(n-1)<cLine;lia) (by lia) (by lia) he i1 i2 r1 r2
end
abbrev St:=L2.St
inductive Res(α:Type) where
 |stuck|ok (a:α)|exc (c:Str)
noncomputable def Res.bind{α β:Type}:Res α->(α->Res β)->Res β
 |.stuck,_=>.stuck
 |.exc c,_=>.exc c
 |.ok a,k=>k a
@[simp] theorem Res.iL {α β:Type}(a:α)(k:α->Res β):(Res.ok a).bind k=k a:=rfl
inductive Kd where
 |no|tr (d:D)|ds (d:D)
inductive Sl where
 |val (d:D) (fr:Bool)|own (ds:List D) (fr:Bool)|cw (d:D)|ya (d:D)|fD (ks:List (List K0))
noncomputable abbrev En:=List (Option Sl)
inductive R where
 |val (d:D) (fr:Bool) (al:List Nat)|new (ds:List D) (fr:Bool)|iS (d:D)
noncomputable def R.d:R->D
 |.val d _ _=>d
 |.new ds _=>.lst ds
 |.iS d=>d
noncomputable def R.fr:R->Bool
 |.val _ f _=>f
 |.new _ f=>f
 |.iS _=>true
noncomputable def R.al:R->List Nat
 |.val _ _ al=>al
 |.new _ _=>[]
 |.iS _=>[]
def hI(d:D)(fr:Bool)(al:List Nat):R:=if d.flat then .val d true []else .val d fr al
structure Gd where
 H₀:Hp
 Ma:Addr->Prop
 Z:Addr->Prop
 root:Option V
 LP:Option V
noncomputable abbrev Kp(H:Hp)(Ma:Addr->Prop):Gd:=⟨H,Ma,λ_=>False,none,none⟩
def MuZ(g:Gd)(H:Hp)(a:Addr):Prop:=Mu H a\/(g.Z a/\∃o u,H a=some (.az o u))
theorem MuZ.same(h:MuZ g H a)(s:∀o,H a=some o->H' a=some o):MuZ g H' a:=h.imp (λz=>z.same s) λ⟨z,o,u,e⟩=>⟨z,o,u,s _ e⟩
def dc(g:Gd)(M:Addr->Prop)(fr:Bool)(a:Addr):Prop:=M a/\(fr=true->g.H₀ a=none)
noncomputable abbrev Pr:=Nat->Addr->Prop
def vmsk(g:Gd)(M:Addr->Prop)(fr:Bool)(ρ:Pr)(al:List Nat)(a:Addr):Prop:=dc g M fr a\/∃i,i∈al/\ρ i a
mutual
noncomputable def IsSh(H:Hp)(m:Addr->Prop):D->V->Prop
 |.tup ds,v=>∃a vs,v=.ref a/\H a=some (.tup vs)/\IsShs H m ds vs
 |.lst _,v=>∃a vs,v=.ref a/\H a=some (.lst vs)/\m a
 |_,_=>True
noncomputable def IsShs(H:Hp)(m:Addr->Prop):List D->List V->Prop
 |[],_=>True
 |d::ds,vs=>∃v r,vs=v::r/\IsSh H m d v/\IsShs H m ds r
end
def Dst(H:Hp)(T:Addr->Prop)(v:V):Prop:=∃(a:Addr)(vs:List V),v=.ref a/\T a/\(H a=some (.lst vs)\/(∃kvs,H a=some (.dK kvs)/\vs=kvs.map Prod.snd)\/(H a=some (.dT [])/\vs=[]))/\V.ref a∉vs/\∀(i j:Nat)(b:Addr),vs[i]?=some (V.ref b)->vs[j]?=some (V.ref b)->i=j
def Dst.mono(kp:∀a o,T a->H a=some o->H' a=some o)(mm:∀a,T a->T' a)(h:Dst H T v):Dst H' T' v:=by obtain⟨a,vs,e,ta,h1,h2⟩:=h;exact⟨a,vs,e,mm a ta,h1.imp (kp a _ ta) (.imp (λ⟨kvs,q,z⟩=>⟨kvs,kp a _ ta q,z⟩) λ⟨q,z⟩=>⟨kp a _ ta q,z⟩),h2⟩
def KdOk(H:Hp)(T:Addr->Prop)(v:V):Kd->Prop
 |.no=>True
 |.tr d=>Is H T d v
 |.ds d=>Is H T d v/\Dst H T v
theorem KdOk.mono(kp:∀a o,H a=some o->(T a\/dE o)->H' a=some o)(h:KdOk H T v k):KdOk H' T v k:=by
 cases k with
 |no=>exact h
 |tr d=>exact Is.mono kp (λ_ _ _ z=>z) h
 |ds d=>exact⟨Is.mono kp (λ_ _ _ z=>z) h.1,h.2.mono (λa o z e=>kp a o e (.inl z)) λ_ z=>z⟩
noncomputable def Gd.rt(g:Gd)(n:Nat):Option V:=if n=0 then g.root else g.LP
def jw(kp:∀a o,H a=some o->(T a\/dE o)->H' a=some o)(h:Kk H T v ks):Kk H' T v ks:=nh (λb o z e=>kp b o e (.inl z)) (λb vs e=>kp b _ e (.inr True.intro)) h
def SlOk(g:Gd)(M T:Addr->Prop)(H:Hp)(v:V):Sl->Prop
 |.val d fr=>Is H (dc g M fr) d v
 |.own ds fr=>∃a vs,v=.ref a/\H a=some (.lst vs)/\(∀b,T b↔b=a)/\IsAll H (dc g M fr) ds vs
 |.cw d=>Is H T d v
 |.ya d=>IsSh H T d v
 |.fD ks=>Kk H T v ks
noncomputable def Sl.LU:Sl->Bool
 |.val _ _=>false
 |_=>true
def bW(env:En)(j:Nat):Bool:=match env[j]? with
 |some (some sl)=>sl.LU
 |_=>false
structure Rep(g:Gd) (M:Addr->Prop) (ρ:Pr) (env:En) (σ:St) (H:Hp):Prop where
 same:Same g.H₀ H
 fI:∀a,M a->H a≠none
 pZ:∀a,M a->g.H₀ a=none\/g.Ma a
 fl:∀a,M a->g.H₀ a=none->MuZ g H a
 slot:∀(i:Nat)(sl:Sl),env[i]?=some (some sl)->∃v,σ[i]?=some (some v)/\SlOk g M (ρ i) H v sl
 aT:∀(i:Nat)(a:Addr),ρ i a->¬M a/\g.H₀ a=none/\Mu H a
 apart:∀(i j:Nat)(a:Addr),ρ i a->ρ j a->i=j
 ow:∀(i:Nat)(a:Addr),ρ i a->bW env i=true
 len:env.length=σ.length
 zz:∀a,g.Z a->H a≠none
def ROk(g:Gd)(M:Addr->Prop)(ρ:Pr)(H0 H:Hp)(v:V):R->Prop
 |.val d fr al=>Is H (vmsk g M fr ρ al) d v
 |.new ds fr=>∃a vs,v=.ref a/\H a=some (.lst vs)/\¬M a/\H0 a=none/\(∀i,¬ρ i a)/\IsAll H (dc g M fr) ds vs
 |.iS d=>∃T:Addr->Prop,(∀a,T a->¬M a/\H0 a=none/\Mu H a/\∀i,¬ρ i a)/\Is H T d v
structure Ext(M:Addr->Prop) (H:Hp) (M':Addr->Prop) (H':Hp):Prop where
 m:∀a,M a->M' a
 h:Same H H'
 n:∀a,M' a->M a\/H a=none
theorem Ext.refl(M:Addr->Prop)(H:Hp):Ext M H M H:=⟨λ_ z=>z,Same.refl H,λ_ z=>.inl z⟩
theorem Ext.trans{M M1 M2:Addr->Prop}(a:Ext M H M1 H1)(b:Ext M1 H1 M2 H2):Ext M H M2 H2:=⟨λx z=>b.m x (a.m x z),a.h.trans b.h,λx z=>(b.n x z).elim (a.n x) λw=>.inr (a.h.free w)⟩
section
mutual
theorem IsSh.mono(kp:∀a o,H a=some o->dE o->H' a=some o)(kl:∀a vs,m a->H a=some (.lst vs)->∃vs',H' a=some (.lst vs'))(mm:∀a,m a->m' a):∀{d:D}{v:V},IsSh H m d v->IsSh H' m' d v
 |.fU,_,h=>h
 |.bl _,_,h=>h
 |.int _,_,h=>h
 |.str _,_,h=>h
 |.tup ds,_,h=>by obtain⟨a,vs,e,h1,h2⟩:=h;exact⟨a,vs,e,kp a _ h1 True.intro,IsShs.mono kp kl mm h2⟩
 |.lst ds,_,h=>by obtain⟨a,vs,e,h1,h2⟩:=h;obtain⟨vs',h3⟩:=kl a vs h2 h1;exact⟨a,vs',e,h3,mm a h2⟩
 |.bp _ _,_,h=>h
theorem IsShs.mono(kp:∀a o,H a=some o->dE o->H' a=some o)(kl:∀a vs,m a->H a=some (.lst vs)->∃vs',H' a=some (.lst vs'))(mm:∀a,m a->m' a):∀{ds:List D}{vs:List V},IsShs H m ds vs->IsShs H' m' ds vs
 |[],_,h=>h
 |d::ds,_,h=>by obtain⟨v,r,e,h1,h2⟩:=h;exact⟨v,r,e,IsSh.mono kp kl mm h1,IsShs.mono kp kl mm h2⟩
end
def dc.mono(mm:∀a,M a->M' a)(h:dc g M fr a):dc g M' fr a:=⟨mm a h.1,h.2⟩
theorem vmsk.mono(mm:∀a,M a->M' a)(h:vmsk g M fr ρ al a):vmsk g M' fr ρ al a:=h.imp (dc.mono mm) id
def Is.ext(e:Ext M H M' H')(h:Is H (vmsk g M fr ρ al) d v):Is H' (vmsk g M' fr ρ al) d v:=h.mono (λa o q _=>e.h a o q) λ_ _ _ z=>z.mono e.m
def IsAll.ext(e:Ext M H M' H')(h:IsAll H (vmsk g M fr ρ al) ds vs):IsAll H' (vmsk g M' fr ρ al) ds vs:=h.mono (λa o q _=>e.h a o q) λ_ _ _ z=>z.mono e.m
theorem SlOk.weak(mm:∀a,M a->M' a)(h:SlOk g M T H v sl):SlOk g M' T H v sl:=by
 cases sl with
 |val d fr=>exact Is.weak (λb z=>dc.mono mm z) h
 |own ds fr=>obtain⟨b,vs,rfl,h1,h2,h4⟩:=h;exact⟨b,vs,rfl,h1,h2,IsAll.weak (λb z=>dc.mono mm z) h4⟩
 |cw d=>exact h
 |ya d=>exact h
 |fD ks=>exact h
theorem SlOk.same(s:Same H H')(h:SlOk g M T H v sl):SlOk g M T H' v sl:=by
 cases sl with
 |val d fr=>exact Is.same s h
 |own ds fr=>obtain⟨b,vs,rfl,h1,h2,h4⟩:=h;exact⟨b,vs,rfl,s _ _ h1,h2,IsAll.same s h4⟩
 |cw d=>exact Is.same s h
 |ya d=>exact IsSh.mono (λa o e _=>s a o e) (λa vs _ e=>⟨vs,s _ _ e⟩) (λ_ z=>z) h
 |fD ks=>exact jw (λa o e _=>s a o e) h
def Rep.CB{T:Addr->Prop}(r:Rep g M ρ env σ H)(ht:∀a,T a->Mu H a/\g.H₀ a=none/\∀i,¬ρ i a):Rep g (λb=>M b\/T b) ρ env σ H where
 same:=r.same
 fI:=λb hb=>hb.elim (r.fI b) λe=>(ht b e).1.some
 pZ:=λb hb=>hb.elim (r.pZ b) λe=>.inl (ht b e).2.1
 fl:=λb hb h0=>hb.elim (λz=>r.fl b z h0) λe=>.inl (ht b e).1
 slot:=λi sl e=>by obtain⟨v,ev,s⟩:=r.slot i sl e;exact⟨v,ev,SlOk.weak (λ_=>.inl) s⟩
 aT:=λi a h=>⟨λz=>z.elim (r.aT i a h).1 λz=>(ht a z).2.2 i h,(r.aT i a h).2⟩
 apart:=r.apart
 ow:=r.ow
 len:=r.len
 zz:=r.zz
def Rep.more{a:Addr}(r:Rep g M ρ env σ H)(ha:H a=some (.lst ws))(h0:g.H₀ a=none)(no:∀i,¬ρ i a):Rep g (λb=>M b\/b=a) ρ env σ H:=r.CB λb e=>by subst e;exact⟨Mu.lst ha,h0,no⟩
def Rep.grow(r:Rep g M ρ env σ H)(s:Same H H'):Rep g M ρ env σ H' where
 same:=r.same.trans s
 fI:=λa ha e=>by
  cases q:H a with
  |none=>exact r.fI a ha q
  |some o=>rw[s a o q]at e;cases e
 pZ:=r.pZ
 fl:=λa ha h0=>(r.fl a ha h0).same λo e=>s a o e
 slot:=λi sl e=>by obtain⟨v,ev,k⟩:=r.slot i sl e;exact⟨v,ev,SlOk.same s k⟩
 aT:=λi a h=>let ⟨a1,a2,a3⟩:=r.aT i a h;⟨a1,a2,a3.same λo e=>s a o e⟩
 apart:=r.apart
 ow:=r.ow
 len:=r.len
 zz:=λa z e=>by
  cases q:H a with
  |none=>exact r.zz a z q
  |some o=>rw[s a o q]at e;cases e
theorem Rep.free(r:Rep g M ρ env σ H)(h:H a=none):g.H₀ a=none/\¬M a/\∀i,¬ρ i a:=by refine⟨r.same.free h,λz=>r.fI a z h,λi o=>?_⟩;exact(r.aT i a o).2.2.some h
def aK(h:H a=none):Same H (aC H a o):=λb u e=>by rw[af (aD e h)];exact e
theorem ROk.is(rep:Rep g M ρ env σ H)(x:Ext M0 H0 M H)(h0:Same g.H₀ H0)(h:ROk g M ρ H0 H v r):∃M',Ext M0 H0 M' H/\(∀a,M a->M' a)/\Rep g M' ρ env σ H/\Is H (vmsk g M' r.fr ρ r.al) r.d v:=by
 cases r with
 |val d fr al=>exact⟨M,x,λ_ z=>z,rep,h⟩
 |new ds fr=>obtain⟨a,vs,rfl,h1,h2,h3,h4,h5⟩:=h;have z0:g.H₀ a=none:=h0.free h3;exact⟨λb=>M b\/b=a,⟨λb z=>.inl (x.m b z),x.h,λb z=>z.elim (x.n b) λe=>.inr (e▸h3)⟩,λ_=>.inl,rep.more h1 z0 h4,a,vs,rfl,.inl ⟨h1,.inl ⟨.inr rfl,λ_=>z0⟩⟩,IsAll.weak (λb z=>.inl (dc.mono (λ_=>.inl) z)) h5⟩
 |iS d=>obtain⟨T,ht,is⟩:=h;exact⟨λb=>M b\/T b,⟨λb z=>.inl (x.m b z),x.h,λb z=>z.elim (x.n b) λe=>.inr (ht b e).2.1⟩,λ_=>.inl,rep.CB λa z=>let ⟨a1,a2,a3,a4⟩:=ht a z;⟨a3,h0.free a2,a4⟩,Is.weak (λb z=>.inl ⟨.inr z,λ_=>h0.free (ht b z).2.1⟩) is⟩
theorem ROk.hI(h:Is H (vmsk g M fr ρ al) d v):ROk g M ρ H0 H v (hI d fr al):=by
 unfold L3.hI;split
 .exact Is.flat (by assumption) h
 .exact h
def ROk.back(s:Same H1 H0)(h:ROk g M ρ H0 H v r):ROk g M ρ H1 H v r:=by
 cases r with
 |val d fr al=>exact h
 |new ds fr=>obtain⟨a,vs,rfl,h1,h2,h3,h4,h5⟩:=h;exact⟨a,vs,rfl,h1,h2,s.free h3,h4,h5⟩
 |iS d=>obtain⟨T,ht,is⟩:=h;exact⟨T,λa z=>let ⟨a1,a2,a3⟩:=ht a z;⟨a1,s.free a2,a3⟩,is⟩
end
def DE(mg:Str->Option Rz)(E:XK)(g:Gd)(c:Str):Prop:=∀cls dx H',mg c=some cls->Same g.H₀ H'->E cls dx H'
section
variable(mg:Str->Option Rz)(E:XK)(g:Gd)(M:Addr->Prop)(ρ:Pr)(env:En)(σ:St)(H:Hp)
def PostE(Q:VK):Res R->Prop
 |.stuck=>False
 |.exc c=>DE mg E g c
 |.ok r=>∀v M' H',Ext M H M' H'->Rep g M' ρ env σ H'->ROk g M' ρ H H' v r->Q v H'
def aR(rs:List R):Bool:=rs.all R.fr
def bK(rs:List R):List Nat:=rs.flatMap R.al
def PostA(Q:List V->Hp->Prop):Res (List R)->Prop
 |.stuck=>False
 |.exc c=>DE mg E g c
 |.ok rs=>∀vs M' H',Ext M H M' H'->Rep g M' ρ env σ H'->IsAll H' (vmsk g M' (aR rs) ρ (bK rs)) (rs.map R.d) vs->Q vs H'
noncomputable def PostT(Q:Bool->Hp->Prop):Res Bool->Prop
 |.stuck=>False
 |.exc c=>DE mg E g c
 |.ok b=>∀M' H',Ext M H M' H'->Rep g M' ρ env σ H'->Q b H'
end
def Snd(mg:Str->Option Rz)(E:XK)(t:TE)(f:En->Res R):Prop:=∀g M ρ env σ H Q,Rep g M ρ env σ H->PostE mg E g M ρ env σ H Q (f env)->t σ H Q
def SndA(mg:Str->Option Rz)(E:XK)(t:TA)(f:En->Res (List R)):Prop:=∀g M ρ env σ H Q,Rep g M ρ env σ H->PostA mg E g M ρ env σ H Q (f env)->t σ H Q
def SndT(mg:Str->Option Rz)(E:XK)(t:TT)(f:En->Res Bool):Prop:=∀g M ρ env σ H Q,Rep g M ρ env σ H->PostT mg E g M ρ env σ H Q (f env)->t σ H Q
def PD(X:Cx)(E:XK)(e:Expr)(f:En->Res R):Prop:=∃t,PE X e t/\Snd X.mg E t f
def AS(X:Cx)(E:XK)(es:List Expr)(f:En->Res (List R)):Prop:=∃t,PA X es t/\SndA X.mg E t f
def zJ(X:Cx)(E:XK)(e:Expr)(f:En->Res Bool):Prop:=∃t,PT X e t/\SndT X.mg E t f
def PWD(X:Cx)(E:XK)(e:Expr)(f:En->Res Bool):Prop:=∃t,PW X e t/\SndT X.mg E t f
theorem PWD.pt(h:PWD X E e f):zJ X E e f:=let ⟨t,a,b⟩:=h;⟨t,a.pt,b⟩
section
def PostE.ext(e:Ext M H M' H')(p:PostE mg E g M ρ env σ H Q r):PostE mg E g M' ρ env σ H' Q r:=by
 cases r with
 |stuck=>exact p
 |exc c=>exact p
 |ok r=>exact λv M2 H2 e2 rep2 ro=>p v M2 H2 (e.trans e2) rep2 (ro.back e.h)
def PostA.ext(e:Ext M H M' H')(p:PostA mg E g M ρ env σ H Q r):PostA mg E g M' ρ env σ H' Q r:=by
 cases r with
 |stuck=>exact p
 |exc c=>exact p
 |ok r=>exact λv M2 H2 e2=>p v M2 H2 (e.trans e2)
def PostT.ext(e:Ext M H M' H')(p:PostT mg E g M ρ env σ H Q r):PostT mg E g M' ρ env σ H' Q r:=by
 cases r with
 |stuck=>exact p
 |exc c=>exact p
 |ok r=>exact λM2 H2 e2=>p M2 H2 (e.trans e2)
def PostE.val(p:PostE mg E g M ρ env σ H Q (.ok (hI d fr al)))(rep:Rep g M ρ env σ H)(h:Is H (vmsk g M fr ρ al) d v):Q v H:=p v M H (Ext.refl M H) rep (ROk.hI h)
theorem PostE.new(p:PostE mg E g M ρ env σ H Q (.ok (.new ds fr)))(rep:Rep g M ρ env σ H)(ha:H a=none)(h:IsAll H (dc g M fr) ds vs):Q (.ref a) (aC H a (.lst vs)):=by have s:Same H (aC H a (.lst vs)):=aK ha;obtain⟨h0,hm,ho⟩:=rep.free ha;exact p _ M _ ⟨λ_ z=>z,s,λ_ z=>.inl z⟩ (rep.grow s) ⟨a,vs,rfl,ag,hm,ha,ho,IsAll.same s h⟩
theorem PostE.tup(p:PostE mg E g M ρ env σ H Q (.ok (hI (.tup ds) fr al)))(rep:Rep g M ρ env σ H)(ha:H a=none)(h:IsAll H (vmsk g M fr ρ al) ds vs):Q (.ref a) (aC H a (.tup vs)):=by have s:Same H (aC H a (.tup vs)):=aK ha;exact p _ M _ ⟨λ_ z=>z,s,λ_ z=>.inl z⟩ (rep.grow s) (ROk.hI ⟨a,vs,rfl,ag,IsAll.same s h⟩)
def Snd.one{t:TE}{f:En->Res R}(h:Snd mg E t f)(rep:Rep g M ρ env σ H){α:Type}{K:R->Res α}{P:(M:Addr->Prop)->(H:Hp)->Res α->Prop}{Q:VK}
 (hp:P M H ((f env).bind K)) (hs:∀M H,P M H .stuck->False) (hx:∀M H c,P M H (.exc c)->DE mg E g c) (he:∀M H M' H' r,Ext M H M' H'->P M H r->P M' H' r)
 (k:∀r v M' H',Ext M H M' H'->Rep g M' ρ env σ H'->Is H' (vmsk g M' r.fr ρ r.al) r.d v->P M' H' (K r)->Q v H'):t σ H Q:=by
 refine h g M ρ env σ H Q rep ?_;cases e:f env with
 |stuck=>rw[e]at hp;exact hs _ _ hp
 |exc c=>rw[e]at hp;exact hx _ _ c hp
 |ok r=>rw[e]at hp;intro v M1 H1 e1 rep1 ro;obtain⟨M2,e2,_,rep2,is⟩:=ro.is rep1 e1 rep.same;exact k r v M2 H1 e2 rep2 is (he _ _ _ _ _ e2 hp)
def Snd.fH{f:En->Res R}(h:Snd mg E t f)(rep:Rep g M ρ env σ H){K:R->Res R}(hp:PostE mg E g M ρ env σ H Q' ((f env).bind K))
 (k:∀r v M' H',Ext M H M' H'->Rep g M' ρ env σ H'->Is H' (vmsk g M' r.fr ρ r.al) r.d v->PostE mg E g M' ρ env σ H' Q' (K r)->Q v H'):t σ H Q:=
 h.one rep (P:=λM H r=>PostE mg E g M ρ env σ H Q' r) hp (λ_ _ z=>z) (λ_ _ _ z=>z) (λ_ _ _ _ _ e p=>p.ext e) k
def Snd.Je{f:En->Res R}(h:Snd mg E t f)(rep:Rep g M ρ env σ H){K:R->Res (List R)}{Q':List V->Hp->Prop}(hp:PostA mg E g M ρ env σ H Q' ((f env).bind K))
 (k:∀r v M' H',Ext M H M' H'->Rep g M' ρ env σ H'->Is H' (vmsk g M' r.fr ρ r.al) r.d v->PostA mg E g M' ρ env σ H' Q' (K r)->Q v H'):t σ H Q:=
 h.one rep (P:=λM H r=>PostA mg E g M ρ env σ H Q' r) hp (λ_ _ z=>z) (λ_ _ _ z=>z) (λ_ _ _ _ _ e p=>p.ext e) k
def Snd.wc{f:En->Res R}(h:Snd mg E t f)(rep:Rep g M ρ env σ H){K:R->Res Bool}{Q':Bool->Hp->Prop}(hp:PostT mg E g M ρ env σ H Q' ((f env).bind K))
 (k:∀r v M' H',Ext M H M' H'->Rep g M' ρ env σ H'->Is H' (vmsk g M' r.fr ρ r.al) r.d v->PostT mg E g M' ρ env σ H' Q' (K r)->Q v H'):t σ H Q:=
 h.one rep (P:=λM H r=>PostT mg E g M ρ env σ H Q' r) hp (λ_ _ z=>z) (λ_ _ _ z=>z) (λ_ _ _ _ _ e p=>p.ext e) k
def Snd.zF{fa fb:En->Res R}(ha:Snd mg E ta fa)(hb:Snd mg E tb fb)(rep:Rep g M ρ env σ H){K:R->R->Res R}{S:V->V->Hp->Prop}
 (hp:PostE mg E g M ρ env σ H Q' ((fa env).bind λra=>(fb env).bind λrb=>K ra rb))
 (k:∀ra rb x y M' H',Rep g M' ρ env σ H'->Is H' (vmsk g M' ra.fr ρ ra.al) ra.d x->Is H' (vmsk g M' rb.fr ρ rb.al) rb.d y->PostE mg E g M' ρ env σ H' Q' (K ra rb)->S x y H') :
 ta σ H λx H1=>tb σ H1 λy H2=>S x y H2:=
 ha.fH rep hp λra x M1 H1 e1 rep1 i1 p1=>hb.fH rep1 p1 λrb y M2 H2 e2 rep2 i2 p2=>k ra rb x y M2 H2 rep2 (i1.ext e2) i2 p2
end
noncomputable def lim:Nat:=1000000
def eS(h:n<=lim):n<=sizeLine:=by rw[Od];unfold lim at h;lia
def ku(h:n<lim):n<sizeLine:=by rw[Od];unfold lim at h;lia
def gP(ds:List D)(fr:Bool)(al:List Nat):R:=if D.ba ds then .new ds true else if al.isEmpty then .new ds fr else .val (.lst ds) fr al
section
def vmsk.nil(h:vmsk g M fr ρ [] a):dc g M fr a:=h.elim id λ⟨_,z,_⟩=>absurd z (by simp)
theorem PostE.lst(p:PostE mg E g M ρ env σ H Q (.ok (gP ds fr al)))(rep:Rep g M ρ env σ H)(ha:H a=none)(h:IsAll H (vmsk g M fr ρ al) ds vs):Q (.ref a) (aC H a (.lst vs)):=by
 unfold gP at p;by_cases hf:D.ba ds=true
 .rw[ck hf]at p;exact p.new rep ha (IsAll.flat hf h)
 .rw[cO hf]at p;cases al with
  |nil=>exact PostE.new (p:=p) rep ha (IsAll.weak (λ_ z=>z.nil) h)
  |cons i al=>have p:PostE mg E g M ρ env σ H Q (.ok (.val (.lst ds) fr (i::al))):=p;have s:Same H (aC H a (.lst vs)):=aK ha;obtain⟨h0,hm,ho⟩:=rep.free ha;refine p _ (λb=>M b\/b=a) _ ⟨λ_=>.inl,s,λb z=>z.imp id λ(e:b=a)=>by grind⟩ ((rep.grow s).more ag h0 ho) ⟨a,vs,rfl,.inl ⟨ag,.inl ⟨.inr rfl,λ_=>h0⟩⟩,?_⟩;exact(IsAll.same s h).weak λb z=>z.mono λ_=>.inl
def Is.rd(h:Is H m (.lst ds) v):∃a vs,v=.ref a/\Rd H a (.lst vs)/\IsAll H m ds vs:=by obtain⟨a,vs,e,h1,h2⟩:=h;exact⟨a,vs,e,h1.imp (·.1) λ⟨o,z,_⟩=>⟨o,z⟩,h2⟩
end
section
def ah(i:Nat):En->Res R:=λenv=>match env[i]? with
 |some (some (.val d fr))=>.ok (hI d fr [])
 |some (some (.own ds fr))=>.ok (.val (.lst ds) fr [i])
 |some (some (.cw d))=>.ok (.val d true [i])
 |_=>.stuck
def wU:Snd mg E (bY i) (ah i):=by
 intro g M ρ env σ H Q rep p;unfold ah at p;cases e1:env[i]? with
 |none=>rw[e1]at p;exact p.elim
 |some o=>
  cases o with
  |none=>rw[e1]at p;exact p.elim
  |some sl=>
   obtain⟨v,ev,k⟩:=rep.slot i sl e1;rw[e1]at p;refine⟨v,ev,?_⟩;cases sl with
   |val d fr=>exact PostE.val p rep (Is.weak (λ_ z=>.inl z) k)
   |own ds fr=>obtain⟨a,vs,rfl,h1,h2,h4⟩:=k;exact p _ M H (Ext.refl M H) rep ⟨a,vs,rfl,.inl ⟨h1,.inr ⟨i,by simp,(h2 a).mpr rfl⟩⟩,IsAll.weak (λ_ z=>.inl z) h4⟩
   |cw d=>exact p _ M H (Ext.refl M H) rep (Is.weak (λa z=>.inr ⟨i,by simp,z⟩) k)
   |ya d=>exact p.elim
   |fD ks=>exact p.elim
def qK(h:PE X e (bY i)):PD X E e (ah i):=⟨_,h,wU⟩
def vC(d:D):En->Res R:=λ_=>.ok (.val d true [])
def FA(h:∀H m,Is H m d v):Snd mg E (tC v) (vC d):=λg M ρ env σ H Q rep p=>p v M H (Ext.refl M H) rep (h H _)
def aw{i j pos}:PD X E (.Constant (.int i) j pos) (vC (.int i)):=⟨_,i8,FA λ_ _=>rfl⟩
def cm{b j pos}:PD X E (.Constant (.bool b) j pos) (vC (.bl b)):=⟨_,Jy,FA λ_ _=>rfl⟩
def v2(op:R->R->Res R)(fa fb:En->Res R):En->Res R:=λenv=>(fa env).bind λra=>(fb env).bind λrb=>op ra rb
def oG(X:Cx)(E:XK)(f:Rz->Rz->Sem Rz)(op:R->R->Res R):Prop:=∃r:R2,OpR X f r/\
 ∀g M ρ env σ H Q ra rb x y,Rep g M ρ env σ H->Is H (vmsk g M ra.fr ρ ra.al) ra.d x->Is H (vmsk g M rb.fr ρ rb.al) rb.d y->PostE X.mg E g M ρ env σ H Q (op ra rb)->r x y H Q
def aE(ho:oG X E (binaryOp op) k)(ha:PD X E a fa)(hb:PD X E b fb):PD X E (.BinOp a op b pos) (v2 k fa fb):=by obtain⟨r,h1,h2⟩:=ho;obtain⟨ta,pa,sa⟩:=ha;obtain⟨tb,pb,sb⟩:=hb;exact⟨_,zT h1 pa pb,λg M ρ env σ H Q rep p=>sa.zF sb rep p λra rb x y M' H' rep' i1 i2 p'=>h2 g M' ρ env σ H' Q ra rb x y rep' i1 i2 p'⟩
def nr(ho:oG X E (compareOp op) k)(ha:PD X E a fa)(hb:PD X E b fb)(hm:behindInMarks op b=false):PD X E (.Compare a [op] [b] pos) (v2 k fa fb):=by obtain⟨r,h1,h2⟩:=ho;obtain⟨ta,pa,sa⟩:=ha;obtain⟨tb,pb,sb⟩:=hb;exact⟨_,wf h1 pa pb hm,λg M ρ env σ H Q rep p=>sa.zF sb rep p λra rb x y M' H' rep' i1 i2 p'=>h2 g M' ρ env σ H' Q ra rb x y rep' i1 i2 p'⟩
def oI(C:Int->Int->Bool)(k:Int->Int->D)(a b:R):Res R:=match a.d,b.d with
 |.int i,.int j=>if C i j then .ok (.val (k i j) true [])else .stuck
 |_,_=>.stuck
def wV{f:Rz->Rz->Sem Rz}{C:Int->Int->Prop}{kV:Int->Int->V}(c:Int->Int->Bool)(k:Int->Int->D)(ho:OpR X f (rI C kV))(hc:∀i j,c i j=true->C i j)(hk:∀H m i j,Is H m (k i j) (kV i j)):oG X E f (oI c k):=by
 refine⟨_,ho,λg M ρ env σ H Q ra rb x y rep i1 i2 p=>?_⟩;unfold oI at p;cases e1:ra.d with
 |int i=>
  rw[e1]at p i1;cases e2:rb.d with
  |int j=>
   rw[e2]at p i2;cases i1;cases i2;by_cases h:c i j=true
   .simp only[h,O_]at p;exact⟨i,j,rfl,rfl,hc i j h,p _ M H (Ext.refl M H) rep (hk H _ i j)⟩
   .simp only[h]at p;exact p.elim
  |_=>rw[e2]at p;exact p.elim
 |_=>rw[e1]at p;exact p.elim
def AT{f:Rz->Rz->Sem Rz}{kV:Int->Int->V}(k:Int->Int->D)(ho:OpR X f (CY kV))(hk:∀H m i j,Is H m (k i j) (kV i j)):oG X E f (oI (λ_ _=>true) k):=by refine wV (C:=λ_ _=>True) (kV:=kV) _ k (λaa s σ H x y v u Q I rx ry h=>?_) (λ_ _ _=>True.intro) hk;obtain⟨i,j,a,b,_,q⟩:=h;exact ho aa s σ H x y v u Q I rx ry ⟨i,j,a,b,q⟩
noncomputable def AU(i j:Int):Bool:=(decide (-(2^64)<i)&&decide (i<2^64)) ||(decide (-(2^64)<j)&&decide (j<2^64))
def vA:R->R->Res R:=oI AU λi j=>.int (i*j)
def nt:R->R->Res R:=oI (λ_ j=>decide (0<j)&&decide (j<1073741824)) λi j=>.int (i/j)
def gc:R->R->Res R:=oI (λ_ j=>decide (0<j)) λi j=>.int (i%j)
def nu:oG X E (binaryOp .Mult) vA:=wV _ _ Gy (λi j h=>by simp only[AU,Bool.or_eq_true,Of,O0]at h;exact h) λ_ _ _ _=>rfl
def gF:oG X E (binaryOp .FloorDiv) nt:=wV _ _ CZ (λi j h=>by simp only[Of,O0]at h;exact h) λ_ _ _ _=>rfl
def bS:oG X E (binaryOp .Mod) gc:=wV _ _ Gz (λi j h=>by simpa using h) λ_ _ _ _=>rfl
def wW:R->R->Res R:=oI (λ_ _=>true) λi j=>.bl (decide (i<j))
def Jn:R->R->Res R:=oI (λ_ _=>true) λi j=>.bl (decide (i<=j))
def k_:oG X E (compareOp .Lt) wW:=AT _ JO λ_ _ _ _=>rfl
def wY:oG X E (compareOp .LtE) Jn:=AT _ JP λ_ _ _ _=>rfl
def Inv.NF(I:L2.Inv X aa σ H s)(h:Rd H l (.lst xs)) :
 xs.length<=sizeLine/\∃(its:List Rz)(n:Nat),Vals xs its/\xs.length=its.length/\s.heap.get? l=some { cls:=.type "list",data:=.seq its.toArray n }:=by
 obtain⟨z,its,n,r,e⟩:=(h.ok I.aG:ObjOk X.prog X.w H s.heap l (.lst xs));exact⟨z,its,n,r,r.length,e⟩
def Kq:R2:=λx y H Q=>∃l b xs zs,x=.ref l/\y=.ref b/\Rd H l (.lst xs)/\Rd H b (.lst zs)/\xs.length+zs.length<=sizeLine/\∀p,H p=none->Q (.ref p) (aC H p (.lst (xs++zs)))
def op_catS:OpR X (binaryOp .Add) Kq:=by
 intro aa s σ H x y v u Q I rx ry h;obtain⟨l,b,xs,zs,rfl,rfl,hH,hB,hz,q⟩:=h;cases rx;cases ry;obtain⟨z,its,n,r,hl,e⟩:=Inv.NF I hH;obtain⟨z2,its2,n2,r2,hl2,e2⟩:=Inv.NF I hB;refine PySem.P.add_list e e2 ?_ (by grind);have ea:its.toArray++its2.toArray=(its++its2).toArray:=by simp
 rw[ea];exact⟨.ref _,_,I.Nk (t':=s.toks) (r.append r2) (by grind),rfl,q _ I.fresh⟩
def dF(a b:R):Res R:=match a.d,b.d with
 |.int i,.int j=>.ok (.val (.int (i+j)) true [])
 |.lst xs,.lst ys=>if xs.length+ys.length<=lim then .ok (gP (xs++ys) (a.fr&&b.fr) (a.al++b.al))else .stuck
 |.tup xs,.tup ys=>if xs.length+ys.length<=lim/\xs≠[]then .ok (hI (.tup (xs++ys)) (a.fr&&b.fr) (a.al++b.al))else .stuck
 |.str x,.str y=>if x.length+y.length<=lim then .ok (.val (.str (x++y)) true [])else .stuck
 |_,_=>.stuck
section
def vmsk.l(h:vmsk g M f1 ρ l1 a):vmsk g M (f1&&f2) ρ (l1++l2) a:=h.imp (λz=>⟨z.1,λe=>z.2 (by grind)⟩) λ⟨i,hi,o⟩=>⟨i,by simp[hi],o⟩
def vmsk.r(h:vmsk g M f2 ρ l2 a):vmsk g M (f1&&f2) ρ (l1++l2) a:=h.imp (λz=>⟨z.1,λe=>z.2 (by grind)⟩) λ⟨i,hi,o⟩=>⟨i,by simp[hi],o⟩
end
def bU:oG X E (binaryOp .Add) dF:=by
 refine⟨_,op_add.or (op_catS.or (op_catT.or uP)),λg M ρ env σ H Q ra rb x y rep i1 i2 p=>?_⟩;unfold dF at p;cases e1:ra.d with
 |int i=>
  rw[e1]at p i1;cases e2:rb.d with
  |int j=>rw[e2]at p i2;cases i1;cases i2;exact .inl ⟨i,j,rfl,rfl,p _ M H (Ext.refl M H) rep rfl⟩
  |_=>rw[e2]at p;exact p.elim
 |lst xs=>
  rw[e1]at p i1;cases e2:rb.d with
  |lst ys=>
   rw[e2]at p i2;obtain⟨a,vs,rfl,h1,h2⟩:=i1.rd;obtain⟨b,ws,rfl,h3,h4⟩:=i2.rd;by_cases hz:xs.length+ys.length<=lim
   .simp only[hz,O_]at p;refine .inr (.inl ⟨a,b,vs,ws,rfl,rfl,h1,h3,by rw[h2.length,h4.length];exact eS hz,λq hq=>?_⟩);exact p.lst rep hq ((h2.weak λ_ z=>z.l).append (h4.weak λ_ z=>z.r))
   .simp only[hz,Oh]at p;exact p.elim
  |_=>rw[e2]at p;exact p.elim
 |tup xs=>
  rw[e1]at p i1;cases e2:rb.d with
  |tup ys=>
   rw[e2]at p i2;obtain⟨a,vs,rfl,h1,h2⟩:=i1;obtain⟨b,ws,rfl,h3,h4⟩:=i2;dsimp only at p;by_cases hz:xs.length+ys.length<=lim/\xs≠[]
   .rw[ck hz]at p;have n1:vs≠[]:=λz=>hz.2 (by have:=h2.length;rw[z]at this;exact PP this.symm);refine .inr (.inr (.inl ⟨a,b,vs,ws,rfl,rfl,SqT.of h1,SqT.of h3,n1,by rw[h2.length,h4.length];exact eS hz.1,λz=>?_,λ_ q hq=>?_⟩))
    .have ey:ys=[]:=by have:=h4.length;rw[z]at this;exact PP this.symm
     rw[ey,Oo]at p;exact p.val rep (Is.weak (d:=.tup xs) (λ_ z=>z.l) ⟨a,vs,rfl,h1,h2⟩)
    .exact p.tup rep hq ((h2.weak λ_ z=>z.l).append (h4.weak λ_ z=>z.r))
   .rw[cO hz]at p;exact p.elim
  |_=>rw[e2]at p;exact p.elim
 |str xs=>
  rw[e1]at p i1;cases e2:rb.d with
  |str ys=>
   rw[e2]at p i2;cases i1;cases i2;by_cases hz:xs.length+ys.length<=lim
   .simp only[hz,O_]at p;exact .inr (.inr (.inr ⟨xs,ys,rfl,rfl,eS hz,p _ M H (Ext.refl M H) rep rfl⟩))
   .simp only[hz,Oh]at p;exact p.elim
  |_=>rw[e2]at p;exact p.elim
 |_=>rw[e1]at p;exact p.elim
def DF(a b:R):Res R:=if a.d.dep<=50/\b.d.dep<=50 then .ok (.val (.bl (fF a.d b.d)) true [])else .stuck
def yQ(a b:R):Res R:=if a.d.dep<=50/\b.d.dep<=50 then .ok (.val (.bl (!fF a.d b.d)) true [])else .stuck
def MO:R2:=λx y H Q=>∃d e m m',Is H m d x/\Is H m' e y/\(d.dep<=50/\e.dep<=50)/\Q (.bl (fF d e)) H
def MP:R2:=λx y H Q=>∃d e m m',Is H m d x/\Is H m' e y/\(d.dep<=50/\e.dep<=50)/\Q (.bl (!fF d e)) H
def Hb(hu:X.A.units+64<cLine):OpR X (compareOp .Eq) MO:=by intro aa s σ H x y v u Q I rx ry h;obtain⟨d,e,m,m',h1,h2,hd,q⟩:=h;exact DC I.aG (by lia) (AR I.aG (A:=X.A) (n:=50) (by lia) (by lia)) hd.1 (by lia) (by lia) h1 h2 rx ry X.prog X.w X.xe _ ⟨.bl _,H,I,rfl,q⟩
def Hc(hu:X.A.units+64<cLine):OpR X (compareOp .NotEq) MP:=by intro aa s σ H x y v u Q I rx ry h;obtain⟨d,e,m,m',h1,h2,hd,q⟩:=h;exact DD I.aG (by lia) (AR I.aG (A:=X.A) (n:=50) (by lia) (by lia)) hd.1 (by lia) (by lia) h1 h2 rx ry X.prog X.w X.xe _ ⟨.bl _,H,I,rfl,q⟩
def wZ(hu:X.A.units+64<cLine):oG X E (compareOp .Eq) DF:=by
 refine⟨_,Hb hu,λg M ρ env σ H Q ra rb x y rep i1 i2 p=>?_⟩;unfold DF at p;by_cases h:ra.d.dep<=50/\rb.d.dep<=50
 .rw[ck h]at p;exact⟨_,_,_,_,i1,i2,h,p _ M H (Ext.refl M H) rep rfl⟩
 .rw[cO h]at p;exact p.elim
def tz(hu:X.A.units+64<cLine):oG X E (compareOp .NotEq) yQ:=by
 refine⟨_,Hc hu,λg M ρ env σ H Q ra rb x y rep i1 i2 p=>?_⟩;unfold yQ at p;by_cases h:ra.d.dep<=50/\rb.d.dep<=50
 .rw[ck h]at p;exact⟨_,_,_,_,i1,i2,h,p _ M H (Ext.refl M H) rep rfl⟩
 .rw[cO h]at p;exact p.elim
end
section
variable{X:Cx}
def Hd(fa:En->Res R):En->Res R:=λenv=>(fa env).bind λra=>match ra.d with
 |.bl b=>.ok (.val (.bl (!b)) true [])
 |_=>.stuck
def He(fa fb:En->Res R):En->Res R:=λenv=>(fa env).bind λra=>match ra.d with
 |.bl true=>fb env
 |.bl false=>.ok (.val (.bl false) true [])
 |_=>.stuck
def Hf(ha:PD X E a fa):PD X E (.UnaryOp .Not a pos) (Hd fa):=by
 obtain⟨ta,pa,sa⟩:=ha;refine⟨_,Gm pa,λg M ρ env σ H Q rep p=>sa.fH rep p λr v M' H' e rep' i p'=>?_⟩;cases q:r.d with
 |bl b=>rw[q]at i;simp only[q]at p';cases i;exact⟨b,rfl,p' _ M' H' (Ext.refl _ _) rep' rfl⟩
 |_=>simp only[q]at p';exact p'.elim
def Hg(ha:PD X E a fa):PD X E (.BoolOp op [a] pos) fa:=let ⟨t,pa,sa⟩:=ha;⟨t,Gj pa,sa⟩
def Hh{aX:List Expr}{fa fb:En->Res R}{pos:Pos}(ha:PD X E a fa)(hb:PD X E (.BoolOp .And (b::aX) pos) fb):PD X E (.BoolOp .And (a::b::aX) pos) (He fa fb):=by
 obtain⟨ta,pa,sa⟩:=ha;obtain⟨tb,pb,sb⟩:=hb;refine⟨_,Gk pa pb,λg M ρ env σ H Q rep p=>sa.fH rep p λr v M' H' e rep' i p'=>?_⟩;cases q:r.d with
 |bl b=>
  rw[q]at i;simp only[q]at p';cases i;refine⟨b,rfl,?_⟩;cases b with
  |true=>exact uV (sb g M' ρ env σ H' Q rep' p')
  |false=>exact uU (p' _ M' H' (Ext.refl _ _) rep' rfl)
 |_=>simp only[q]at p';exact p'.elim
def FC:D->Res Bool
 |.fU=>.ok false
 |.bl b=>.ok b
 |.int i=>.ok (i != 0)
 |.str y=>if y.length<=lim then .ok ((y.length:Int) != 0)else .stuck
 |.tup ds=>.ok (!ds.isEmpty)
 |.lst ds=>.ok (!ds.isEmpty)
 |.bp _ _=>.stuck
theorem Is.FC(h:Is H m d v)(e:FC d=.ok k):GB X.K v H k:=by
 cases d with
 |fU=>cases h;cases e;rfl
 |bl b=>cases h;cases e;rfl
 |int b=>cases h;cases e;rfl
 |str b=>
  cases h;unfold L3.FC at e;dsimp only at e;by_cases hl:b.length<=lim
  .rw[ck hl]at e;cases e;exact⟨eS hl,rfl⟩
  .rw[cO hl]at e;cases e
 |tup ds=>obtain⟨a,vs,rfl,h1,h2⟩:=h;cases e;refine .inr (.inl ⟨vs,SqT.of h1,?_⟩);have:=h2.length;cases ds<;>cases vs<;>simp_all
 |lst ds=>obtain⟨a,vs,rfl,h1,h2⟩:=h.rd;cases e;refine .inl ⟨vs,.inl h1,?_⟩;have:=h2.length;cases ds<;>cases vs<;>simp_all
 |bp ks ds=>cases e
def lU(fa:En->Res R):En->Res Bool:=λenv=>(fa env).bind λra=>FC ra.d
def gG(ha:PD X E a fa)(he:autoParam (∀whole,isTrue a X.env whole=(do let v <- whole;standAt a.pos;holding [v] (truthy v))) RI):zJ X E a (lU fa):=by
 obtain⟨ta,pa,sa⟩:=ha;refine⟨_,zX pa he,λg M ρ env σ H Q rep p=>sa.wc rep p λr v M' H' e rep' i p'=>?_⟩;cases q:FC r.d with
 |stuck=>rw[q]at p';exact p'.elim
 |exc c=>
  exfalso;unfold FC at q
  grind
 |ok k=>rw[q]at p';exact⟨k,i.FC q,p' M' H' (Ext.refl _ _) rep'⟩
def vB(fa:En->Res R):En->Res Bool:=λenv=>(fa env).bind λra=>match ra.d with
 |.bl b=>.ok b
 |_=>.stuck
def b8(ho:oG X E (compareOp op) k)(ha:PD X E a fa)(hb:PD X E b fb)(hm:behindInMarks op b=false):zJ X E (.Compare a [op] [b] pos) (vB (v2 k fa fb)):=by
 obtain⟨r,h1,h2⟩:=ho;obtain⟨ta,pa,sa⟩:=ha;obtain⟨tb,pb,sb⟩:=hb;have S:Snd X.mg E (uN r ta tb) (v2 k fa fb):=λg M ρ env σ H Q rep p=>sa.zF sb rep p λra rb x y M' H' rep' i1 i2 p'=>h2 g M' ρ env σ H' Q ra rb x y rep' i1 i2 p';refine⟨_,qf h1 pa pb hm,λg M ρ env σ H Q rep p=>S.wc rep p λr v M' H' e rep' i p'=>?_⟩;cases q:r.d with
 |bl b=>rw[q]at i;simp only[q]at p';cases i;exact⟨b,rfl,p' M' H' (Ext.refl _ _) rep'⟩
 |_=>simp only[q]at p';exact p'.elim
def jy(fa:En->Res Bool):En->Res Bool:=λenv=>(fa env).bind λb=>.ok (!b)
def zK(fa fb:En->Res Bool):En->Res Bool:=λenv=>(fa env).bind λb=>if b then .ok true else fb env
section
def SndT.wc{f:En->Res Bool}(h:SndT mg E t f)(rep:Rep g M ρ env σ H){K:Bool->Res Bool}{Q':Bool->Hp->Prop}{Q:Bool->Hp->Prop}(hp:PostT mg E g M ρ env σ H Q' ((f env).bind K))
 (k:∀b M' H',Ext M H M' H'->Rep g M' ρ env σ H'->PostT mg E g M' ρ env σ H' Q' (K b)->Q b H'):t σ H Q:=by
 refine h g M ρ env σ H Q rep ?_;cases e:f env with
 |stuck=>rw[e]at hp;exact hp
 |exc c=>rw[e]at hp;exact hp
 |ok b=>rw[e]at hp;exact λM1 H1 e1 rep1=>k b M1 H1 e1 rep1 (PostT.ext e1 hp)
end
def cy(ha:zJ X E a fa):zJ X E (.UnaryOp .Not a pos) (jy fa):=by obtain⟨ta,pa,sa⟩:=ha;exact⟨_,Gi pa,λg M ρ env σ H Q rep p=>sa.wc rep p λb M' H' e rep' p'=>p' M' H' (Ext.refl _ _) rep'⟩
def iD(ha:zJ X E a fa):PWD X E (.BoolOp .Or [a] pos) fa:=let ⟨t,pa,sa⟩:=ha;⟨t,Gh pa,sa⟩
def fW{aX:List Expr}{fa fb:En->Res Bool}{pos:Pos}(ha:zJ X E a fa)(hb:PWD X E (.BoolOp .Or (b::aX) pos) fb):PWD X E (.BoolOp .Or (a::b::aX) pos) (zK fa fb):=by
 obtain⟨ta,pa,sa⟩:=ha;obtain⟨tb,pb,sb⟩:=hb;refine⟨_,Jz pa pb,λg M ρ env σ H Q rep p=>sa.wc rep p λb M' H' e rep' p'=>?_⟩;cases b with
 |true=>exact uV (p' M' H' (Ext.refl _ _) rep')
 |false=>exact uU (sb g M' ρ env σ H' Q rep' p')
def FD(a b:R):Res R:=match a.d,b.d with
 |.lst xs,.int i=>match fJ xs i with
  |some d=>.ok (hI d a.fr a.al)
  |none=>.stuck
 |.tup xs,.int i=>match fJ xs i with
  |some d=>.ok (hI d a.fr a.al)
  |none=>.stuck
 |.str z,.int i=>if z.length<=lim then(match fJ z.cps.toList i with
  |some c=>.ok (.val (.str ⟨#[c]⟩) true [])
  |none=>.stuck)else .stuck
 |_,_=>.stuck
theorem IsAll.fJ(h:IsAll H m ds vs)(e:L2.fJ ds i=some d):∃v,L2.fJ vs i=some v/\Is H m d v:=by
 unfold L2.fJ at e ⊢;rw[h.length];cases q:wo ds.length i with
 |none=>rw[q]at e;cases e
 |some j=>rw[q]at e;exact h.get e
def Kr:∃r:R2,IxR X r/\∀g M ρ env σ H Q ra rb x y,Rep g M ρ env σ H->Is H (vmsk g M ra.fr ρ ra.al) ra.d x->Is H (vmsk g M rb.fr ρ rb.al) rb.d y->PostE X.mg E g M ρ env σ H Q (FD ra rb)->r x y H Q:=by
 refine⟨_,GG,λg M ρ env σ H Q ra rb x y rep i1 i2 p=>?_⟩;unfold FD at p;cases e1:ra.d with
 |lst xs=>
  rw[e1]at p i1;cases e2:rb.d with
  |int i=>
   rw[e2]at p i2;cases i2;obtain⟨a,vs,rfl,h1,h2⟩:=i1.rd;cases q:fJ xs i with
   |none=>simp only[q]at p;exact p.elim
   |some d=>simp only[q]at p;obtain⟨v,ev,iv⟩:=h2.fJ q;exact .inl ⟨a,vs,i,v,rfl,rfl,.inl h1,ev,p.val rep iv⟩
  |_=>rw[e2]at p;exact p.elim
 |tup xs=>
  rw[e1]at p i1;cases e2:rb.d with
  |int i=>
   rw[e2]at p i2;cases i2;obtain⟨a,vs,rfl,h1,h2⟩:=i1;cases q:fJ xs i with
   |none=>simp only[q]at p;exact p.elim
   |some d=>simp only[q]at p;obtain⟨v,ev,iv⟩:=h2.fJ q;exact .inr (.inl ⟨a,vs,i,v,rfl,rfl,SqT.of h1,ev,p.val rep iv⟩)
  |_=>rw[e2]at p;exact p.elim
 |str z=>
  rw[e1]at p i1;cases e2:rb.d with
  |int i=>
   rw[e2]at p i2;cases i1;cases i2;by_cases hz:z.length<=lim
   .simp only[hz,O_]at p;cases q:fJ z.cps.toList i with
    |none=>simp only[q]at p;exact p.elim
    |some c=>simp only[q]at p;exact .inr (.inr ⟨z,i,c,rfl,rfl,eS hz,q,p _ M H (Ext.refl _ _) rep rfl⟩)
   .simp only[hz,Oh]at p;exact p.elim
  |_=>rw[e2]at p;exact p.elim
 |_=>rw[e1]at p;exact p.elim
def qL(i:Nat)(fb:En->Res R):En->Res R:=λenv=>match env[i]? with
 |some (some (.own ds fr))=>(fb env).bind λrb=>match rb.d with
  |.int k=>match fJ ds k with
   |some d=>.ok (hI d fr [])
   |none=>.stuck
  |_=>.stuck
 |_=>v2 FD (ah i) fb env
def vD(ha:PE X a (bY i))(hb:PD X E b fb)(hs:wt b):PD X E (.Subscript a b pos) (qL i fb):=by
 obtain⟨r,h1,h2⟩:=Kr (X:=X) (E:=E);obtain⟨tb,pb,sb⟩:=hb;refine⟨_,wu (ix_list.or h1) ha pb hs,λg M ρ env σ H Q rep p=>?_⟩;have gen:PostE X.mg E g M ρ env σ H Q (v2 FD (ah i) fb env)->uN (λx y H Q=>C1 X.K x y H Q\/r x y H Q) (bY i) tb σ H Q:=λp=>Snd.zF wU sb rep p λra rb x y M' H' rep' i1 i2 p'=>.inr (h2 g M' ρ env σ H' Q ra rb x y rep' i1 i2 p');unfold qL at p;cases e1:env[i]? with
 |none=>rw[e1]at p;exact gen p
 |some o=>
  cases o with
  |none=>rw[e1]at p;exact gen p
  |some sl=>
   cases sl with
   |val d fr=>rw[e1]at p;exact gen p
   |cw d=>rw[e1]at p;exact gen p
   |ya d=>rw[e1]at p;exact gen p
   |fD ks=>rw[e1]at p;exact gen p
   |own ds fr=>
    rw[e1]at p;obtain⟨v,ev,a,vs,rfl,k1,k2,k4⟩:=rep.slot i _ e1;refine⟨_,ev,sb.fH rep p λrb y M' H' e rep' i2 p'=>?_⟩;cases q:rb.d with
    |int k=>
     rw[q]at i2;simp only[q]at p';cases i2;cases q2:fJ ds k with
     |none=>simp only[q2]at p';exact p'.elim
     |some d=>simp only[q2]at p';have k5:IsAll H' (vmsk g M' fr ρ []) ds vs:=(IsAll.weak (λ_ z=>.inl z) k4:IsAll H (vmsk g M fr ρ []) ds vs).ext e;obtain⟨w,ew,iw⟩:=k5.fJ q2;exact .inl ⟨a,vs,k,w,rfl,rfl,.inl (.inl (e.h _ _ k1)),ew,p'.val rep' iw⟩
    |_=>simp only[q]at p';exact p'.elim
end
section
def SndA.one{t:TA}{f:En->Res (List R)}(h:SndA mg E t f)(rep:Rep g M ρ env σ H){α:Type}{K:List R->Res α}{P:(M:Addr->Prop)->(H:Hp)->Res α->Prop}{Q:List V->Hp->Prop}
 (hp:P M H ((f env).bind K)) (hs:∀M H,P M H .stuck->False) (hx:∀M H c,P M H (.exc c)->DE mg E g c) (he:∀M H M' H' r,Ext M H M' H'->P M H r->P M' H' r)
 (k:∀rs vs M' H',Ext M H M' H'->Rep g M' ρ env σ H'->IsAll H' (vmsk g M' (aR rs) ρ (bK rs)) (rs.map R.d) vs->P M' H' (K rs)->Q vs H'):t σ H Q:=by
 refine h g M ρ env σ H Q rep ?_;cases e:f env with
 |stuck=>rw[e]at hp;exact hs _ _ hp
 |exc c=>rw[e]at hp;exact hx _ _ c hp
 |ok r=>rw[e]at hp;exact λvs M1 H1 e1 rep1 is=>k r vs M1 H1 e1 rep1 is (he _ _ _ _ _ e1 hp)
def SndA.fH{f:En->Res (List R)}(h:SndA mg E t f)(rep:Rep g M ρ env σ H){K:List R->Res R}{Q:List V->Hp->Prop}(hp:PostE mg E g M ρ env σ H Q' ((f env).bind K))
 (k:∀rs vs M' H',Ext M H M' H'->Rep g M' ρ env σ H'->IsAll H' (vmsk g M' (aR rs) ρ (bK rs)) (rs.map R.d) vs->PostE mg E g M' ρ env σ H' Q' (K rs)->Q vs H'):t σ H Q:=
 h.one rep (P:=λM H r=>PostE mg E g M ρ env σ H Q' r) hp (λ_ _ z=>z) (λ_ _ _ z=>z) (λ_ _ _ _ _ e p=>p.ext e) k
def SndA.Je{f:En->Res (List R)}(h:SndA mg E t f)(rep:Rep g M ρ env σ H){K:List R->Res (List R)}{Q':List V->Hp->Prop}{Q:List V->Hp->Prop}(hp:PostA mg E g M ρ env σ H Q' ((f env).bind K))
 (k:∀rs vs M' H',Ext M H M' H'->Rep g M' ρ env σ H'->IsAll H' (vmsk g M' (aR rs) ρ (bK rs)) (rs.map R.d) vs->PostA mg E g M' ρ env σ H' Q' (K rs)->Q vs H'):t σ H Q:=
 h.one rep (P:=λM H r=>PostA mg E g M ρ env σ H Q' r) hp (λ_ _ z=>z) (λ_ _ _ z=>z) (λ_ _ _ _ _ e p=>p.ext e) k
def IsAll.args(h1:Is H (vmsk g M r.fr ρ r.al) r.d v)(h2:IsAll H (vmsk g M (aR rs) ρ (bK rs)) (rs.map R.d) vs) :
 IsAll H (vmsk g M (aR (r::rs)) ρ (bK (r::rs))) ((r::rs).map R.d) (v::vs):=by
 refine⟨v,vs,rfl,h1.weak λa z=>?_,h2.weak λa z=>?_⟩
 .exact(z.l:vmsk g M (r.fr&&aR rs) ρ (r.al++bK rs) a)
 .exact(z.r:vmsk g M (r.fr&&aR rs) ρ (r.al++bK rs) a)
end
section
noncomputable def ay:En->Res (List R):=λ_=>.ok []
def ak(f:En->Res R)(fs:En->Res (List R)):En->Res (List R):=λenv=>(f env).bind λr=>(fs env).bind λrs=>.ok (r::rs)
def am:AS X E [] ay:=⟨_,bR,λg M ρ env σ H Q rep p=>p [] M H (Ext.refl _ _) rep rfl⟩
def ac(he:PD X E e f)(hr:AS X E es fs)(hs:autoParam (starEach (e::es) X.env=(false,eval e X.env)::starEach es X.env) RJ):AS X E (e::es) (ak f fs):=by obtain⟨t,p1,s1⟩:=he;obtain⟨u,p2,s2⟩:=hr;refine⟨_,aI p1 p2 hs,λg M ρ env σ H Q rep p=>s1.Je rep p λr v M1 H1 e1 rep1 i1 q1=>s2.Je rep1 q1 λrs vs M2 H2 e2 rep2 i2 q2=>?_⟩;exact q2 (v::vs) M2 H2 (Ext.refl _ _) rep2 (IsAll.args (i1.ext e2) i2)
def cV(fs:En->Res (List R)):En->Res R:=λenv=>(fs env).bind λrs=>if rs.length<=lim then .ok (hI (.tup (rs.map R.d)) (aR rs) (bK rs))else .stuck
def bI(h:AS X E es fs):PD X E (.Tuple es k pos) (cV fs):=by
 obtain⟨t,p1,s1⟩:=h;refine⟨_,qg p1,λg M ρ env σ H Q rep p=>s1.fH rep p λrs vs M1 H1 e1 rep1 i1 q1=>?_⟩;by_cases hl:rs.length<=lim
 .rw[ck hl]at q1;exact⟨by rw[i1.length,cM];exact eS hl,λa ha=>q1.tup rep1 ha i1⟩
 .rw[cO hl]at q1;exact q1.elim
def lV(fs:En->Res (List R)):En->Res R:=λenv=>(fs env).bind λrs=>if rs.length<=lim then .ok (gP (rs.map R.d) (aR rs) (bK rs))else .stuck
def hV(h:AS X E es fs):PD X E (.List es pos) (lV fs):=by
 obtain⟨t,p1,s1⟩:=h;refine⟨_,zZ p1,λg M ρ env σ H Q rep p=>s1.fH rep p λrs vs M1 H1 e1 rep1 i1 q1=>?_⟩;by_cases hl:rs.length<=lim
 .rw[ck hl]at q1;exact⟨by rw[i1.length,cM];exact eS hl,λa ha=>q1.lst rep1 ha i1⟩
 .rw[cO hl]at q1;exact q1.elim
end
def nl(H0 H':Hp)(a:Addr):Prop:=H0 a=none/\Mu H' a
def RetOk(g:Gd)(H':Hp)(v:V):R->Prop
 |.val d fr _=>Is H' (λa=>nl g.H₀ H' a\/(fr=false/\g.Ma a)) d v
 |.new ds fr=>∃a vs,v=.ref a/\H' a=some (.lst vs)/\g.H₀ a=none/\IsAll H' (λb=>b≠a/\(nl g.H₀ H' b\/(fr=false/\g.Ma b))) ds vs
 |.iS d=>Is H' (nl g.H₀ H') d v
def Ks(mg:Str->Option Rz)(E:XK)(g:Gd)(Q:VK):Res R->Prop
 |.stuck=>False
 |.exc c=>DE mg E g c
 |.ok r=>∀v H',Same g.H₀ H'->RetOk g H' v r->Q v H'
def tB(mg:Str->Option Rz)(n:Nat)(F:List D->Res R):Sp:=λvs H Q E=>vs.length=n/\∃ds Ma,IsAll H Ma ds vs/\Ks mg E (Kp H Ma) Q (F ds)
def FE(d:D)(fr:Bool)(rs:List R):R:=if d.flat then .val d true []else if fr then .iS d else .val d (aR rs) (bK rs)
def hW(rs:List R):R->R
 |.val d fr _=>FE d fr rs
 |.new ds fr=>if D.ba ds then .new ds true else if fr then .iS (.lst ds)else if(bK rs).isEmpty then .new ds (aR rs)else .val (.lst ds) (aR rs) (bK rs)
 |.iS d=>FE d true rs
section
def Rep.came(rep:Rep g M ρ env σ H)(s:Same H H')(p:Addr->Prop):Rep g (λa=>M a\/(nl H H' a/\p a)) ρ env σ H':=(rep.grow s).CB λa z=>⟨z.1.2,rep.same.free z.1.1,(rep.free z.1.1).2.2⟩
def AV(rs:List R)(rep:Rep g M ρ env σ H)(s:Same H H')(h:Is H' (λa=>nl H H' a\/(fr=false/\vmsk g M (aR rs) ρ (bK rs) a)) d v) :
 ∃M',Ext M H M' H'/\Rep g M' ρ env σ H'/\ROk g M' ρ H H' v (FE d fr rs):=by
 unfold FE;by_cases hf:d.flat=true
 .rw[ck hf];exact⟨M,⟨λ_ z=>z,s,λ_ z=>.inl z⟩,rep.grow s,Is.flat hf h⟩
 .rw[cO hf];cases fr with
  |true=>
   refine⟨M,⟨λ_ z=>z,s,λ_ z=>.inl z⟩,rep.grow s,nl H H',λa z=>?_,?_⟩
   .exact⟨λw=>rep.fI a w z.1,z.1,z.2,(rep.free z.1).2.2⟩
   .exact Is.weak (λa z=>z.elim id λw=>by cases w.1) h
  |false=>
   refine⟨_,⟨λ_=>.inl,s,λ_ z=>z.imp id (·.1.1)⟩,rep.came s λ_=>True,?_⟩;refine Is.weak (λa z=>?_) h;rcases z with z|⟨_,z⟩
   .exact .inl ⟨.inr ⟨z,True.intro⟩,λ_=>rep.same.free z.1⟩
   .exact z.mono λ_=>.inl
def RetOk.caller(rs:List R)(rep:Rep g M ρ env σ H)(s:Same H H')(h:RetOk (Kp H (vmsk g M (aR rs) ρ (bK rs))) H' v r) :
 ∃M',Ext M H M' H'/\Rep g M' ρ env σ H'/\ROk g M' ρ H H' v (hW rs r):=by
 cases r with
 |val d fr al=>exact AV rs rep s h
 |iS d=>exact AV rs rep s (Is.weak (λa z=>.inl z) h)
 |new ds fr=>
  obtain⟨a,vs,rfl,h1,h2,h3⟩:=h;have h2:H a=none:=h2;obtain⟨f0,f1,f2⟩:=rep.free h2;have R1:Rep g (λb=>M b\/(nl H H' b/\b≠a)) ρ env σ H':=rep.came s λb=>b≠a;have nm:¬(M a\/(nl H H' a/\a≠a)):=λz=>z.elim f1 λz=>z.2 rfl;have X1:Ext M H (λb=>M b\/(nl H H' b/\b≠a)) H':=⟨λ_=>.inl,s,λ_ z=>z.imp id (·.1.1)⟩;unfold hW;dsimp only;by_cases hfl:D.ba ds=true
  .rw[ck hfl];exact⟨_,X1,R1,a,vs,rfl,h1,nm,h2,f2,IsAll.flat hfl h3⟩
  .rw[cO hfl];cases fr with
   |true=>
    refine⟨M,⟨λ_ z=>z,s,λ_ z=>.inl z⟩,rep.grow s,nl H H',λa z=>?_,?_⟩
    .exact⟨λw=>rep.fI a w z.1,z.1,z.2,(rep.free z.1).2.2⟩
    .exact⟨a,vs,rfl,.inl ⟨h1,h2,Mu.lst h1⟩,IsAll.weak (λb z=>z.2.elim id λw=>by cases w.1) h3⟩
   |false=>
    simp only[gy,Oh];by_cases hc:(bK rs).isEmpty=true
    .rw[ck hc];refine⟨_,X1,R1,a,vs,rfl,h1,nm,h2,f2,?_⟩;refine IsAll.weak (λb z=>?_) h3;rcases z with⟨nb,z|⟨hf,z⟩⟩
     .exact⟨.inr ⟨z,nb⟩,λ_=>rep.same.free z.1⟩
     .have hl:bK rs=[]:=by simpa using hc
      have z:vmsk g M (aR rs) ρ (bK rs) b:=z;rw[hl]at z;exact⟨.inl z.nil.1,z.nil.2⟩
    .rw[cO hc];refine⟨λb=>(M b\/(nl H H' b/\b≠a))\/b=a,⟨λ_ z=>.inl (.inl z),s,λb z=>z.elim (X1.n b) λe=>.inr (e▸h2)⟩,R1.more h1 f0 f2,a,vs,rfl,.inl ⟨h1,.inl ⟨.inr rfl,λ_=>f0⟩⟩,?_⟩;refine IsAll.weak (λb z=>?_) h3;rcases z with⟨nb,z|⟨hf,z⟩⟩
     .exact .inl ⟨.inl (.inr ⟨z,nb⟩),λ_=>rep.same.free z.1⟩
     .exact vmsk.mono (λ_ w=>.inl (.inl w)) z
end
section
variable{X:Cx}{ps:List Str}
def cn(F:List D->Res R)(fs:En->Res (List R)):En->Res R:=λenv=>(fs env).bind λrs=>(F (rs.map R.d)).bind λr=>.ok (hW rs r)
def AW(hl:∀env rs,fs env=.ok rs->rs.length=ps.length)(s:SndA X.mg E t fs):Snd X.mg E (z4 (tB X.mg ps.length F) [] E t) (cn F fs):=by
 intro g M ρ env σ H Q rep p;refine s g M ρ env σ H _ rep ?_;unfold cn at p;cases e:fs env with
 |stuck=>rw[e]at p;exact p
 |exc c=>rw[e]at p;exact p
 |ok rs=>
  rw[e]at p;intro vs M1 H1 e1 rep1 is;have p1:PostE X.mg E g M1 ρ env σ H1 Q ((F (rs.map R.d)).bind λr=>.ok (hW rs r)):=PostE.ext e1 p;rw[Oo];refine⟨by rw[is.length,cM];exact hl env rs e,rs.map R.d,_,is,?_⟩;cases q:F (rs.map R.d)with
  |stuck=>rw[q]at p1;exact p1
  |exc c=>rw[q]at p1;exact λcls dx H' h1 h2=>p1 cls dx H' h1 (rep1.same.trans h2)
  |ok r=>rw[q]at p1;intro v H2 s2 ro;obtain⟨M3,e3,rep3,ro3⟩:=RetOk.caller rs rep1 s2 ro;exact p1 v M3 H2 e3 rep3 ro3
def DG(G:cS X.prog X.w X.K X.mg X.base CX k f fd ps (tB X.mg ps.length F))(hr:gC k X.A)(hg:Gl X x)(hm:X.mg x=some (.ref f))(hk:keepIn X.K (.ref f)=true)(hb:Binds X.K fd ps [])(hx:ke CX X E)
 (ha:AS X E (e::es) fs) (hl:∀env rs,fs env=.ok rs->rs.length=ps.length) (hdb:autoParam (dB x) ab) (he:autoParam (sE X e es) RJ) (hpl:autoParam (bT X pos es) RJ) :
 PD X E (.Call (.Name x p) (e::es) [] pos) (cn F fs):=by
 obtain⟨t,p1,s1⟩:=ha;exact⟨_,wg G hr hg hm hk hb .nil hx p1 hdb he hpl,AW hl s1⟩
def be:∀env rs,ay env=.ok rs->rs.length=0:=λ_ _ e=>by cases e;rfl
def au{f:En->Res R}{fs:En->Res (List R)}(h:∀env rs,fs env=.ok rs->rs.length=n):∀env rs,ak f fs env=.ok rs->rs.length=n+1:=λenv rs e=>by
 unfold ak at e;cases q:f env with
 |stuck=>rw[q]at e;cases e
 |exc c=>rw[q]at e;cases e
 |ok r=>
  rw[q]at e;cases q2:fs env with
  |stuck=>simp only[Res.iL,q2]at e;cases e
  |exc c=>simp only[Res.iL,q2]at e;cases e
  |ok rs'=>simp only[Res.iL,q2]at e;cases e;simp[h env rs' q2]
def iV(X:Cx)(E:XK)(f:Rz)(k:List R->Res R):Prop:=∃r,CallR X f r/\
 ∀g M ρ env σ H Q rs vs,Rep g M ρ env σ H->IsAll H (vmsk g M (aR rs) ρ (bK rs)) (rs.map R.d) vs->PostE X.mg E g M ρ env σ H Q (k rs)->r vs H Q
def j9(k:List R->Res R)(fs:En->Res (List R)):En->Res R:=λenv=>(fs env).bind k
def bx{id:String}{k:List R->Res R}(hc:iV X E (.builtin id) k) (hg:Gl X x) (hm:X.mg x=none) (hv:bootBuiltins x=some (.builtin id)) (ha:AS X E (e::es) fs) (hn:autoParam (x≠"__name__") ab) (hdb:autoParam (dB x) ab)
 (he:autoParam (starEach (e::es) X.env=(false,eval e X.env)::starEach es X.env) RJ) (hpl:autoParam (bT X pos es) RJ):PD X E (.Call (.Name x p) (e::es) [] pos) (j9 k fs):=by
 obtain⟨r,h1,h2⟩:=hc;obtain⟨t,p1,s1⟩:=ha;exact⟨_,f6 h1 hg hm hv p1 hn hdb he hpl,λg M ρ env σ H Q rep p=>s1.fH rep p λrs vs M1 H1 e1 rep1 i1 q1=>h2 g M1 ρ env σ H1 Q rs vs rep1 i1 q1⟩
def eF{k:List R->Res R}(hc:iV X E (.type T) k) (hg:Gl X x) (hm:X.mg x=none) (hv:bootBuiltins x=some (.type T)) (ha:AS X E (e::es) fs) (hn:autoParam (x≠"__name__") ab) (hdb:autoParam (dB x) ab)
 (he:autoParam (starEach (e::es) X.env=(false,eval e X.env)::starEach es X.env) RJ) (hpl:autoParam (bT X pos es) RJ):PD X E (.Call (.Name x p) (e::es) [] pos) (j9 k fs):=by
 obtain⟨r,h1,h2⟩:=hc;obtain⟨t,p1,s1⟩:=ha;exact⟨_,kf h1 hg hm hv p1 hn hdb he hpl,λg M ρ env σ H Q rep p=>s1.fH rep p λrs vs M1 H1 e1 rep1 i1 q1=>h2 g M1 ρ env σ H1 Q rs vs rep1 i1 q1⟩
def AX:List R->Res R
 |[r]=>match r.d with
  |.lst ds=>.ok (.val (.int ds.length) true [])
  |.tup ds=>.ok (.val (.int ds.length) true [])
  |.str z=>if z.length<=lim then .ok (.val (.int z.length) true [])else .stuck
  |_=>.stuck
 |_=>.stuck
def Hi:iV X E (.builtin "len") AX:=by
 refine⟨_,call_len_seq.or qj,λg M ρ env σ H Q rs vs rep i p=>?_⟩;rcases rs with _|⟨r,_|_⟩
 .exact p.elim
 rotate_left
 .exact p.elim
 obtain⟨v,w,rfl,i1,i2⟩:=i;cases i2;have i1:Is H (vmsk g M (aR [r]) ρ (bK [r])) r.d v:=i1;unfold AX at p;dsimp only at p;cases q:r.d with
 |lst ds=>rw[q]at p i1;obtain⟨a,ws,rfl,h1,h2⟩:=i1.rd;exact .inl ⟨a,ws,rfl,.inl (.inl h1),by rw[h2.length];exact p _ M H (Ext.refl _ _) rep rfl⟩
 |tup ds=>rw[q]at p i1;obtain⟨a,ws,rfl,h1,h2⟩:=i1;exact .inl ⟨a,ws,rfl,.inr (SqT.of h1),by rw[h2.length];exact p _ M H (Ext.refl _ _) rep rfl⟩
 |str z=>
  rw[q]at p i1;cases i1;by_cases hz:z.length<=lim
  .simp only[hz,O_]at p;exact .inr ⟨z,rfl,eS hz,p _ M H (Ext.refl _ _) rep rfl⟩
  .simp only[hz,Oh]at p;exact p.elim
 |_=>rw[q]at p;exact p.elim
def tE:List R->Res R
 |[r]=>match r.d with
  |.lst ds=>.ok (gP ds r.fr r.al)
  |.tup ds=>.ok (gP ds r.fr r.al)
  |_=>.stuck
 |_=>.stuck
def qM(h:vmsk g M (aR [r]) ρ (bK [r]) a):vmsk g M r.fr ρ r.al a:=by
 have e1:aR [r]=r.fr:=by simp[aR]
 have e2:bK [r]=r.al:=by simp[bK]
 rw[e1,e2]at h;exact h
def DH:iV X E (.type "list") tE:=by
 refine⟨_,ql,λg M ρ env σ H Q rs vs rep i p=>?_⟩;rcases rs with _|⟨r,_|_⟩
 .exact p.elim
 rotate_left
 .exact p.elim
 obtain⟨v,w,rfl,i1,i2⟩:=i;cases i2;have i1:Is H (vmsk g M (aR [r]) ρ (bK [r])) r.d v:=i1;replace i1:=i1.weak λ_ z=>qM z;unfold tE at p;dsimp only at p;cases q:r.d with
 |lst ds=>rw[q]at p i1;obtain⟨a,ws,rfl,h1,h2⟩:=i1.rd;exact⟨a,ws,rfl,.inl (.inl h1),λl hl=>p.lst rep hl h2⟩
 |tup ds=>rw[q]at p i1;obtain⟨a,ws,rfl,h1,h2⟩:=i1;exact⟨a,ws,rfl,.inr (SqT.of h1),λl hl=>p.lst rep hl h2⟩
 |_=>rw[q]at p;exact p.elim
end
inductive Fl where
 |nx (env:En)|rt (r:R)|bk (env:En)|ct (env:En)|rm (r:R) (env:En)
structure g7(M:Addr->Prop) (H:Hp) (M':Addr->Prop) (H':Hp):Prop where
 m:∀a,M a->M' a
 h:∀a o,H a=some o->(M a\/dE o)->H' a=some o
def g7.refl(M:Addr->Prop)(H:Hp):g7 M H M H:=⟨λ_ z=>z,λ_ _ e _=>e⟩
def g7.trans{M M1 M2:Addr->Prop}(a:g7 M H M1 H1)(b:g7 M1 H1 M2 H2):g7 M H M2 H2:=⟨λx z=>b.m x (a.m x z),λx o e z=>b.h x o (a.h x o e z) (z.imp (a.m x) id)⟩
def Ext.az(e:Ext M H M' H'):g7 M H M' H':=⟨e.m,λa o q _=>e.h a o q⟩
section
variable(mg:Str->Option Rz)(E:XK)(g:Gd)(M:Addr->Prop)(H:Hp)(D:Ends)
def PostS:Res Fl->Prop
 |.stuck=>False
 |.exc c=>DE mg E g c
 |.ok (.nx env)=>∀σ M' ρ H',g7 M H M' H'->Rep g M' ρ env σ H'->D.nx σ H'
 |.ok (.bk env)=>∀σ M' ρ H',g7 M H M' H'->Rep g M' ρ env σ H'->D.bk σ H'
 |.ok (.ct env)=>∀σ M' ρ H',g7 M H M' H'->Rep g M' ρ env σ H'->D.ct σ H'
 |.ok (.rt r)=>∀v M' H',g7 M H M' H'->Same g.H₀ H'->((∀a,¬g.Z a)->RetOk g H' v r)->(r.d.flat=true->Is H' (λ_=>False) r.d v)->D.rt v H'
 |.ok (.rm r env)=>∀v σ M' ρ H0 H',g7 M H M' H'->Rep g M' ρ env σ H'->Same g.H₀ H0->ROk g M' ρ H0 H' v r->D.rt v H'
end
def DI(mg:Str->Option Rz)(E:XK)(t:TS)(f:En->Res Fl):Prop:=∀g M ρ env σ H D,Rep g M ρ env σ H->PostS mg E g M H D (f env)->t D σ H
def lc(X:Cx)(E:XK)(st:Stmt)(f:En->Res Fl):Prop:=∃t,PS X st t/\DI X.mg E t f
def oH(X:Cx)(E:XK)(st:List Stmt)(f:En->Res Fl):Prop:=∃t,PSs X st t/\DI X.mg E t f
section
variable{D:Ends}
def PostS.az(e:g7 M H M' H')(p:PostS mg E g M H D r):PostS mg E g M' H' D r:=by
 cases r with
 |stuck=>exact p
 |exc c=>exact p
 |ok r=>cases r with
  |nx env=>exact λσ M2 ρ2 H2 e2=>p σ M2 ρ2 H2 (e.trans e2)
  |bk env=>exact λσ M2 ρ2 H2 e2=>p σ M2 ρ2 H2 (e.trans e2)
  |ct env=>exact λσ M2 ρ2 H2 e2=>p σ M2 ρ2 H2 (e.trans e2)
  |rt r=>exact λv M2 H2 e2=>p v M2 H2 (e.trans e2)
  |rm r env=>exact λv σ M2 ρ2 H0 H2 e2=>p v σ M2 ρ2 H0 H2 (e.trans e2)
def Snd.iT{f:En->Res R}(h:Snd mg E t f)(rep:Rep g M ρ env σ H){K:R->Res Fl}(hp:PostS mg E g M H D ((f env).bind K))
 (k:∀r v M' H',Ext M H M' H'->Rep g M' ρ env σ H'->ROk g M' ρ H H' v r->PostS mg E g M' H' D (K r)->Q v H'):t σ H Q:=by
 refine h g M ρ env σ H Q rep ?_;cases e:f env with
 |stuck=>rw[e]at hp;exact hp
 |exc c=>rw[e]at hp;exact hp
 |ok r=>rw[e]at hp;exact λv M1 H1 e1 rep1 ro=>k r v M1 H1 e1 rep1 ro (PostS.az e1.az hp)
def SndT.iT{f:En->Res Bool}(h:SndT mg E t f)(rep:Rep g M ρ env σ H){K:Bool->Res Fl}{Q:Bool->Hp->Prop}(hp:PostS mg E g M H D ((f env).bind K))
 (k:∀b M' H',g7 M H M' H'->Rep g M' ρ env σ H'->PostS mg E g M' H' D (K b)->Q b H'):t σ H Q:=by
 refine h g M ρ env σ H Q rep ?_;cases e:f env with
 |stuck=>rw[e]at hp;exact hp
 |exc c=>rw[e]at hp;exact hp
 |ok r=>rw[e]at hp;exact λM1 H1 e1 rep1=>k r M1 H1 e1.az rep1 (PostS.az e1.az hp)
noncomputable def Kt(ρ:Pr)(i:Nat):Pr:=λj a=>if j=i then False else ρ j a
def vE(h:j≠i):Kt ρ i j=ρ j:=by funext a;unfold Kt;rw[cO h]
def kz(h:Kt ρ i j a):j≠i/\ρ j a:=by grind [Kt]
noncomputable def nv(ρ:Pr)(i:Nat)(T:Addr->Prop):Pr:=λj a=>if j=i then T a else ρ j a
def bh(h:j≠i):nv ρ i T j=ρ j:=by funext a;unfold nv;rw[cO h]
def b9:nv ρ i T i=T:=by funext a;unfold nv;rw[ck rfl]
def dj(env:En)(i:Nat):En:=match env[i]? with
 |some (some (.own ds fr))=>env.set i (some (.val (.lst ds) fr))
 |some (some (.cw d))=>env.set i (some (.val d true))
 |some (some (.ya _))=>env.set i none
 |some (some (.fD _))=>env.set i none
 |_=>env
def az(env:En)(al:List Nat):En:=al.foldl dj env
def qN(h:j≠i):(dj env i)[j]?=env[j]?:=by unfold dj;split<;>first|rfl|exact eG (Oz h)
def tF(i:Nat):(dj env i).length=env.length:=by unfold dj;split<;>simp
theorem qO:∀(al:List Nat){env:En}{j:Nat},¬j∈al->(az env al)[j]?=env[j]?
 |[],_,_,_=>rfl
 |i::al,env,j,h=>by show(az (dj env i) al)[j]?=_;rw[qO al λz=>h (by simp[z]),qN λz=>h (by simp[z])]
theorem d_:∀(al:List Nat)(env:En),(az env al).length=env.length
 |[],_=>rfl
 |i::al,env=>by show(az (dj env i) al).length=_;rw[d_ al,tF]
theorem Rep.dj(rep:Rep g M ρ env σ H)(i:Nat):Rep g (λa=>M a\/ρ i a) (Kt ρ i) (dj env i) σ H where
 same:=rep.same
 fI:=λb hb=>hb.elim (rep.fI b) λz=>(rep.aT i b z).2.2.some
 pZ:=λb hb=>hb.elim (rep.pZ b) λz=>.inl (rep.aT i b z).2.1
 fl:=λb hb h0=>hb.elim (λz=>rep.fl b z h0) λz=>.inl (rep.aT i b z).2.2
 slot:=λj sl ej=>by
  by_cases hj:j=i
  .subst hj;cases e:env[j]? with
   |none=>
    have:L3.dj env j=env:=by unfold L3.dj;rw[e]
    rw[this,e]at ej;cases ej
   |some o=>
    have hi:j<env.length:=(bE.mp e).1;cases o with
    |none=>
     have:L3.dj env j=env:=by unfold L3.dj;rw[e]
     rw[this,e]at ej;cases ej
    |some s0=>
     obtain⟨v,ev,k⟩:=rep.slot j s0 e;cases s0 with
     |val d fr=>
      have:L3.dj env j=env:=by unfold L3.dj;rw[e]
      rw[this,e]at ej;cases ej;exact⟨v,ev,Is.weak (λb z=>dc.mono (λ_=>.inl) z) k⟩
     |own ds fr=>
      have:L3.dj env j=env.set j (some (.val (.lst ds) fr)):=by unfold L3.dj;rw[e]
      rw[this,i7 hi]at ej;cases ej;obtain⟨a,vs,rfl,h1,h2,h4⟩:=k;have ha:=(h2 a).mpr rfl;exact⟨_,ev,a,vs,rfl,.inl ⟨h1,.inr ha,λ_=>(rep.aT j a ha).2.1⟩,IsAll.weak (λb z=>dc.mono (λ_=>.inl) z) h4⟩
     |cw d=>
      have:L3.dj env j=env.set j (some (.val d true)):=by unfold L3.dj;rw[e]
      rw[this,i7 hi]at ej;cases ej;exact⟨v,ev,Is.weak (λb z=>⟨.inr z,λ_=>(rep.aT j b z).2.1⟩) k⟩
     |ya d=>
      have:L3.dj env j=env.set j none:=by unfold L3.dj;rw[e]
      rw[this,i7 hi]at ej;cases ej
     |fD ks=>
      have:L3.dj env j=env.set j none:=by unfold L3.dj;rw[e]
      rw[this,i7 hi]at ej;cases ej
  .rw[qN hj]at ej;obtain⟨v,ev,k⟩:=rep.slot j sl ej;exact⟨v,ev,by rw[vE hj];exact SlOk.weak (λ_=>.inl) k⟩
 aT:=λj a h=>by obtain⟨hj,h⟩:=kz h;exact⟨λz=>z.elim (rep.aT j a h).1 λz=>hj (rep.apart j i a h z),(rep.aT j a h).2⟩
 apart:=λj k a h1 h2=>rep.apart j k a (kz h1).2 (kz h2).2
 ow:=λj a h=>by obtain⟨hj,h⟩:=kz h;have:=rep.ow j a h;unfold bW at this ⊢;rw[qN hj];exact this
 len:=by rw[tF];exact rep.len
 zz:=rep.zz
theorem Rep.az:∀(al:List Nat){env:En}{M:Addr->Prop}{ρ:Pr},Rep g M ρ env σ H->∃(M':Addr->Prop)(ρ':Pr),(∀a,M a->M' a)/\Rep g M' ρ' (L3.az env al) σ H/\(∀i,i∈al->∀a,ρ i a->M' a)/\(∀j a,ρ' j a->ρ j a)/\(∀j,¬j∈al->ρ' j=ρ j)
 |[],env,M,ρ,rep=>⟨M,ρ,λ_ z=>z,rep,λ_ z=>absurd z (by simp),λ_ _ o=>o,λ_ _=>rfl⟩
 |i::al,env,M,ρ,rep=>by
  obtain⟨M2,ρ2,e2,rep2,o2,k2,l2⟩:=Rep.az al (rep.dj i);refine⟨M2,ρ2,λa z=>e2 a (.inl z),rep2,λj hj a o=>?_,λj a o=>(kz (k2 j a o)).2,λj hj=>?_⟩
  .by_cases hji:j=i
   .exact e2 a (.inr (hji▸o))
   .exact o2 j ((j5.mp hj).resolve_left hji) a (by rw[vE hji];exact o)
  .rw[l2 j λz=>hj (by simp[z]),vE λz=>hj (by simp[z])]
def Is.frozen(rep:Rep g M ρ env σ H)(e:∀a,M a->M' a)(hm:∀i,i∈al->∀a,ρ i a->M' a)(h:Is H (vmsk g M fr ρ al) d v):Is H (dc g M' fr) d v:=h.weak λa z=>z.elim (dc.mono e) λ⟨i,hi,o⟩=>⟨hm i hi a o,λ_=>(rep.aT i a o).2.1⟩
def Rep.put(rep:Rep g M ρ env σ H)(hi:i<env.length)(ok:SlOk g M T H v sl)(ht:∀a,T a->¬M a/\g.H₀ a=none/\Mu H a/\∀j,j≠i->¬ρ j a)(hO:autoParam (∀a,T a->sl.LU=true) RF._auto_1) :
 Rep g M (nv ρ i T) (env.set i (some sl)) (σ.set i (some v)) H:=by
 have hi2:i<σ.length:=by rw[<- rep.len];exact hi
 refine⟨rep.same,rep.fI,rep.pZ,rep.fl,λj s ej=>?_,λj a h=>?_,λj k a h1 h2=>?_,λj a h=>?_,by rw[OQ,OQ];exact rep.len,rep.zz⟩
 .by_cases hj:j=i
  .subst hj;rw[i7 hi]at ej;cases ej;exact⟨v,i7 hi2,by rw[b9];exact ok⟩
  .rw[eG (Oz hj)]at ej;obtain⟨w,ew,k⟩:=rep.slot j s ej;exact⟨w,by rw[eG (Oz hj)];exact ew,by rw[bh hj];exact k⟩
 .by_cases hj:j=i
  .subst hj;rw[b9]at h;exact⟨(ht a h).1,(ht a h).2.1,(ht a h).2.2.1⟩
  .rw[bh hj]at h;exact rep.aT j a h
 .by_cases hj:j=i
  .by_cases hk:k=i
   .rw[hj,hk]
   .subst hj;rw[b9]at h1;rw[bh hk]at h2;exact absurd h2 ((ht a h1).2.2.2 k hk)
  .by_cases hk:k=i
   .subst hk;rw[b9]at h2;rw[bh hj]at h1;exact absurd h1 ((ht a h2).2.2.2 j hj)
   .rw[bh hj]at h1;rw[bh hk]at h2;exact rep.apart j k a h1 h2
 .unfold bW;by_cases hj:j=i
  .subst hj;rw[b9]at h;rw[i7 hi];exact hO a h
  .rw[bh hj]at h;rw[eG (Oz hj)];exact rep.ow j a h
def put(env:En)(i:Nat):R->En
 |.new ds fr=>env.set i (some (.own ds fr))
 |.val d fr al=>(az env al).set i (some (.val d fr))
 |.iS d=>env.set i (some (.cw d))
def Rep.store(rep:Rep g M ρ env σ H)(h0:Same g.H₀ H0)(hi:i<env.length)(h:ROk g M ρ H0 H v r):∃M' ρ',g7 M H M' H/\Rep g M' ρ' (L3.put env i r) (σ.set i (some v)) H:=by
 cases r with
 |new ds fr=>obtain⟨a,vs,rfl,h1,h2,h3,h4,h5⟩:=h;exact⟨M,_,g7.refl _ _,rep.put (sl:=.own ds fr) (T:=λb=>b=a) hi ⟨a,vs,rfl,h1,λ_=>Iff.rfl,h5⟩ λb e=>by subst e;exact⟨h2,h0.free h3,Mu.lst h1,λj _=>h4 j⟩⟩
 |val d fr al=>obtain⟨M1,ρ1,e1,rep1,o1,k1,_⟩:=Rep.az al rep;exact⟨M1,_,⟨e1,λ_ _ e _=>e⟩,rep1.put (sl:=.val d fr) (T:=λ_=>False) (by rw[d_];exact hi) (Is.frozen rep e1 o1 h) (λ_ z=>z.elim) λ_ z=>z.elim⟩
 |iS d=>obtain⟨T,ht,is⟩:=h;exact⟨M,_,g7.refl _ _,rep.put (sl:=.cw d) (T:=T) hi is λb z=>let ⟨a1,a2,a3,a4⟩:=ht b z;⟨a1,h0.free a2,a3,λj _=>a4 j⟩⟩
def Rep.wa(hu:G8 u')(rep:Rep g M ρ env σ H)(o:ρ i a)(hi:i<env.length)(ev:σ[i]?=some (some v))(ok:SlOk g M (ρ i) (aC H a u') v sl)(hO:autoParam (sl.LU=true) RJ) :
 g7 M H M (aC H a u')/\Rep g M ρ (env.set i (some sl)) σ (aC H a u'):=by
 obtain⟨nm,n0,uo,ha,hmu⟩:=rep.aT i a o;have nfx:∀u,H a=some u->¬dE u:=λu e z=>by rw[ha]at e;cases e;cases uo<;>first|exact z|exact hmu
 have kp:∀b u,H b=some u->(M b\/dE u)->aC H a u' b=some u:=λb u q z=>by grind [af]
 have km:∀(fr:Bool) b u,H b=some u->(dc g M fr b\/dE u)->aC H a u' b=some u:=λfr b u q z=>kp b u q (z.imp (·.1) id);refine⟨⟨λ_ z=>z,kp⟩,λb u q=>?_,λb hb=>?_,rep.pZ,λb hb h0=>?_,λj s ej=>?_,λj b h=>?_,rep.apart,λj b h=>?_,by rw[OQ];exact rep.len,λc z e=>by
  by_cases hc:c=a
  .subst hc;rw[ag]at e;cases e
  .rw[af hc]at e;exact rep.zz c z e⟩
 .rw[af (λz=>by rw[z,n0]at q;cases q)];exact rep.same b u q
 .have nb:b≠a:=λz=>nm (by rw[<- z];exact hb);rw[af nb];exact rep.fI b hb
 .have nb:b≠a:=λz=>nm (by rw[<- z];exact hb);exact(rep.fl b hb h0).same λo e=>by rw[af nb];exact e
 .by_cases hj:j=i
  .grind
  .rw[eG (Oz hj)]at ej;obtain⟨w,ew,k⟩:=rep.slot j s ej;refine⟨w,ew,?_⟩;have nj:∀b,ρ j b->b≠a:=λb hb e=>hj (rep.apart j i a (e▸hb) o);cases s with
   |val d fr=>exact Is.mono (km fr) (λ_ _ _ z=>z) k
   |own ds' fr'=>obtain⟨b,ws,rfl,h1,h2,h4⟩:=k;exact⟨b,ws,rfl,by rw[af (nj b ((h2 b).mpr rfl))];exact h1,h2,IsAll.mono (km fr') (λ_ _ _ z=>z) h4⟩
   |cw d=>
    refine Is.mono (λb u q z=>?_) (λ_ _ _ z=>z) k
    grind [af]
   |ya d=>refine IsSh.mono (λb u q z=>kp b u q (.inr z)) (λb ws z q=>⟨ws,by rw[af (nj b z)];exact q⟩) (λ_ z=>z) k
   |fD ks=>
    refine jw (λb u q z=>?_) k
    grind [af]
 .obtain⟨b1,b2,b3⟩:=rep.aT j b h;refine⟨b1,b2,?_⟩;by_cases e:b=a
  .exact⟨u',by rw[e,ag],hu⟩
  .exact b3.same λo z=>by rw[af e];exact z
 .unfold bW;by_cases hj:j=i
  .subst hj;rw[i7 hi];exact hO
  .rw[eG (Oz hj)];exact rep.ow j b h
def Rep.write(rep:Rep g M ρ env σ H)(o:ρ i a)(hi:i<env.length)(ev:σ[i]?=some (some v))(ok:SlOk g M (ρ i) (aC H a (.lst vs')) v sl)(hO:autoParam (sl.LU=true) RJ) :
 g7 M H M (aC H a (.lst vs'))/\Rep g M ρ (env.set i (some sl)) σ (aC H a (.lst vs')):=rep.wa (u':=.lst vs') True.intro o hi ev ok hO
end
section
noncomputable def iO:En->Res Fl:=λenv=>.ok (.nx env)
def aM(f k:En->Res Fl):En->Res Fl:=λenv=>(f env).bind λr=>match r with
 |.nx aB=>k aB
 |r=>.ok r
def bz:oH X E [] iO:=⟨_,CT,λg M ρ env σ H D rep p=>p σ M ρ H (g7.refl _ _) rep⟩
def ar{st:Stmt}{f:En->Res Fl}(h:lc X E st f):oH X E [st] f:=let ⟨t,a,b⟩:=h;⟨t,mh a,b⟩
def aj{st:Stmt}{aX:List Stmt}{f k:En->Res Fl}(h1:lc X E st f)(h2:oH X E aX k):oH X E (st::aX) (aM f k):=by
 obtain⟨t,a,b⟩:=h1;obtain⟨u,c,d⟩:=h2;refine⟨_,mL a c,λg M ρ env σ H D rep p=>b g M ρ env σ H _ rep ?_⟩;unfold aM at p;cases q:f env with
 |stuck=>rw[q]at p;exact p
 |exc c=>rw[q]at p;exact p
 |ok r=>
  rw[q]at p;cases r with
  |nx aB=>exact λσ' M' ρ' H' e rep'=>d g M' ρ' aB σ' H' D rep' (PostS.az e p)
  |bk aB=>exact p
  |ct aB=>exact p
  |rt r=>exact p
  |rm r aB=>exact p
def tG(c:En->Res Bool)(a b:En->Res Fl):En->Res Fl:=λenv=>(c env).bind λk=>if k then a env else b env
def cW(hc:zJ X E c fc)(ha:oH X E a fa)(hb:oH X E b fb):lc X E (.If c a b pos) (tG fc fa fb):=by
 obtain⟨tc,p1,s1⟩:=hc;obtain⟨ta,p2,s2⟩:=ha;obtain⟨tb,p3,s3⟩:=hb;refine⟨_,JE p1 p2 p3,λg M ρ env σ H D rep p=>s1.iT rep p λb M' H' e rep' p'=>?_⟩;cases b with
 |true=>exact uV (s2 g M' ρ env σ H' D rep' p')
 |false=>exact uU (s3 g M' ρ env σ H' D rep' p')
def dR(f:En->Res R):En->Res Fl:=λenv=>(f env).bind λr=>.ok (.rt r)
def ROk.ret(rep:Rep g M ρ env σ H)(h0:Same g.H₀ H0)(h:ROk g M ρ H0 H v r)(hz:∀a,¬g.Z a):RetOk g H v r:=by
 have mu:∀a,M a->g.H₀ a=none->Mu H a:=λa h1 h2=>(rep.fl a h1 h2).elim id λz=>(hz a z.1).elim;have key:∀{fr:Bool}{a:Addr},dc g M fr a->nl g.H₀ H a\/(fr=false/\g.Ma a):=λ{fr a} z=>by
  cases fr with
  |true=>exact .inl ⟨z.2 rfl,mu a z.1 (z.2 rfl)⟩
  |false=>exact(rep.pZ a z.1).imp (λw=>⟨w,mu a z.1 w⟩) λw=>⟨rfl,w⟩
 cases r with
 |val d fr al=>exact Is.weak (λa z=>z.elim key λ⟨i,_,o⟩=>.inl (rep.aT i a o).2) h
 |new ds fr=>obtain⟨a,vs,rfl,h1,h2,h3,h4,h5⟩:=h;exact⟨a,vs,rfl,h1,h0.free h3,IsAll.weak (λb z=>⟨λe=>h2 (e▸z.1),key z⟩) h5⟩
 |iS d=>obtain⟨T,ht,is⟩:=h;exact Is.weak (λa z=>let ⟨_,a2,a3,_⟩:=ht a z;⟨h0.free a2,a3⟩) is
def ROk.flatIs(h:ROk g M ρ H0 H v r)(hf:r.d.flat=true):Is H (λ_=>False) r.d v:=by
 cases r with
 |val d fr al=>exact Is.flat hf h
 |new ds fr=>simp[D.flat,R.d]at hf
 |iS d=>obtain⟨T,_,is⟩:=h;exact Is.flat hf is
def aP(h:PD X E e f):lc X E (.Return (some e) pos) (dR f):=by obtain⟨t,p1,s1⟩:=h;exact⟨_,zN p1,λg M ρ env σ H D rep p=>s1.iT rep p λr v M' H' e rep' ro p'=>p' v M' H' (g7.refl _ _) rep'.same (λhz=>ro.ret rep' rep.same hz) λhf=>ro.flatIs hf⟩
def b_(i:Nat)(f:En->Res R):En->Res Fl:=λenv=>(f env).bind λr=>if i<env.length then .ok (.nx (put env i r))else .stuck
def qP(s:Snd mg E t f):DI mg E (yg t (d7 i)) (b_ i f):=by
 intro g M ρ env σ H D rep p;refine s.iT rep p λr v M' H' e rep' ro p'=>?_;by_cases hi:i<env.length
 .rw[ck hi]at p';obtain⟨M2,ρ2,e2,rep2⟩:=rep'.store rep.same hi ro;exact p' _ M2 ρ2 H' e2 rep2
 .rw[cO hi]at p';exact p'.elim
def aQ(hN:X.N.Nodup)(hi:X.N[i]?=some x)(hx:CG X.env.scope x)(h:PD X E e f)(hs:autoParam (swapsWith e (some (.Name x pos')) pos.line X.env=pure false) RJ)
 (hf:autoParam (X.fn x=true\/X.env.scope.names.lookup x=some .local) RH):lc X E (.Assign [.Name x pos'] e pos) (b_ i f):=by
 obtain⟨t,p1,s1⟩:=h;exact⟨_,mM hN hi hx p1 hs hf,qP s1⟩
def h7(env:En)(i:Nat):Option (List D×Bool):=match env[i]? with
 |some (some (.own ds fr))=>some (ds,fr)
 |some (some (.cw (.lst ds)))=>some (ds,true)
 |_=>none
mutual
noncomputable def D.sz:D->Nat
 |.tup ds=>D.Jt ds+1
 |.lst ds=>D.Jt ds+1
 |.bp _ ds=>D.Jt ds+1
 |_=>0
noncomputable def D.Jt:List D->Nat
 |[]=>0
 |d::ds=>d.sz+D.Jt ds+1
end
section
mutual
theorem Is.avoid(ha:Is H m' e (.ref a)):∀{d:D}{v:V},d.sz<e.sz->Is H m d v->Is H (λb=>m b/\b≠a) d v
 |.fU,_,_,h=>h
 |.bl _,_,_,h=>h
 |.int _,_,_,h=>h
 |.str _,_,_,h=>h
 |.tup ds,_,hs,h=>by obtain⟨b,vs,rfl,h1,h2⟩:=h;simp only[D.sz]at hs;exact⟨b,vs,rfl,h1,IsAll.avoid ha (by lia) h2⟩
 |.lst ds,_,hs,h=>by
  have h':=h;obtain⟨b,vs,rfl,h1,h2⟩:=h;have nb:b≠a:=λz=>by subst z;have q:=Is.inj h' ha;rw[q]at hs;lia
  simp only[D.sz]at hs;refine⟨b,vs,rfl,?_,IsAll.avoid ha (by lia) h2⟩;rcases h1 with⟨h1,h3⟩|⟨o,h1,h3⟩
  .exact .inl ⟨h1,h3,nb⟩
  .exact .inr ⟨o,h1,h3,nb⟩
 |.bp ks ds,_,hs,h=>by
  have h':=h;obtain⟨b,kvs,rfl,h1,h2⟩:=h;have nb:b≠a:=λz=>by subst z;have q:=Is.inj h' ha;rw[q]at hs;lia
  simp only[D.sz]at hs;exact⟨b,kvs,rfl,⟨h1.1,h1.2,nb⟩,IsAll.avoid ha (by lia) h2⟩
theorem IsAll.avoid(ha:Is H m' e (.ref a)):∀{ds:List D}{vs:List V},D.Jt ds<e.sz->IsAll H m ds vs->IsAll H (λb=>m b/\b≠a) ds vs
 |[],_,_,h=>h
 |d::ds,_,hs,h=>by obtain⟨v,r,rfl,h1,h2⟩:=h;simp only[D.Jt]at hs;exact⟨v,r,rfl,Is.avoid ha (by lia) h1,IsAll.avoid ha (by lia) h2⟩
end
end
def Rep.yc(rep:Rep g M ρ env σ H)(e:h7 env i=some (ds,fr)) :
 ∃(M':Addr->Prop)(ρ':Pr)(a:Addr)(vs:List V),(∀b,M b->M' b)/\Rep g M' ρ' (env.set i (some (.own ds fr))) σ H/\σ[i]?=some (some (.ref a))/\H a=some (.lst vs)/\(∀b,ρ' i b↔b=a)/\IsAll H (dc g M' fr) ds vs/\i<env.length/\(∀j b,ρ' j b->ρ j b)/\(∀j,j≠i->ρ' j=ρ j):=by
 unfold h7 at e;cases q:env[i]? with
 |none=>rw[q]at e;cases e
 |some o=>
  have hi:i<env.length:=(bE.mp q).1;have hself:env.set i (env[i])=env:=QO hi;cases o with
  |none=>rw[q]at e;cases e
  |some sl=>
   obtain⟨v,ev,k⟩:=rep.slot i sl q;rw[q]at e;cases sl with
   |val d f=>cases e
   |ya d=>cases e
   |fD ks=>cases e
   |own ds' f'=>
    cases e;obtain⟨a,vs,rfl,h1,h2,h4⟩:=k;have eq:env.set i (some (.own ds fr))=env:=by
     have:env[i]=some (.own ds fr):=by have:=(bE.mp q).2;exact this
     rw[<- this];exact hself
    rw[eq];exact⟨M,ρ,a,vs,λ_ z=>z,rep,ev,h1,h2,h4,hi,λ_ _ z=>z,λ_ _=>rfl⟩
   |cw d=>
    cases d with
    |lst ds'=>
     cases e;have k':=k;obtain⟨a,vs,rfl,h1,h2⟩:=k;have pa:ρ i a:=by rcases h1 with⟨_,z⟩|⟨_,_,z⟩<;>exact z
     obtain⟨pm,p0,uo,pl,pmu⟩:=rep.aT i a pa;have hl:H a=some (.lst vs):=by
      rcases h1 with⟨h1,_⟩|⟨o,h1,_⟩
      .exact h1
      .rw[h1]at pl;cases pl;exact pmu.elim
     have inner:IsAll H (λb=>ρ i b/\b≠a) ds vs:=IsAll.avoid k' (by simp only[D.sz];lia) h2
     let M':Addr->Prop:=λb=>M b\/(ρ i b/\b≠a)
     let ρ':Pr:=nv ρ i λb=>b=a
     have rr:Rep g M' ρ' (env.set i (some (.own ds true))) (σ.set i (some (.ref a))) H:=by
      have r1:Rep g M' (λj b=>if j=i then b=a else ρ j b) (env.set i (some (.own ds true))) σ H:=by
       refine⟨rep.same,λb hb=>hb.elim (rep.fI b) λz=>?_,λb hb=>hb.elim (rep.pZ b) λz=>.inl (rep.aT i b z.1).2.1,λb hb h0=>hb.elim (λz=>rep.fl b z h0) λz=>.inl (rep.aT i b z.1).2.2,λj s ej=>?_,λj b h=>?_,λj k b w1 w2=>?_,λj b h=>?_,by rw[OQ];exact rep.len,rep.zz⟩
       .exact(rep.aT i b z.1).2.2.some
       .by_cases hj:j=i
        .subst hj;rw[i7 hi]at ej;cases ej;exact⟨_,ev,a,vs,rfl,hl,λb=>by simp,IsAll.weak (λb z=>⟨.inr z,λ_=>(rep.aT j b z.1).2.1⟩) inner⟩
        .rw[eG (Oz hj)]at ej;obtain⟨v',ev',k2⟩:=rep.slot j s ej;have eT:(λb=>if j=i then b=a else ρ j b)=ρ j:=by funext b;rw[cO hj]
         exact⟨v',ev',by show SlOk g M' (λb=>if j=i then b=a else ρ j b) H v' s;rw[eT];exact SlOk.weak (λ_=>.inl) k2⟩
       .by_cases hj:j=i
        .rw[ck hj]at h;subst h;exact⟨λz=>z.elim pm λz=>z.2 rfl,p0,Mu.lst hl⟩
        .rw[cO hj]at h;exact⟨λz=>z.elim (rep.aT j b h).1 λz=>hj (rep.apart j i b h z.1),(rep.aT j b h).2⟩
       .by_cases hj:j=i
        .by_cases hk:k=i
         .rw[hj,hk]
         .rw[ck hj]at w1;rw[cO hk]at w2;subst w1;exact absurd (rep.apart k i b w2 pa) hk
        .by_cases hk:k=i
         .rw[ck hk]at w2;rw[cO hj]at w1;subst w2;exact absurd (rep.apart j i b w1 pa) hj
         .rw[cO hj]at w1;rw[cO hk]at w2;exact rep.apart j k b w1 w2
       .unfold bW;by_cases hj:j=i
        .subst hj;rw[i7 hi];rfl
        .rw[cO hj]at h;rw[eG (Oz hj)];exact rep.ow j b h
      have hi2:i<σ.length:=by rw[<- rep.len];exact hi
      have es:σ.set i (some (.ref a))=σ:=by have:σ[i]=some (.ref a):=(bE.mp ev).2;rw[<- this];exact QO hi2
      rw[es];exact r1
     have hi2:i<σ.length:=by rw[<- rep.len];exact hi
     have es:σ.set i (some (.ref a))=σ:=by have:σ[i]=some (.ref a):=(bE.mp ev).2;rw[<- this];exact QO hi2
     rw[es]at rr;refine⟨M',ρ',a,vs,λ_=>.inl,rr,ev,hl,λb=>by show nv ρ i (λb=>b=a) i b↔b=a;rw[b9],IsAll.weak (λb z=>⟨.inr z,λ_=>(rep.aT i b z.1).2.1⟩) inner,hi,λj b z=>?_,λj hj=>bh hj⟩;by_cases hj:j=i
     .subst hj;have z:nv ρ j (λb=>b=a) j b:=z;rw[b9]at z;rw[z];exact pa
     .have z:nv ρ i (λb=>b=a) j b:=z;rw[bh hj]at z;exact z
    |_=>cases e
def tH(i:Nat)(f:En->Res R):En->Res Fl:=λenv=>match h7 env i with
 |some (ds,fr)=>(f env).bind λr=>if ds.length<lim/\¬i∈r.al then .ok (.nx ((az env r.al).set i (some (.own (ds++[r.d]) (fr&&r.fr)))))else .stuck
 |none=>.stuck
def qQ(ha:PE X a (bY i))(h:PD X E e f)
 (hbase:autoParam (attributeBase a "append" X.env (eval a X.env)=eval a X.env) RJ)
 (hfew:autoParam (((backTo cpos (starEach [e] X.env)).all (λx=>!x.1)&&(backToKw cpos (keywordEach [] X.env)).all (λx=>x.1.isSome)
   && decide (([e]:List Expr).length+([]:List Keyword).length+(if([]:List Keyword).isEmpty then 0 else 1)<30))=true) RJ)
 (hline:autoParam ((apos.endLine==cpos.line)=true) RJ) (hs:autoParam (starEach [e] X.env=(false,eval e X.env)::starEach [] X.env) RJ) (hplain:autoParam (bT X cpos []) RJ)
 (hsw:autoParam (swapsWith (.Call (.Attribute a "append" apos) [e] [] cpos) none pos.line X.env=pure false) RJ) :
 lc X E (.Expr (.Call (.Attribute a "append" apos) [e] [] cpos) pos) (tH i f):=by
 obtain⟨t,p1,s1⟩:=h;refine⟨_,we (wv PySem.F.plainAttrs_list PySem.F.slot_list_append PySem.F.type_list_append kg ha (aI p1 bR hs) hbase hfew hline hs hplain) hsw,λg M ρ env σ H D rep p=>?_⟩;unfold tH at p;cases e1:h7 env i with
 |none=>rw[e1]at p;exact p.elim
 |some o=>
  obtain⟨ds,fr⟩:=o;rw[e1]at p;dsimp only at p;obtain⟨M0,ρ0,l,vs,m0,rep0,ev,k1,k2,k4,hi,_⟩:=rep.yc e1;refine⟨_,ev,.inl ⟨rfl,vs,SqL.of k1⟩,s1.iT rep p λr y M' H' e rep' ro p'=>?_⟩;by_cases hc:ds.length<lim/\¬i∈r.al
  .rw[ck hc]at p';obtain⟨M1,x1,x1m,rep1,is1⟩:=ro.is rep' e rep.same;obtain⟨M2,ρ2,x2,rep2,o2,k5,k6⟩:=Rep.az r.al rep1;have is2:Is H' (dc g M2 r.fr) r.d y:=Is.frozen rep1 x2 o2 is1;have e2:h7 (az env r.al) i=some (ds,fr):=by unfold h7;rw[qO _ hc.2];exact e1
   obtain⟨M3,ρ3,l3,vs3,m3,rep3,ev3,j1,j2,j4,hi3,_⟩:=rep2.yc e2;rw[ev]at ev3;cases ev3;have hl:H' l=some (.lst vs):=e.h _ _ k1;rw[hl]at j1;cases j1;have pl:ρ3 i l:=(j2 l).mpr rfl;obtain⟨nl3,_⟩:=rep3.aT i l pl;have is4:IsAll H' (dc g M3 (fr&&r.fr)) (ds++[r.d]) (vs++[y]):=by refine IsAll.snoc (IsAll.weak (λb z=>⟨z.1,λq=>z.2 (by cases fr<;>simp_all)⟩) j4) (Is.weak (λb z=>⟨m3 b z.1,λq=>z.2 (by cases fr<;>simp_all)⟩) is2)
   have kp:∀b u,H' b=some u->(dc g M3 (fr&&r.fr) b\/dE u)->aC H' l (.lst (vs++[y])) b=some u:=λb u q z=>by
    rw[af]
    .exact q
    .rintro rfl;rcases z with z|z
     .exact nl3 z.1
     .rw[hl]at q;cases q;exact z
   obtain⟨f1,rep4⟩:=rep3.write (sl:=.own (ds++[r.d]) (fr&&r.fr)) (vs':=vs++[y]) pl (by rw[OQ];exact hi3) ev ⟨l,vs++[y],rfl,ag,j2,IsAll.mono kp (λ_ _ _ z=>z) is4⟩;rw[List.set_set]at rep4;refine⟨l,vs,y,rfl,rfl,hl,by rw[k4.length];exact ku hc.1,?_⟩;exact p' σ M3 ρ3 _ (g7.trans ⟨λa z=>m3 a (x2 a (x1m a z)),λ_ _ q _=>q⟩ f1) rep4
  .rw[cO hc]at p';exact p'.elim
end
def Hj(ix:List Nat)(t:TG)(asg:D->Bool->En->Option En):Prop:=∀(g:Gd)(M:Addr->Prop)(ρ:Pr)(env aB:En)(σ:St)(H:Hp)(d:D)(fr:Bool)(v:V)(Q:St->Hp->Prop),
 Rep g M ρ env σ H->Is H (dc g M fr) d v->asg d fr env=some aB->(∀(σ':St)(ρ':Pr),Rep g M ρ' aB σ' H->(∀j,¬j∈ix->σ'[j]?=σ[j]?)->(∀j a,ρ' j a->ρ j a)->Q σ' H)->t v σ H Q
def Ku(ix:List Nat)(t:Jm)(asg:List D->Bool->En->Option En):Prop:=∀(g:Gd)(M:Addr->Prop)(ρ:Pr)(env aB:En)(σ:St)(H:Hp)(ds:List D)(fr:Bool)(vs:List V)(Q:St->Hp->Prop),
 Rep g M ρ env σ H->IsAll H (dc g M fr) ds vs->asg ds fr env=some aB->(∀(σ':St)(ρ':Pr),Rep g M ρ' aB σ' H->(∀j,¬j∈ix->σ'[j]?=σ[j]?)->(∀j a,ρ' j a->ρ j a)->Q σ' H)->t vs σ H Q
def yR(X:Cx)(ix:List Nat)(tg:Expr)(asg:D->Bool->En->Option En):Prop:=∃t,PG X tg t/\Hj ix t asg
def DJ(X:Cx)(ix:List Nat)(ts:List Expr)(asg:List D->Bool->En->Option En):Prop:=∃t,Gq X ts t/\Ku ix t asg
section
def gN(i:Nat):D->Bool->En->Option En:=λd fr env=>if i<env.length then some (env.set i (some (.val d fr)))else none
def yS:Hj [i] (d7 i) (gN i):=by
 intro g M ρ env aB σ H d fr v Q rep is e k;unfold gN at e;by_cases hi:i<env.length
 .rw[ck hi]at e;cases e;exact k _ _ (rep.put (sl:=.val d fr) (T:=λ_=>False) hi is (λ_ z=>z.elim) λ_ z=>z.elim) (λj hj=>eG λe=>hj (by simp[e])) λj a z=>by
   by_cases hj:j=i
   .subst hj;rw[b9]at z;exact z.elim
   .rw[bh hj]at z;exact z
 .rw[cO hi]at e;cases e
def av(hN:X.N.Nodup)(hi:X.N[i]?=some x)(hx:CG X.env.scope x)(hf:autoParam (X.fn x=true\/X.env.scope.names.lookup x=some .local) RH):yR X [i] (.Name x pos) (gN i):=⟨_,gD hN hi hx hf,yS⟩
noncomputable def dG:List D->Bool->En->Option En:=λds _ env=>match ds with
 |[]=>some env
 |_=>none
def aF(f:D->Bool->En->Option En)(fs:List D->Bool->En->Option En):List D->Bool->En->Option En:=λds fr env=>match ds with
 |d::r=>(f d fr env).bind λaB=>fs r fr aB
 |[]=>none
def eU:DJ X [] [] dG:=⟨_,p9,λg M ρ env aB σ H ds fr vs Q rep is e k=>by
 cases ds with
 |nil=>cases e;cases is;exact⟨rfl,k σ ρ rep (λ_ _=>rfl) λ_ _ z=>z⟩
 |cons d ds=>cases e⟩
def aN(h1:yR X ix e f)(h2:DJ X jx es fs)
 (hs:∀t,PG X e t->∀u,Gq X es u->Gq X (e::es) (jf t u)):DJ X (ix++jx) (e::es) (aF f fs):=by
 obtain⟨t,p1,s1⟩:=h1;obtain⟨u,p2,s2⟩:=h2;refine⟨_,hs t p1 u p2,λg M ρ env aB σ H ds fr vs Q rep is e k=>?_⟩;cases ds with
 |nil=>cases e
 |cons d ds=>
  obtain⟨v,r,rfl,i1,i2⟩:=is;unfold aF at e;dsimp only at e;cases q:f d fr env with
  |none=>rw[q]at e;cases e
  |some env1=>rw[q]at e;refine⟨v,r,rfl,s1 g M ρ env env1 σ H d fr v _ rep i1 q λσ1 ρ1 rep1 c1 d1=>?_⟩;exact s2 g M ρ1 env1 aB σ1 H ds fr r Q rep1 i2 e λσ2 ρ2 rep2 c2 d2=>k σ2 ρ2 rep2 (λj hj=>(c2 j λz=>hj (by simp[z])).trans (c1 j λz=>hj (by simp[z]))) λj a z=>d1 j a (d2 j a z)
def gT(n:Nat)(fs:List D->Bool->En->Option En):D->Bool->En->Option En:=λd fr env=>match d with
 |.tup ds=>if ds.length=n then fs ds fr env else none
 |_=>none
def gH(hc:X.calm=true)(h:DJ X ix es fs)(hn:autoParam ((assignEach es X.env).length=n) RJ)(hst:autoParam ((assignEach es X.env).findIdx? (·.1)=none) RJ):yR X ix (.Tuple es k pos) (gT n fs):=by
 obtain⟨t,p1,s1⟩:=h;refine⟨_,uK hc p1 hn hst,λg M ρ env aB σ H d fr v Q rep is e kk=>?_⟩;unfold gT at e;cases d with
 |tup ds=>
  obtain⟨a,vs,rfl,h1,h2⟩:=is;dsimp only at e;by_cases hl:ds.length=n
  .rw[ck hl]at e;exact⟨a,vs,rfl,SqT.of h1,h2.length.trans hl,s1 g M ρ env aB σ H ds fr vs Q rep h2 e kk⟩
  .rw[cO hl]at e;cases e
 |_=>cases e
def DL(f:En->Res R)(asg:D->Bool->En->Option En):En->Res Fl:=λenv=>(f env).bind λr=>match asg r.d r.fr (az env r.al)with
 |some aB=>.ok (.nx aB)
 |none=>.stuck
def DM(he:PD X E e f)(hg:yR X ix tg asg)(hs:autoParam (swapsWithSole [tg] e pos.line X.env=pure false) RJ)(hw:autoParam (swappedStores [tg] e X.env=pure none) RJ)
 (h1:autoParam ((assignEach [tg] X.env).map (·.2)=[assign tg X.env]) RJ):lc X E (.Assign [tg] e pos) (DL f asg):=by
 obtain⟨t,p1,s1⟩:=he;obtain⟨u,p2,s2⟩:=hg;refine⟨_,zO p1 p2 hs hw h1,λg M ρ env σ H D rep p=>s1.iT rep p λr v M' H' e rep' ro p'=>?_⟩;obtain⟨M1,x1,x1m,rep1,is1⟩:=ro.is rep' e rep.same;obtain⟨M2,ρ2,x2,rep2,o2,_,_⟩:=Rep.az r.al rep1;have is2:Is H' (dc g M2 r.fr) r.d v:=Is.frozen rep1 x2 o2 is1;cases q:asg r.d r.fr (az env r.al)with
 |none=>simp only[q]at p';exact p'.elim
 |some aB=>simp only[q]at p';exact s2 g M2 ρ2 _ aB σ H' r.d r.fr v _ rep2 is2 q λσ' ρ' rep3 _ _=>p' σ' M2 ρ' H' ⟨λa z=>x2 a (x1m a z),λ_ _ q _=>q⟩ rep3
end
structure Src where
 xs:List D
 fr:Bool
 al:List Nat
structure Walk(J:It) (m:Addr->Prop) (H:Hp) (xs:List D):Prop where
 go:∀H' i d,(∀a o,H a=some o->(m a\/dE o)->H' a=some o)->xs[i]?=some d->J.go i H'/\∀x H'',J.CM i H' x H''->Same H' H''/\Is H'' m d x
 stop:∀H',(∀a o,H a=some o->(m a\/dE o)->H' a=some o)->J.stop xs.length H'
theorem Walk.weak(w:Walk J m H xs)(h:∀a,m a->m' a):Walk J m' H xs:=⟨λH' i d k e=>let ⟨a,b⟩:=w.go H' i d (λa o q z=>k a o q (z.imp (h a) id)) e;⟨a,λx H'' y=>let ⟨c,d⟩:=b x H'' y;⟨c,d.weak h⟩⟩,λH' k=>w.stop H' λa o q z=>k a o q (z.imp (h a) id)⟩
def PostI(mg:Str->Option Rz)(E:XK)(g:Gd)(M:Addr->Prop)(ρ:Pr)(env:En)(σ:St)(H:Hp)(R:It->Hp->Prop):Res Src->Prop
 |.stuck=>False
 |.exc c=>DE mg E g c
 |.ok s=>∀J M' H',Ext M H M' H'->Rep g M' ρ env σ H'->Walk J (vmsk g M' s.fr ρ s.al) H' s.xs->R J H'
def Kv(mg:Str->Option Rz)(E:XK)(wi:TI)(f:En->Res Src):Prop:=∀g M ρ env σ H R,Rep g M ρ env σ H->PostI mg E g M ρ env σ H R (f env)->wi σ H R
def Jo(X:Cx)(E:XK)(tg iter:Expr)(f:En->Res Src):Prop:=∃wi,PI X tg iter wi/\Kv X.mg E wi f
section
variable{X:Cx}{E:XK}
def MQ(K:Rx)(tl:TE):TI:=λσ H R=>tl σ H λx H1=>∃a,x=.ref a/\(((∃xs,SqL K H1 a xs)/\R (Fb K a) H1)\/((∃xs,SqT K H1 a xs)/\R (Mv K a) H1))
def AY(hl:PE X l tl):PI X tg l (MQ X.K tl):=by
 intro aa s σ H R I h;refine bV (hl aa s σ H _ I h) λv s1 ⟨x,H1,I1,r1,q1⟩=>?_;obtain⟨a,e,q⟩:=q1;subst e;cases r1;rcases q with⟨⟨xs,hq⟩,q⟩|⟨⟨xs,hq⟩,q⟩
 .obtain⟨its,rv,p,hz⟩:=I1.list hq;refine P2 p.isList ?_;refine⟨s1.heap.objs.size,[s1.heap.objs.size],_,_,H1,rfl,I1.kept (t':=s1.toks) λb o e=>cj _ e,oT a _,⟨_,jY _ rfl,rfl,rfl⟩,λb hb=>?_,q⟩;have e:b=s1.heap.objs.size:=by simpa using hb
  subst e;exact I1.oP (cN _) (I1.aG.fresh (cN _))
 .obtain⟨its,rv,p,hz⟩:=I1.tuple hq;refine wpAny_pyIter_tuple (show s1.heap.IsTuple a its.toArray from p) ?_;refine⟨s1.heap.objs.size,[s1.heap.objs.size],_,_,H1,rfl,I1.kept (t':=s1.toks) λb o e=>cj _ e,uL a _,⟨_,jY _ rfl,rfl,rfl⟩,λb hb=>?_,q⟩;have e:b=s1.heap.objs.size:=by simpa using hb
  subst e;exact I1.oP (cN _) (I1.aG.fresh (cN _))
def yT{K:Rx}{a:Addr}{m:Addr->Prop}(h:(H a=some (.lst vs)/\m a)\/∃o,H a=some (.az o (.lst vs))/\m a)(is:IsAll H m ds vs):Walk (Fb K a) m H ds:=by
 have st:∀H',(∀a o,H a=some o->(m a\/dE o)->H' a=some o)->SqL K H' a vs:=λH' k=>by
  rcases h with⟨h,hm⟩|⟨o,h,_⟩
  .exact .inl (.inl (k a _ h (.inl hm)))
  .exact .inl (.inr ⟨o,k a _ h (.inr True.intro)⟩)
 refine⟨λH' i d k e=>?_,λH' k=>⟨vs,st H' k,by rw[is.length];exact cN _⟩⟩;obtain⟨v,ev,iv⟩:=(is.mono k λ_ _ _ z=>z:IsAll H' m ds vs).get e;refine⟨⟨vs,v,st H' k,ev⟩,λx H'' y=>?_⟩;obtain⟨rfl,y⟩:=y;have:=y vs (st _ k);rw[ev]at this;cases this;exact⟨Same.refl _,iv⟩
def AZ{K:Rx}{a:Addr}{m:Addr->Prop}(h:H a=some (.tup vs))(is:IsAll H m ds vs):Walk (Mv K a) m H ds:=by have st:∀H',(∀a o,H a=some o->(m a\/dE o)->H' a=some o)->SqT K H' a vs:=λH' k=>SqT.of (k a _ h (.inr True.intro));refine⟨λH' i d k e=>?_,λH' k=>⟨vs,st H' k,by rw[is.length];exact cN _⟩⟩;obtain⟨v,ev,iv⟩:=(is.mono k λ_ _ _ z=>z:IsAll H' m ds vs).get e;refine⟨⟨vs,v,st H' k,ev⟩,λx H'' y=>?_⟩;obtain⟨rfl,y⟩:=y;have:=y vs (st _ k);rw[ev]at this;cases this;exact⟨Same.refl _,iv⟩
noncomputable def eV(lo:Int)(n:Nat):List D:=(List.range n).map λk=>.int (lo+(k:Nat))
def vF(lo:Int)(n:Nat):Walk (LW lo n) m H (eV lo n):=by
 refine⟨λH' i d k e=>?_,λH' k=>by show n<=(eV lo n).length;simp[eV]⟩;have hi:i<n:=by have:=(bE.mp e).1;simpa[eV]using this
 refine⟨hi,λx H'' y=>?_⟩;obtain⟨rfl,rfl⟩:=y;refine⟨Same.refl _,?_⟩;have:(eV lo n)[i]?=some (.int (lo+(i:Nat))):=by simp[eV,hi]
 rw[this]at e;cases e;rfl
def g5(f:En->Res R):En->Res Src:=λenv=>(f env).bind λr=>match r.d with
 |.lst ds=>.ok ⟨ds,r.fr,r.al⟩
 |.tup ds=>.ok ⟨ds,r.fr,r.al⟩
 |_=>.stuck
def cb(h:PD X E l f):Jo X E tg l (g5 f):=by
 obtain⟨t,p1,s1⟩:=h;refine⟨_,AY p1,λg M ρ env σ H R rep p=>?_⟩;refine s1.one rep (P:=λM H r=>PostI X.mg E g M ρ env σ H R r) p (λ_ _ z=>z) (λ_ _ _ z=>z) (λM H M' H' r e p=>?_) λr v M1 H1 e1 rep1 is q=>?_
 .cases r with
  |stuck=>exact p
  |exc c=>exact p
  |ok s=>exact λJ M2 H2 e2=>p J M2 H2 (e.trans e2)
 .cases z:r.d with
  |lst ds=>rw[z]at is;simp only[z]at q;obtain⟨a,vs,rfl,h1,h2⟩:=is;exact⟨a,rfl,.inl ⟨⟨vs,.inl (h1.imp (·.1) λ⟨o,z,_⟩=>⟨o,z⟩)⟩,q _ M1 H1 (Ext.refl _ _) rep1 (yT h1 h2)⟩⟩
  |tup ds=>rw[z]at is;simp only[z]at q;obtain⟨a,vs,rfl,h1,h2⟩:=is;exact⟨a,rfl,.inr ⟨⟨vs,SqT.of h1⟩,q _ M1 H1 (Ext.refl _ _) rep1 (AZ h1 h2)⟩⟩
  |_=>simp only[z]at q;exact q.elim
noncomputable def cR(i:Int):Bool:=decide (-(2^62)<=i)&&decide (i<2^62)
def CJ(fs:En->Res (List R)):En->Res Src:=λenv=>(fs env).bind λrs=>match rs.map R.d with
 |[.int j]=>if cR j then .ok ⟨eV 0 j.toNat,true,[]⟩else .stuck
 |_=>.stuck
def PostI.ext{mg:Str->Option Rz}{M M':Addr->Prop}{R:It->Hp->Prop}(e:Ext M H M' H')(p:PostI mg E g M ρ env σ H R r):PostI mg E g M' ρ env σ H' R r:=by
 cases r with
 |stuck=>exact p
 |exc c=>exact p
 |ok s=>exact λJ M2 H2 e2=>p J M2 H2 (e.trans e2)
def dk(hg:Gl X "range") (hm:X.mg "range"=none) (ha:AS X E [a] fs) (hs:autoParam (starEach [a] X.env=[(false,eval a X.env)]) RJ):Jo X E tg (.Call (.Name "range" p) [a] [] pos) (CJ fs):=by
 obtain⟨t,p1,s1⟩:=ha;refine⟨_,yh hg hm p1 hs,λg M ρ env σ H Rq rep p=>s1.one rep (P:=λM H r=>PostI X.mg E g M ρ env σ H Rq r) p (λ_ _ z=>z) (λ_ _ _ z=>z) (λ_ _ _ _ _ e p=>p.ext e) λrs vs M1 H1 e1 rep1 is q=>?_⟩;generalize hd:rs.map R.d=ds at is q
 match ds,is,q with
 |[.int j],is,q=>
  obtain⟨v,w,rfl,i1,i2⟩:=is;cases i1;cases i2;dsimp only at q;by_cases hc:cR j=true
  .rw[ck hc]at q;simp only[cR,Of,O0]at hc;exact⟨j,rfl,hc.1,hc.2,q _ M1 H1 (Ext.refl _ _) rep1 (vF 0 j.toNat)⟩
  .rw[cO hc]at q;exact q.elim
 |[],_,q=>exact q.elim
 |[.fU],_,q=>exact q.elim
 |[.bl _],_,q=>exact q.elim
 |[.str _],_,q=>exact q.elim
 |[.tup _],_,q=>exact q.elim
 |[.lst _],_,q=>exact q.elim
 |[.bp _ _],_,q=>exact q.elim
 |.int _::_::_,_,q=>exact q.elim
 |.fU::_::_,_,q=>exact q.elim
 |.bl _::_::_,_,q=>exact q.elim
 |.str _::_::_,_,q=>exact q.elim
 |.tup _::_::_,_,q=>exact q.elim
 |.lst _::_::_,_,q=>exact q.elim
 |.bp _ _::_::_,_,q=>exact q.elim
def de(asg:D->Bool->En->Option En)(fr:Bool)(body:En->Res Fl):List D->En->Res Fl
 |[],env=>.ok (.nx env)
 |x::xs,env=>match asg x fr env with
  |none=>.stuck
  |some env1=>(body env1).bind λr=>match r with
   |.nx aB=>de asg fr body xs aB
   |.ct aB=>de asg fr body xs aB
   |.bk aB=>.ok (.nx aB)
   |.rt r=>.ok (.rt r)
   |.rm r e=>.ok (.rm r e)
def iP(src:En->Res Src)(asg:D->Bool->En->Option En)(body:En->Res Fl):En->Res Fl:=λenv=>(src env).bind λs=>de asg s.fr body s.xs (az env s.al)
def Kw(J:It)(u:TG)(tb:TS)(D:Ends)(σ:St)(H1:Hp):Prop:=∃W:Nat->Nat->St->Hp->Prop,(∃m,W 0 m σ H1)/\∀i m σ H,W i m σ H->(J.stop i H/\D.nx σ H)\/(J.go i H/\∃N:St->Hp->Prop,(∀σ' H',N σ' H'->∃m',m'<m/\W (i+1) m' σ' H')/\∀x H',J.CM i H x H'->u x σ H' λσ2 H2=>tb {D with nx:=N,ct:=N,bk:=D.nx} σ2 H2)
def A0{asg:D->Bool->En->Option En}{fb:En->Res Fl}{g:Gd}{M2:Addr->Prop}{ρ2:Pr}{env2:En}{σ:St}{H1:Hp}{D:Ends}(s2:Hj ix u asg)(s3:DI X.mg E tb fb)(rep2:Rep g M2 ρ2 env2 σ H1)(wk2:Walk J (dc g M2 fr) H1 xs)(p2':PostS X.mg E g M2 H1 D (de asg fr fb xs env2)):Kw J u tb D σ H1:=by
 refine⟨λi m σ' H'=>m=xs.length-i/\i<=xs.length/\∃M' ρ' aB,Rep g M' ρ' aB σ' H'/\g7 M2 H1 M' H'/\PostS X.mg E g M' H' D (de asg fr fb (xs.drop i) aB),⟨_,rfl,N3 _,M2,ρ2,_,rep2,g7.refl _ _,p2'⟩,?_⟩;rintro i m σ' H' ⟨rfl,hle,M',ρ',aB,rep',f',p'⟩;have kp:∀a o,H1 a=some o->(dc g M2 fr a\/dE o)->H' a=some o:=λa o e z=>f'.h a o e (z.imp (·.1) id);by_cases hlt:i<xs.length
 .have ed:xs[i]?=some xs[i]:=by simp[hlt]
  obtain⟨go,yl⟩:=wk2.go H' i _ kp ed;have edrop:xs.drop i=xs[i]::xs.drop (i+1):=OC hlt;rw[edrop]at p';unfold de at p';refine .inr ⟨go,λσ'' H''=>∃M'' ρ'' env'',Rep g M'' ρ'' env'' σ'' H''/\g7 M2 H1 M'' H''/\PostS X.mg E g M'' H'' D (de asg fr fb (xs.drop (i+1)) env''),λσ'' H'' z=>⟨xs.length-(i+1),by lia,rfl,hlt,z⟩,λx H'' y=>?_⟩;obtain⟨sm,is⟩:=yl x H'' y;have rep'':=rep'.grow sm;have fx:g7 M' H' M' H'':=⟨λ_ z=>z,λa o e _=>sm a o e⟩;have is':Is H'' (dc g M' fr) xs[i] x:=is.weak λa z=>dc.mono f'.m z;cases qa:asg xs[i] fr aB with
  |none=>simp only[qa]at p';exact p'.elim
  |some env1=>
   simp only[qa]at p';refine s2 g M' ρ' aB env1 σ' H'' _ fr x _ rep'' is' qa λσ1 ρ1 rep1' _ _=>?_;refine s3 g M' ρ1 env1 σ1 H'' _ rep1' ?_;have p'':=PostS.az fx p';cases qb:fb env1 with
   |stuck=>rw[qb]at p'';exact p''
   |exc c=>rw[qb]at p'';exact p''
   |ok r=>
    rw[qb]at p'';cases r with
    |nx e3=>exact λσ3 M3 ρ3 H3 f3 rep3=>⟨M3,ρ3,e3,rep3,(f'.trans fx).trans f3,PostS.az f3 p''⟩
    |ct e3=>exact λσ3 M3 ρ3 H3 f3 rep3=>⟨M3,ρ3,e3,rep3,(f'.trans fx).trans f3,PostS.az f3 p''⟩
    |bk e3=>exact p''
    |rt r=>exact p''
    |rm r e3=>exact p''
 .have e:i=xs.length:=by lia
  subst e;rw[QV]at p';exact .inl ⟨wk2.stop H' kp,p' σ' M' ρ' H' (g7.refl _ _) rep'⟩
def cc(hp:PassesOwn (model X.prog X.w) X.A X.env X.xe)(hc:X.calm=true)
 (hi:Jo X E tg iter src) (hg:yR X ix tg asg) (hb:oH X E body fb) (hs:autoParam (∀x,foldedSetIterable iter X.env x=pure x) RI):lc X E (.For tg iter body [] pos) (iP src asg fb):=by
 obtain⟨wi,p1,s1⟩:=hi;obtain⟨u,p2,s2⟩:=hg;obtain⟨tb,p3,s3⟩:=hb;refine⟨_,p_ hp hc p1 p2 p3 hs,λg M ρ env σ H D rep p=>?_⟩;refine s1 g M ρ env σ H _ rep ?_;unfold iP at p;cases q:src env with
 |stuck=>rw[q]at p;exact p
 |exc c=>rw[q]at p;exact p
 |ok s=>rw[q]at p;intro J M1 H1 e1 rep1 wk;obtain⟨M2,ρ2,x2,rep2,o2,_,_⟩:=Rep.az s.al rep1;have wk2:Walk J (dc g M2 s.fr) H1 s.xs:=wk.weak λa z=>z.elim (dc.mono x2) λ⟨i,hi,o⟩=>⟨o2 i hi a o,λ_=>(rep1.aT i a o).2.1⟩;have p2':PostS X.mg E g M2 H1 D (de asg s.fr fb s.xs (az env s.al)):=PostS.az (e1.az.trans ⟨x2,λ_ _ q _=>q⟩) p;exact A0 s2 s3 rep2 wk2 p2'
end
theorem gI:∀(names:List (Str×NameKind))(cs:List (Str×Addr)),(∀x∈names,x.2=.free->∃c,env.cells.lookup x.1=some c)->(∀y c,cs.lookup y=some c->env.cells.lookup y=some c)->
 ∃cl,(forIn names cs λ(x:Str×NameKind)(r:List (Str×Addr))=>(do
  if(x.2==.free)=true then
   let c <- cellOf env x.1
   pure (ForInStep.yield ((x.1,c)::r))
  else pure (ForInStep.yield r):Sem (ForInStep (List (Str×Addr)))))=pure cl/\(∀y c,cl.lookup y=some c->env.cells.lookup y=some c)/\(∀x∈names,x.2=.free->∃c,cl.lookup x.1=some c)/\(∀y c,cs.lookup y=some c->∃c',cl.lookup y=some c')
 |[],cs,_,h=>⟨cs,by simp,h,λ_ z=>absurd z (by simp),λy c e=>⟨c,e⟩⟩
 |(n,k)::r,cs,hf,h=>by
  by_cases hk:k=.free
  .subst hk;obtain⟨c,hc⟩:=hf (n,.free) (by simp) rfl;have hco:cellOf env n=pure c:=by simp[cellOf,hc]
   have h':∀y c',((n,c)::cs).lookup y=some c'->env.cells.lookup y=some c':=λy c' e=>by
    rw[PM]at e;cases hy:y==n with
    |true=>rw[hy]at e;cases e;rw[eq_of_beq hy];exact hc
    |false=>rw[hy]at e;exact h y c' e
   obtain⟨cl,e1,e2,e3,e4⟩:=gI r ((n,c)::cs) (λx hx=>hf x (by simp[hx])) h';have self:∃c',cl.lookup n=some c':=e4 n c (by simp[PM]);refine⟨cl,?_,e2,λx hx hxf=>?_,λy c' e=>?_⟩
   .rw[List.forIn_cons];simp only[beq_self_eq_true,O_,hco,pure_bind];exact e1
   .rcases j5.mp hx with rfl|hx
    .exact self
    .exact e3 x hx hxf
   .by_cases hy:y=n
    .rw[hy];exact self
    .refine e4 y c' ?_;have hb:(y==n)=false:=by simpa using hy
     rw[PM,hb];exact e
  .obtain⟨cl,e1,e2,e3,e4⟩:=gI r cs (λx hx=>hf x (by simp[hx])) h;refine⟨cl,?_,e2,λx hx hxf=>?_,e4⟩
   .rw[List.forIn_cons];have hkb:(k==NameKind.free)=false:=by simpa using hk
    simp only[hkb,gy,Oh,pure_bind];exact e1
   .rcases j5.mp hx with rfl|hx
    .exact absurd hxf hk
    .exact e3 x hx hxf
def oJ(h:∀x∈scope.names,x.2=.free->∃c,env.cells.lookup x.1=some c) :
 ∃cl,closureFor scope env=pure cl/\(∀y c,cl.lookup y=some c->env.cells.lookup y=some c)/\(∀x∈scope.names,x.2=.free->∃c,cl.lookup x.1=some c):=by
 obtain⟨cl,e1,e2,e3,_⟩:=gI scope.names [] h (λ_ _ e=>by simp at e);refine⟨cl,?_,e2,e3⟩;unfold closureFor;refine Eq.trans ?_ (show((pure cl:Sem (List (Str×Addr))) >>= λcs=>pure cs)=pure cl by simp);rw[<- e1]
 all_goals first
  |rfl
  |(congr 1;congr 1;funext x r;obtain⟨n,k⟩:=x;first|rfl|(dsimp only;split<;>simp_all))
theorem lg{f:Str->NameKind->NameKind}:∀(names:List (Str×NameKind))(y:Str),(names.map λx=>(x.1,f x.1 x.2)).lookup y=(names.lookup y).map (f y)
 |[],y=>rfl
 |(n,k)::r,y=>by
  rw[fV,PM,PM];cases h:y==n with
  |true=>rw[eq_of_beq h];rfl
  |false=>exact lg r y
def h8(scope:Scope)(env:Env)(y:Str):(relabel scope env).names.lookup y=(scope.names.lookup y).map λk=>if(k==.free&&env.scope.kind==.function&&env.kindOf y==some .cell)=true then .cell else k:=by
 have e:(relabel scope env).names=scope.names.map λx=>(x.1,(λn k=>if(k==NameKind.free&&env.scope.kind==.function&&env.kindOf n==some .cell)=true then NameKind.cell else k) x.1 x.2):=by unfold relabel;refine Ot λx _=>?_;obtain⟨n,k⟩:=x;dsimp only;split<;>rfl
 rw[e];exact lg (f:=λn k=>if(k==NameKind.free&&env.scope.kind==.function&&env.kindOf n==some .cell)=true then NameKind.cell else k) scope.names y
def qR(h:scope.names.lookup y=some .free):(relabel scope env).names.lookup y=some .cell\/(relabel scope env).names.lookup y=some .free:=by
 rw[h8,h];simp only[Qs];split
 .exact .inl rfl
 .exact .inr rfl
noncomputable def aS(X:Cx)(scope:Scope)(N:List Str)(cl:List (Str×Addr))(C:Addr)(s:Rv)(H:Hp)(ex:List Addr):Cx:={X with N:=N,s₀:=s,H₀:=H,env:=compEnvC scope cl C X.env,outer:=X.stack,ex:=ex,fn:=λ_=>false,pn:=[],xe:=λ_ _=>False}
section
def DN(I:L2.Inv X aa σ H s)(hkind:scope.kind=.function)(hcell:∀y∈scope.names,y.2≠.cell)(hcl:∀y c,cl.lookup y=some c->X.env.cells.lookup y=some c)(hhas:∀x∈scope.names,x.2=.free->∃c,cl.lookup x.1=some c)
 (hC:s.heap.objs.size<=C) (hex:∀b∈ex,iM X aa H b/\b<s.heap.objs.size):(aS X scope N cl C s H ex).Ok where
 mod:=I.ok.mod
 kind:=hkind
 glob:=I.ok.glob
 blt:=I.ok.blt
 above:=hC
 inj:=λx y c h1 h2=>I.ok.inj x y c (hcl x c h1) (hcl y c h2)
 has:=λy hy=>by
  have key:∀k,(relabel scope X.env).names.lookup y=some k->(k=.cell\/k=.free)->∃c,cl.lookup y=some c:=λk e hk=>by
   rw[h8]at e;cases q:scope.names.lookup y with
   |none=>rw[q]at e;cases e
   |some k0=>
    have hm:=OY q;have h0:=hcell _ hm;have hf:k0=.free:=by
     rw[q]at e;simp only[Qs,Option.some.injEq]at e;split at e
     .rename_i z;simp only[Of,beq_iff_eq]at z;exact z.1.1
     .rcases hk with hk|hk
      .exact absurd (e.trans hk) h0
      .exact e.trans hk
    exact hhas _ hm hf
  rcases hy with hy|hy
  .exact key _ hy (.inl rfl)
  .exact key _ hy (.inr rfl)
 Ju:=λ_ _ h=>by cases h
 hd:=I.ok.hd
 frames:=I.ok.frames
 Jh:=.inl rfl
 Nm:=λb hb=>⟨N9 (N6 (hex b hb).2 hC),λx c e=>(hex b hb).1.2.2.2.2.1 x c (hcl x c e)⟩
 bs:=λb o e=>I.bs b o e
 E8:=lN I.ok.E8 I.sz
 zE:=λb o e hb=>by
  rcases(hex b hb).1.2.2.2.1 with z|z
  .exact I.ok.zE b o e z
  .exact absurd (N6 (jZ e) (lN I.ok.E8 z)) (Pd _)
 CC:=λb hb hfs=>by
  rcases j5.mp (I.rN b hfs)with z|z
  .exact(hex b hb).1.2.1 z
  .exact(hex b hb).1.2.2.1 z
 me:=I.stack
 Jk:=I.yd
 kt:=I.kt
structure LL(X:Cx) (scope:Scope) (capN:List Str) (caps:List Nat):Prop where
 at':∀(k:Nat)(y:Str),capN[k]?=some y->∃j:Nat,caps[k]?=some j/\X.N[j]?=some y
 out:∀y∈capN,X.env.kindOf y=some .cell\/X.env.kindOf y=some .free
 pZ:∀y∈capN,scope.names.lookup y=some .free
 len:caps.length=capN.length
noncomputable def gJ(σ:St)(caps:List Nat):St:=caps.map λj=>(σ[j]?).join
def A1(I:L2.Inv X aa σ H s)(hkind:scope.kind=.function)(hcell:∀y∈scope.names,y.2≠.cell)(hcl:∀y c,cl.lookup y=some c->X.env.cells.lookup y=some c)(hhas:∀x∈scope.names,x.2=.free->∃c,cl.lookup x.1=some c)
 (hC:s.heap.objs.size<=C) (hex:∀b∈ex,iM X aa H b/\b<s.heap.objs.size) (hc:LL X scope capN caps) (kp:∀b o,s.heap.get? b=some o->h4.get? b=some o) (ns:h4.Ns C m4) :
 L2.Inv (aS X scope (tN++capN) cl C s H ex) [] (List.replicate tN.length none++gJ σ caps) H {s with heap:=h4,toks:=tk} where
 ok:=DN I hkind hcell hcl hhas hC hex
 os:=rfl
 bare:=I.bare
 base:=Un.kept kp
 loc:=by
  refine⟨m4,ns,λi y v e1 e2 e3=>?_⟩;by_cases hlt:i<tN.length
  .rw[gY (by simpa using hlt),Qu]at e2;rw[ck hlt]at e2;cases e2
  .obtain⟨k,rfl⟩ : ∃k,i=tN.length+k:=⟨i-tN.length,by lia⟩;have e1:capN[k]?=some y:=by
    have e1:(tN++capN)[tN.length+k]?=some y:=e1
    rwa [cP (by lia),O7]at e1
   have e2:(gJ σ caps)[k]?=some (some v):=by
    rwa [cP (by simp),QJ,O7]at e2
   obtain⟨j,ej,eN⟩:=hc.at' k y e1;have e4:σ[j]?=some (some v):=by
    unfold gJ at e2;rw[ol,ej]at e2;have e2:(σ[j]?).join=some v:=by simpa using e2
    cases q:σ[j]? with
    |none=>rw[q]at e2;cases e2
    |some o=>rw[q]at e2;cases o with
     |none=>cases e2
     |some w=>cases e2;rfl
   have hm:=OD e1;obtain⟨m,hn,hl⟩:=I.loc;have hout:=hc.out y hm;obtain⟨u,r,l⟩:=hl j y v eN e4 (.inr hout);refine⟨u,r,.inr ⟨qR (hc.pZ y hm),?_⟩⟩;obtain⟨c,hcl2⟩:=hhas (y,.free) (OY (hc.pZ y hm)) rfl;refine⟨c,hcl2,?_⟩;rcases l with⟨l,_⟩|⟨_,c',e5,z⟩
   .rcases hout with h|h<;>(rw[h]at l;cases l)
   .have:=hcl y c hcl2;rw[e5]at this;cases this;obtain⟨o,ho,hd⟩:=z;exact⟨o,kp _ o ho,hd⟩
 cell:=λy c e=>by obtain⟨v,o,ho,hd⟩:=I.cell y c (hcl y c e);exact⟨v,o,kp _ o ho,hd⟩
 free:=I.aG.fresh hC
 gw:=λy c e=>I.gw y c (hcl y c e)
 pin:=λp hp=>absurd (show p∈([]:List (Addr×Obj))from hp) (by simp)
 aG:=I.aG.kept kp
 len:=by simp[aS,gJ,hc.len]
def yU(I:L2.Inv X aa σ H s)(hX:X'=aS X scope N cl C s H ex)(hC:s.heap.objs.size<=C)(hex:∀b∈ex,iM X aa H b/\b<s.heap.objs.size)
 (I':L2.Inv X' pl σ' H' s'):L2.Inv X aa σ H' s'/\iM X aa H' C:=by
 subst hX;refine⟨I.LK (ch:=ex) I'.os I'.base I'.aG I'.bare λb hb=>?_,I.oP hC I'.free⟩;obtain⟨_,h2,h3,h4,h5,h6⟩:=(hex b hb).1;exact⟨h4,h2,h5,h6⟩
def w4(I:L2.Inv X aa σ H s)(hf:iM X aa H C)(sb:Heap.SameBut C s.heap h'):L2.Inv X aa σ H {s with heap:=h'}:=I.turned (t':=s.toks) (it:=C) (λb o hb e=>(sb.2 b hb).trans e) hf.1 hf.2.1 hf.2.2.2.1 hf.2.2.2.2.1 hf.2.2.2.2.2
end
section
def Hk(X:Cx)(ifs:List Expr)(tt:TT):Prop:=∀(aa:List (Addr×Obj))(s:Rv)(σ:St)(H:Hp)(Q:Bool->Hp->Prop),L2.Inv X aa σ H s->tt σ H Q->
 wpAny (model X.prog X.w) X.A (forIn ifs true λc r=>if r=true then do let ok <- isTrue c X.env (eval c X.env);pure (ForInStep.yield ok)else pure (ForInStep.yield r)) (TP X aa σ Q) X.xe s
def DO:Hk X [] (λ_ H Q=>Q true H):=λ_ _ σ H Q I q=>wpAny_tests_nil ⟨H,I,q⟩
def w6(h:PT X c tt):Hk X [c] tt:=λaa s σ H Q I q=>wpAny_tests_one (h aa s σ H Q I q)
def yV(hX:X'=aS X scope (tN++capN) cl C s3 H3 fp)(T:Turn X.prog X.w X.K tg J fp it tn)(hcalm:X.calm=true)
 (I4:L2.Inv X' [] (List.replicate tN.length none++σc) H3 s4) (bN:X'.N.length=tN.length+σc.length) (st4:tn 0 s4.heap) (hf:∀b∈fp,iM X' [] H3 b)
 (hg:PG X' tg gt) (ht:Hk X' ifs tt) (he:PE X' elt te)
   (W:Nat->Nat->List V->Hp->Prop) (Fin:List V->Hp->Prop) (w0:∃m,W 0 m [] H3)
   (turn:∀i m acc H,W i m acc H->H Dl=some (.lst acc)/\((J.stop i H/\Fin acc H)\/(J.go i H/\∀xv H' o,J.CM i H xv H'->o.length=tN.length->gt xv (o++σc) H' λσ2 H1=>(∀j:Nat,tN.length<=j->σ2[j]?=(o++σc)[j]?)/\tt σ2 H1 λb H2=>if b=true then
     te σ2 H2 λy H5=>H5 Dl=some (.lst acc)/\acc.length<sizeLine/\∃m',m'<m/\W (i+1) m' (acc++[y]) (aC H5 Dl (.lst (acc++[y])))else ∃m',m'<m/\W (i+1) m' acc H2)))
   (R:Result->Rv->Prop) (hR:∀σ' H' acc s',L2.Inv X' [] σ' H' s'->H' Dl=some (.lst acc)->Fin acc H'->R (.ok .next) s') :
   codeAny (model X.prog X.w) X.A (.compLoop (.ListComp elt [⟨tg,iter,ifs,0⟩] scope pos) 0 (.ref it) (.ref Dl) (compEnvC scope cl C X.env)) R s4:=by
  obtain⟨m0,w0⟩:=w0;have eA:X'.A=X.A:=by rw[hX];rfl
  have eP:X'.prog=X.prog:=by rw[hX];rfl
  have eW:X'.w=X.w:=by rw[hX];rfl
  have eK:X'.K=X.K:=by rw[hX];rfl
  have eE:X'.env=compEnvC scope cl C X.env:=by rw[hX];rfl
  have eX:X'.xe=λ_ _=>False:=by rw[hX];rfl
  have eC:X'.calm=true:=by rw[hX];exact hcalm
  have stat:∀{H':Hp},(∀b∈fp,H' b=none)->∀b∈fp,iM X' [] H' b:=λhn b hb=>⟨hn b hb,(hf b hb).2⟩;refine codeAny_loop rfl (λn s=>∃i o acc H,L2.Inv X' [] (o++σc) H s/\o.length=tN.length/\tn i s.heap/\(∀b∈fp,H b=none)/\W i n acc H) ?_ m0 ⟨0,List.replicate tN.length none,[],H3,I4,by simp,st4,λb hb=>(hf b hb).1,w0⟩;rintro n s5 ⟨i,o,acc,H5,I5,lo,st5,fr5,w5⟩;show wpAny _ X.A ((compTurn (.ListComp elt [⟨tg,iter,ifs,0⟩] scope pos) 0 (.ref it) (.ref Dl) (compEnvC scope cl C X.env)).onRaise (λx=>do noteFrame x (compEnvC scope cl C X.env);theTreesLotGoes x)) _ _ s5;refine wpAny_noted ?_;rw[compTurn_list];obtain⟨hD,alt⟩:=turn i n acc H5 w5;rcases alt with⟨stop,fin⟩|⟨go,step⟩
  .refine bo (wpAny_standAt (bo (OT (eA▸T.done X' eP eW eK eC i [] s5 _ H5 _ I5 (stat fr5) st5 stop) (λr s6 ⟨hr,I6⟩=>?_) λ_ _ z=>z)));subst hr;exact bF (hR _ H5 acc s6 I6 hD fin)
  .refine bo (wpAny_standAt (bo (OT (eA▸T.item X' eP eW eK eC i [] s5 _ H5 _ I5 (stat fr5) st5 go) (λr s6 ⟨u,hr,h6⟩=>?_) λ_ _ z=>z)));subst hr;refine bo (OT h6 (λ_ s7 ⟨xv,H7,I7,r7,y7,st7,fr7⟩=>?_) λ_ _ z=>z);have I7':=I7.pinned (stat fr7) (T.obj _ _ st7);have hg':=hg _ s7 _ H7 xv u _ I7' r7 (step xv H7 o y7 lo);rw[eP,eW,eA,eE,eX]at hg';refine bo (OT hg' (λ_ s8 ⟨σ8,H8,I8,shp,q8⟩=>?_) λ_ _ z=>z.elim);obtain⟨o2,GW,eσ⟩ : ∃o2:St,o2.length=tN.length/\σ8=o2++σc:=by
    have l8:σ8.length=tN.length+σc.length:=I8.len.trans bN;refine⟨σ8.take tN.length,by rw[N5];lia,?_⟩;have ed:σ8.drop tN.length=σc:=by
     apply ON
     intro j;rw[Qq,shp (tN.length+j) (by lia),cP (by lia),lo,O7]
    rw[<- ed,lR]
   subst eσ;have ht':=ht _ s8 _ H8 _ I8 q8;rw[eP,eW,eA,eE,eX]at ht';refine bo (OT ht' (λok s9 ⟨H9,I9,q9⟩=>?_) λ_ _ z=>z.elim);have again:∀{s':Rv}{H':Hp},L2.Inv X' ([]++mN fp s7.heap) (o2++σc) H' s'->L2.Inv X' [] (o2++σc) H' s'/\tn (i+1) s'.heap/\∀b∈fp,H' b=none:=λ{s' H'} J'=>by refine⟨J'.j6,T.keep _ _ _ st7 λb hb ob e=>(J'.pin (b,ob) (p6 _ (p6 _ (gE hb e)))).1,λb hb=>?_⟩;obtain⟨ob,e,d⟩:=T.obj _ _ st7 b hb;exact(J'.pin (b,ob) (p6 _ (p6 _ (gE hb e)))).2.1
   cases ok with
   |false=>obtain⟨m',hm,w9⟩:=(show ∃m',m'<n/\W (i+1) m' acc H9 from by simpa using q9);obtain⟨a1,a2,a3⟩:=again I9;exact bF ⟨rfl,m',hm,i+1,o2,acc,H9,a1,GW,a2,a3,w9⟩
   |true=>
    have q9:te (o2++σc) H9 λy H5=>H5 Dl=some (.lst acc)/\acc.length<sizeLine/\∃m',m'<n/\W (i+1) m' (acc++[y]) (aC H5 Dl (.lst (acc++[y]))):=by simpa using q9
    have he':=he _ s9 _ H9 _ I9 q9;rw[eP,eW,eA,eE,eX]at he';refine bo (bo (OT he' (λv s10 ⟨y,H10,I10,ry,eD,hl,m',hm,w10⟩=>?_) λ_ _ z=>z.elim));have hm':=kg (X:=X') _ s10 _ H10 (.ref Dl) [y] (.ref Dl) [v] (λw H'=>w=.fU/\H'=aC H10 Dl (.lst (acc++[y]))) I10 rfl (.cons ry .nil) ⟨Dl,acc,y,rfl,rfl,eD,hl,rfl,rfl⟩;rw[eP,eW,eA,eX]at hm';refine bo (OT hm' (λ_ s11 ⟨w,H11,I11,_,_,eH⟩=>?_) λ_ _ z=>z.elim);subst eH;obtain⟨a1,a2,a3⟩:=again I11;exact bF (bF ⟨rfl,m',hm,i+1,o2,acc++[y],_,a1,GW,a2,a3,w10⟩)
end
structure bm(X:Cx) (scope:Scope) (tN:List Str) (capN:List Str) (caps:List Nat):Prop where
 kind:scope.kind=.function
 F9:∀y∈scope.names,y.2≠.cell
 names:∀y∈scope.names,y.2=.local->scope.names.lookup y.1=some .local
 own:∀x∈tN,scope.names.lookup x=some .local
 free:∀y∈scope.names,y.2=.free->X.env.kindOf y.1=some .cell\/X.env.kindOf y.1=some .free
 cap:LL X scope capN caps
 nd:(tN++capN).Nodup
section
def dH(X:Cx)(scope:Scope)(tg:Expr)(tN:List Str)(capN:List Str)(caps:List Nat)(elt:Expr)(ifs:List Expr)(σ:St)(Fin:Addr->List V->Hp->Prop)(J:It)(H2:Hp):Prop:=
 ∀(Dl:Addr),H2 Dl=none->∀(cl:List (Str×Addr))(C:Addr)(s3:Rv)(fp:List Addr),∃(gt:TG)(tt:TT)(te:TE)(W:Nat->Nat->List V->Hp->Prop),
  PG (aS X scope (tN++capN) cl C s3 (aC H2 Dl (.lst [])) fp) tg gt/\Hk (aS X scope (tN++capN) cl C s3 (aC H2 Dl (.lst [])) fp) ifs tt/\PE (aS X scope (tN++capN) cl C s3 (aC H2 Dl (.lst [])) fp) elt te/\(∃m,W 0 m [] (aC H2 Dl (.lst [])))/\
  ∀i m acc H,W i m acc H->H Dl=some (.lst acc)/\((J.stop i H/\Fin Dl acc H)\/(J.go i H/\∀xv H' (o:St),J.CM i H xv H'->o.length=tN.length->gt xv (o++gJ σ caps) H' λσ2 H1=>(∀j:Nat,tN.length<=j->σ2[j]?=(o++gJ σ caps)[j]?)/\tt σ2 H1 λb H2=>if b=true then
   te σ2 H2 λy H5=>H5 Dl=some (.lst acc)/\acc.length<sizeLine/\∃m',m'<m/\W (i+1) m' (acc++[y]) (aC H5 Dl (.lst (acc++[y])))else ∃m',m'<m/\W (i+1) m' acc H2))
def pD{use:Option (Rz->Sem Unit)}{Qv:Rz->Rv->Prop}{Fin:Addr->List V->Hp->Prop}(hc:X.calm=true)(S:bm X scope tN capN caps)(I:L2.Inv X aa σ H s)(hi:PI X tg iter wi)
 (h:wi σ H (dH X scope tg tN capN caps elt ifs σ Fin))
 (hu:∀(Dl C:Addr)(acc:List V)(H':Hp)(s':Rv),L2.Inv X aa σ H' s'->iM X aa H' C->H' Dl=some (.lst acc)->Fin Dl acc H'->(∃m,s'.heap.Ns C m)->compPost (model X.prog X.w) X.A X.xe use Qv (.ref Dl) C (.ok .next) s')
 (hs:autoParam (∀x,foldedSetIterable iter X.env x=pure x) RI) :
 wX X (comprehension (.ListComp elt [⟨tg,iter,ifs,0⟩] scope pos) scope X.env (firstIterPos [⟨tg,iter,ifs,0⟩] pos) (newList []) false (eval iter X.env) use) Qv X.xe s:=by
 obtain⟨cl,ecl,hcl,hhas⟩:=oJ (scope:=scope) (env:=X.env) λy hy hf=>I.ok.has y.1 (S.free y hy hf);refine wpAny_comprehension_free rfl hs ecl S.kind S.names (bV (hi aa s σ H _ I h) λv s1 h1=>bV h1 λitv s2 h2=>?_);obtain⟨it,fp,tn,J,H2,rfl,I2,T,st2,f2,goal⟩:=h2;refine Oy (wpAny_newFunctionEnv S.F9 (by intro y hy;simp at hy) (λh₁ hns₁ hsb₁=>?_) S.kind);dsimp only at hns₁ hsb₁ ⊢;have hD:H2 s2.heap.objs.size=none:=I2.aG.fresh (cN _);have I3:L2.Inv X aa σ (aC H2 s2.heap.objs.size (.lst [])) { s2 with heap:=s2.heap.push { cls:=.type "list",dict:=none,data:=.seq ([]:List Rz).toArray } }:=I2.laid (t':=s2.toks) (λb u e=>cj _ e) (cN _) ⟨N3 _,[],0,.nil,jY _ rfl⟩;generalize hs3:({ s2 with heap:=s2.heap.push { cls:=.type "list",dict:=none,data:=.seq ([]:List Rz).toArray } }:Rv)=s3 at I3;have e3:s2.heap.push { cls:=.type "list",dict:=none,data:=.seq ([]:List Rz).toArray }=s3.heap:=by rw[<- hs3]
 rw[e3]at hns₁ hsb₁ ⊢;have kp:∀b o,s3.heap.get? b=some o->h₁.get? b=some o:=λb o e=>hsb₁.extBut b o (N9 (jZ e)) (cj _ e);have k23:∀b o,s2.heap.get? b=some o->s3.heap.get? b=some o:=λb o e=>by rw[<- e3];exact cj _ e
 have hex:∀b∈fp,iM X aa (aC H2 s2.heap.objs.size (.lst [])) b/\b<s3.heap.objs.size:=λb hb=>by obtain⟨o,ho,_⟩:=T.obj 0 _ st2 b hb;have hlt:b<s2.heap.objs.size:=jZ ho;refine⟨⟨?_,(f2 b hb).2⟩,jZ (k23 b o ho)⟩;rw[af (N9 hlt)];exact(f2 b hb).1
 have es:({s2 with heap:=h₁,toks:=s2.toks+([]:List (Str×Rz)).length}:Rv)={s3 with heap:=h₁,toks:=s2.toks+([]:List (Str×Rz)).length}:=by rw[<- hs3]
 have I4:L2.Inv (aS X scope (tN++capN) cl s3.heap.objs.size s3 (aC H2 s2.heap.objs.size (.lst [])) fp) [] (List.replicate tN.length none++gJ σ caps) (aC H2 s2.heap.objs.size (.lst [])) {s3 with heap:=h₁,toks:=s2.toks+([]:List (Str×Rz)).length}:=A1 I3 S.kind S.F9 hcl hhas (cN _) hex S.cap kp hns₁;obtain⟨gt,tt,te,W,hg,ht,he,w0,turn⟩:=goal s2.heap.objs.size hD cl s3.heap.objs.size s3 fp;have st4:tn 0 h₁:=T.keep 0 _ _ st2 λb hb o e=>kp b o (k23 b o e);have f4:∀b∈fp,iM (aS X scope (tN++capN) cl s3.heap.objs.size s3 (aC H2 s2.heap.objs.size (.lst [])) fp) [] (aC H2 s2.heap.objs.size (.lst [])) b:=λb hb=>by
  obtain⟨f,hlt⟩:=hex b hb;refine⟨f.1,N9 hlt,λhfs=>?_,.inl hb,λy c e=>f.2.2.2.2.1 y c (hcl y c e),λp hp=>absurd (show p∈([]:List (Addr×Obj))from hp) (by simp)⟩;rcases j5.mp (I3.rN b hfs)with z|z
  .exact f.2.1 z
  .exact f.2.2.1 z
 have loop:codeAny (model X.prog X.w) X.A (.compLoop (.ListComp elt [⟨tg,iter,ifs,0⟩] scope pos) 0 (.ref it) (.ref s2.heap.objs.size) (compEnvC scope cl s3.heap.objs.size X.env)) (compPost (model X.prog X.w) X.A X.xe use Qv (.ref s2.heap.objs.size) s3.heap.objs.size)
  {s3 with heap:=h₁,toks:=s2.toks+([]:List (Str×Rz)).length}:=by
  refine yV rfl T hc I4 (by show(tN++capN).length=_;simp[gJ,S.cap.len]) st4 f4 hg ht he W (Fin s2.heap.objs.size) w0 turn _ λσ' H' acc s' I' hD' fin=>?_;obtain⟨Io,fo⟩:=yU I3 rfl (cN _) hex I';obtain⟨m',hn',_⟩:=I'.loc;exact hu _ _ acc H' s' Io fo hD' fin ⟨m',hn'⟩
 rw[es];exact codeAny_compStart_list loop (T.self _ 0 _ _ _ st4 loop)
def tI(hc:X.calm=true)(S:bm X scope tN capN caps)(I:L2.Inv X aa σ H s)(hi:PI X tg iter wi)(h:wi σ H (dH X scope tg tN capN caps elt ifs σ λDl _ H'=>Q (.ref Dl) H'))
 (hs:autoParam (∀x,foldedSetIterable iter X.env x=pure x) RI):wX X (eval (.ListComp elt [⟨tg,iter,ifs,0⟩] scope pos) X.env) (EP X aa σ Q) X.xe s:=by
 rw[eval_ListComp];refine pD (use:=none) hc S I hi h (λDl C acc H' s' Io fo hD fin hn=>?_) hs;obtain⟨m,hn⟩:=hn;exact⟨m,hn,λh' sb=>⟨.ref Dl,H',w4 Io fo sb,rfl,fin⟩⟩
def nz{D:Ends}{i:Nat}(hc:X.calm=true)(S:bm X scope tN capN caps)(hN:X.N.Nodup)(hi':X.N[i]?=some y)(hy:X.env.scope.names.lookup y=some .local)
 (hsw:swapsWith (.ListComp elt [⟨tg,iter,ifs,0⟩] scope pos) (some (.Name y py)) spos.line X.env=pure true) (I:L2.Inv X aa σ H s) (hi:PI X tg iter wi)
 (h:wi σ H (dH X scope tg tN capN caps elt ifs σ λDl _ H'=>D.nx (σ.set i (some (.ref Dl))) H')) (hs:autoParam (∀x,foldedSetIterable iter X.env x=pure x) RI) :
 wX X (exec (.Assign [.Name y py] (.ListComp elt [⟨tg,iter,ifs,0⟩] scope pos) spos) X.env) (SP X aa D) X.xe s:=by
 rw[exec_Assign_Name_used _ _ _ _ hsw];refine bo (wpAny_standAt (bo ?_));show wpAny _ X.A (do let _ <- comprehension (.ListComp elt [⟨tg,iter,ifs,0⟩] scope pos) scope X.env _ (newList []) false (eval iter X.env) (some (assign (.Name y py) X.env))) _ _ s;refine bo (OT (pD (use:=some (assign (.Name y py) X.env)) (Qv:=λ_ s'=>SP X aa D .next s') hc S I hi h (λDl C acc H' s' Io fo hD fin hn=>?_) hs) (λ_ s' hq=>bF (bF hq)) λ_ _ e=>e);obtain⟨m,hn⟩:=hn;show wpAny _ X.A (assign (.Name y py) X.env (.ref Dl)) _ _ _;refine wpAny_assign_Name (oS (v:=.ref Dl) Io hN hi' (.inl hy) rfl (λs'' I'' ⟨a,sb,ha⟩=>?_) (.inr hy));have nca:C≠a:=by
  rcases ha with z|z
  .rw[z];exact fo.2.1
  .exact Oz (fo.2.2.2.2.1 y a z)
 refine⟨m,hn.sameBut sb nca,λh' sb'=>?_⟩;exact⟨_,H',w4 I'' fo sb',fin⟩
end
noncomputable def Res.NC{α:Type}:Res α->Res α
 |.exc _=>.stuck
 |r=>r
def DP(env:En)(j:Nat):Option Sl:=match env[j]? with
 |some (some (.val d fr))=>some (.val d fr)
 |some (some (.own ds fr))=>some (.val (.lst ds) fr)
 |some (some (.cw d))=>some (.val d true)
 |_=>none
def dS(env:En)(n:Nat)(caps:List Nat):En:=List.replicate n none++caps.map (DP env)
def cF(mk:D->Option En)(test:En->Res Bool)(elt:En->Res R):List D->Res (List R)
 |[]=>.ok []
 |x::xs=>match mk x with
  |none=>.stuck
  |some e=>(test e).bind λb=>if b then(elt e).bind λr=>(cF mk test elt xs).bind λrs=>.ok (r::rs)else cF mk test elt xs
def d8(n:Nat)(caps:List Nat)(src:En->Res Src)(asg:D->Bool->En->Option En)(test:En->Res Bool)(elt:En->Res R):En->Res R:=λenv=>(src env).bind λs=>if s.xs.length<=lim then
 (cF (λd=>asg d s.fr (dS env n caps)) test elt s.xs).NC.bind λrs=>.ok (gP (rs.map R.d) (aR rs) (s.al++caps.filter (bW env)))else .stuck
def qS(X:Cx)(E:XK)(ifs:List Expr)(f:En->Res Bool):Prop:=∃t,Hk X ifs t/\SndT X.mg E t f
section
def cr:qS X E [] (λ_=>.ok true):=⟨_,DO,λg M ρ env σ H Q rep p=>p M H (Ext.refl _ _) rep⟩
def A2(h:zJ X E c f):qS X E [c] f:=let ⟨t,a,b⟩:=h;⟨t,w6 a,b⟩
end
section
variable{M1:Addr->Prop}
def Kx(rep:Rep g M1 ρ env σ H1)(s:Same H1 H)(ho:o.length=n)(hM:∀a,(M1 a\/∃i,i∈caps/\ρ i a)->M' a)(hf:∀a,M' a->H a≠none)(hi:∀a,M' a->g.H₀ a=none\/g.Ma a)(hfl:∀a,M' a->g.H₀ a=none->MuZ g H a) :
 Rep g M' (λ_ _=>False) (dS env n caps) (o++gJ σ caps) H where
 same:=rep.same.trans s
 fI:=hf
 pZ:=hi
 fl:=hfl
 slot:=λi sl e=>by
  by_cases hlt:i<n
  .unfold dS at e;rw[gY (by simpa using hlt),Qu,ck hlt]at e;cases e
  .obtain⟨k,rfl⟩ : ∃k,i=n+k:=⟨i-n,by lia⟩;have e:(caps.map (DP env))[k]?=some (some sl):=by
    unfold dS at e
    rwa [cP (by simp),QJ,O7]at e
   rw[ol]at e;cases q:caps[k]? with
   |none=>rw[q]at e;cases e
   |some j=>
    rw[q]at e;have e:DP env j=some sl:=by simpa using e
    have hj:j∈caps:=OD q;unfold DP at e;cases q2:env[j]? with
    |none=>rw[q2]at e;cases e
    |some o=>
     cases o with
     |none=>rw[q2]at e;cases e
     |some sl0=>
      obtain⟨v,ev,k2⟩:=rep.slot j sl0 q2;have el:(o++gJ σ caps)[n+k]?=some (some v):=by rw[cP (by lia),ho,O7];unfold gJ;rw[ol,q];simp[ev]
      rw[q2]at e;cases sl0 with
      |val d' fr'=>cases e;exact⟨v,el,Is.mono (λa o q _=>s a o q) (λa _ _ z=>⟨hM a (.inl z.1),z.2⟩) k2⟩
      |own ds' fr'=>cases e;obtain⟨a,vs,rfl,h1,h2,h4⟩:=k2;have ha:=(h2 a).mpr rfl;exact⟨_,el,a,vs,rfl,.inl ⟨s _ _ h1,hM a (.inr ⟨j,hj,ha⟩),λ_=>(rep.aT j a ha).2.1⟩,IsAll.mono (λa o q _=>s a o q) (λa _ _ z=>⟨hM a (.inl z.1),z.2⟩) h4⟩
      |cw d'=>cases e;exact⟨v,el,Is.mono (λa o q _=>s a o q) (λa _ _ z=>⟨hM a (.inr ⟨j,hj,z⟩),λ_=>(rep.aT j a z).2.1⟩) k2⟩
      |ya d'=>cases e
      |fD ks'=>cases e
 aT:=λ_ _ z=>z.elim
 apart:=λ_ _ _ z=>z.elim
 ow:=λ_ _ z=>z.elim
 len:=by simp[dS,gJ,ho]
 zz:=λa z e=>rep.zz a z (s.free e)
end
noncomputable def tL(X:Cx)(scope:Scope)(tg:Expr)(tN:List Str)(capN:List Str)(caps:List Nat)(elt:Expr)(ifs:List Expr)(wi:TI):TE:=λσ H Q=>wi σ H (dH X scope tg tN capN caps elt ifs σ λDl _ H'=>Q (.ref Dl) H')
structure CI(g:Gd) (M:Addr->Prop) (H1:Hp) (Dl:Addr) (C:Nat->List R->Prop) (full:List R) (i:Nat) (acc:List V) (H:Hp) (M':Addr->Prop) (rs aX:List R):Prop where
 sm:Same H1 H
 hD:H Dl=some (.lst acc)
 mi:∀a,M a->M' a
 mo:∀a,M' a->M a\/H1 a=none
 nD:¬M' Dl
 fz:∀a,M' a->H a≠none
 fl:∀a,M' a->g.H₀ a=none->MuZ g H a
 rl:rs.length<=i
 is:IsAll H (dc g M' (aR rs)) (rs.map R.d) acc
 qr:C i aX
 ef:full=rs++aX
section
def gd{M1:Addr->Prop}{H1:Hp}{Q:VK}{J:It}{s:Src}{full:List R}(hix:∀j∈ix,j<tN.length)(hg:∀cl C s3 H3 fp,yR (aS X scope (tN++capN) cl C s3 H3 fp) ix tg asg)(ht:∀cl C s3 H3 fp,qS (aS X scope (tN++capN) cl C s3 H3 fp) E0 ifs ft)(he:∀cl C s3 H3 fp,PD (aS X scope (tN++capN) cl C s3 H3 fp) E0 elt fe)(rep1:Rep g M1 ρ env σ H1)(wk:Walk J (vmsk g M1 s.fr ρ s.al) H1 s.xs)(hlim:s.xs.length<=lim)(qc:cF (λd=>asg d s.fr (dS env tN.length caps)) ft fe s.xs=.ok full)
 (p:PostE X.mg E g M1 ρ env σ H1 Q (.ok (gP (full.map R.d) (aR full) (s.al++caps.filter (bW env))))):dH X scope tg tN capN caps elt ifs σ (λDl _ H'=>Q (.ref Dl) H') J H1:=by
 intro Dl hDl cl C s3 fp;obtain⟨gt,pg,sg⟩:=hg cl C s3 (aC H1 Dl (.lst [])) fp;obtain⟨tt,pt,st⟩:=ht cl C s3 (aC H1 Dl (.lst [])) fp;obtain⟨te,pe,se⟩:=he cl C s3 (aC H1 Dl (.lst [])) fp;obtain⟨d0,dm,dow⟩:=rep1.free hDl;refine⟨gt,tt,te,λi m acc H=>m=s.xs.length-i/\i<=s.xs.length/\∃(M':Addr->Prop)(rs aX:List R),CI g (λa=>M1 a\/∃j,j∈s.al++caps/\ρ j a) H1 Dl (λi aX=>cF (λd=>asg d s.fr (dS env tN.length caps)) ft fe (s.xs.drop i)=.ok aX) full i acc H M' rs aX,
  pg,pt,pe,⟨_,rfl,N3 _,(λa=>M1 a\/∃j,j∈s.al++caps/\ρ j a),[],full,aK hDl,ag,λ_ z=>z,λ_ z=>.inl z,?_,?_,?_,cN _,rfl,qc,rfl⟩,?_⟩
 .rintro (z|⟨j,_,z⟩)
  .exact dm z
  .exact dow j z
 .rintro a (z|⟨j,_,z⟩) hn
  .exact rep1.fI a z ((aK hDl).free hn)
  .obtain⟨_,_,uo,hz,_⟩:=rep1.aT j a z;rw[(aK hDl) a _ hz]at hn;cases hn
 .rintro a (z|⟨j,_,z⟩) h0
  .exact(rep1.fl a z h0).same λo e=>aK hDl _ _ e
  .exact .inl ((rep1.aT j a z).2.2.same λo e=>aK hDl _ _ e)
 .rintro i m acc H2 ⟨rfl,hle,M',rs,aX,sm,hD2,hMi,hMo,nD,frz2,fl2,hrs,isA,qr,efull⟩;refine⟨hD2,?_⟩;have kp:∀a o,H1 a=some o->(vmsk g M1 s.fr ρ s.al a\/dE o)->H2 a=some o:=λa o e _=>sm a o e;have inn2:∀{M'':Addr->Prop}{a:Addr},(M1 a\/∃j,j∈s.al++caps/\ρ j a)\/H1 a=none->g.H₀ a=none\/g.Ma a:=λ{M'' a} z=>by
   rcases z with(z|⟨j,_,z⟩)|z
   .exact rep1.pZ a z
   .exact .inl (rep1.aT j _ z).2.1
   .exact .inl (rep1.same.free z)
  by_cases hlt:i<s.xs.length
  .have ed:s.xs[i]?=some s.xs[i]:=by simp[hlt]
   obtain⟨go,yl⟩:=wk.go H2 i _ kp ed;refine .inr ⟨go,λxv H3 o y lo=>?_⟩;obtain⟨s23,isx⟩:=yl xv H3 y;have edrop:s.xs.drop i=s.xs[i]::s.xs.drop (i+1):=OC hlt;rw[edrop]at qr;unfold cF at qr;have isx':Is H3 (dc g M' s.fr) s.xs[i] xv:=isx.weak λa z=>by
    rcases z with z|⟨j,hj,z⟩
    .exact⟨hMi a (.inl z.1),z.2⟩
    .exact⟨hMi a (.inr ⟨j,by simp[hj],z⟩),λ_=>(rep1.aT j _ z).2.1⟩
   have repI:Rep g M' (λ_ _=>False) (dS env tN.length caps) (o++gJ σ caps) H3:=Kx rep1 (sm.trans s23) lo (λa z=>hMi a (z.imp id λ⟨j,hj,w⟩=>⟨j,by simp[hj],w⟩)) (λa z hn=>frz2 a z (s23.free hn)) (λa z=>inn2 (M'':=M') (hMo a z)) (λa z h0=>(fl2 a z h0).same λo e=>s23 _ _ e);cases qa:asg s.xs[i] s.fr (dS env tN.length caps)with
   |none=>simp only[qa]at qr;cases qr
   |some envT=>
   simp only[qa]at qr;refine sg g M' _ _ envT _ H3 _ s.fr xv _ repI isx' qa λσ2 ρ2 repT shp nρ=>⟨λj hj=>shp j λz=>absurd (hix j z) (by lia),?_⟩;refine st g M' ρ2 _ _ H3 _ repT ?_;cases qt:ft envT with
   |stuck=>rw[qt]at qr;cases qr
   |exc c=>rw[qt]at qr;cases qr
   |ok b=>
    rw[qt]at qr;intro M4 H4 e4 rep4;cases b with
    |false=>refine uU ⟨s.xs.length-(i+1),by lia,rfl,hlt,M',rs,aX,(sm.trans s23).trans e4.h,e4.h _ _ (s23 _ _ hD2),hMi,hMo,nD,λa z hn=>frz2 a z (s23.free (e4.h.free hn)),λa z h0=>(fl2 a z h0).same λo e=>e4.h _ _ (s23 _ _ e),by lia,?_,by simpa using qr,efull⟩;exact IsAll.same e4.h (IsAll.same s23 isA)
    |true=>
     refine uV ?_;simp only[Res.iL,O_]at qr;refine se g M4 ρ2 _ _ H4 _ rep4 ?_;cases qe:fe envT with
     |stuck=>rw[qe]at qr;cases qr
     |exc c=>rw[qe]at qr;cases qr
     |ok r=>
      rw[qe]at qr;simp only[Res.iL]at qr;cases qd:cF (λd=>asg d s.fr (dS env tN.length caps)) ft fe (s.xs.drop (i+1))with
      |stuck=>rw[qd]at qr;cases qr
      |exc c=>rw[qd]at qr;cases qr
      |ok rest'=>
       rw[qd]at qr;have qr:r::rest'=aX:=by simpa using qr
       intro yv M5 H5 e5 rep5 ro;obtain⟨M6,e6,m56,rep6,is6⟩:=ro.is rep5 e5 rep4.same;have D3:H3 Dl=some (.lst acc):=s23 _ _ hD2;have D4:H4 Dl=some (.lst acc):=e4.h _ _ D3;have D5:H5 Dl=some (.lst acc):=e5.h _ _ D4;have nD4:¬M4 Dl:=λz=>(e4.n Dl z).elim nD λw=>by rw[D3]at w;cases w
       have nD6:¬M6 Dl:=λz=>(e6.n Dl z).elim nD4 λw=>by rw[D4]at w;cases w
       have M46:∀a,M4 a->M6 a:=e6.m;have up:∀a o,H5 a=some o->a≠Dl->aC H5 Dl (.lst (acc++[yv])) a=some o:=λa o e n=>by rw[af n];exact e
       have kp5:∀(fr:Bool) a o,H5 a=some o->(dc g M6 fr a\/dE o)->aC H5 Dl (.lst (acc++[yv])) a=some o:=λfr a o e z=>up a o e λw=>by
        subst w;rcases z with z|z
        .exact nD6 z.1
        .rw[D5]at e;cases e;exact z
       refine⟨D5,?_,s.xs.length-(i+1),by lia,rfl,hlt,M6,rs++[r],rest',?_,ag,λa z=>M46 a (e4.m a (hMi a z)),λa z=>?_,nD6,λa z=>?_,λa z h0=>?_,by simp;lia,?_,qd,by rw[efull,<- qr];simp⟩
       .have:acc.length=rs.length:=by rw[isA.length,cM]
        exact ku (by lia)
       .intro b o e;exact up b o (e5.h _ _ (e4.h _ _ (s23 _ _ (sm _ _ e)))) (aD e hDl)
       .rcases e6.n a z with z|z
        .rcases e4.n a z with z|z
         .exact hMo a z
         .exact .inr (sm.free (s23.free z))
        .exact .inr (sm.free (s23.free (e4.h.free z)))
       .by_cases hw:a=Dl
        .rw[hw,ag];simp
        .rw[af hw];exact rep6.fI a z
       .have hw:a≠Dl:=λe=>nD6 (e▸z);exact(rep6.fl a z h0).same λo e=>by rw[af hw];exact e
       .rw[N4];refine IsAll.append ?_ ⟨yv,[],rfl,?_,rfl⟩
        .have i5:IsAll H5 (dc g M' (aR rs)) (rs.map R.d) acc:=((isA.same s23).same e4.h).same e5.h;refine(i5.weak λa z=>(⟨M46 a (e4.m a z.1),λe=>z.2 (by simp[aR]at e ⊢;exact e.1)⟩ : dc g M6 (aR (rs++[r])) a)).mono (kp5 _) λ_ _ _ z=>z
        .refine(is6.weak λa z=>?_:Is H5 (dc g M6 (aR (rs++[r]))) r.d yv).mono (kp5 _) λ_ _ _ z=>z;rcases z with z|⟨j,_,z⟩
         .exact⟨z.1,λe=>z.2 (by simp[aR]at e;exact e.2)⟩
         .exact(nρ _ _ z).elim
  .have ei:i=s.xs.length:=by lia
   subst ei;refine .inl ⟨wk.stop H2 kp,?_⟩;rw[QV]at qr;unfold cF at qr;cases qr;rw[Oo]at efull;subst efull;have RM:Rep g (λa=>M1 a\/(nl H1 H2 a/\M' a)) ρ env σ H2:=rep1.came sm M';have XM:Ext M1 H1 (λa=>M1 a\/(nl H1 H2 a/\M' a)) H2:=⟨λ_=>.inl,sm,λ_ z=>z.imp id (·.1.1)⟩;have nDl:¬(M1 Dl\/(nl H1 H2 Dl/\M' Dl)):=λz=>z.elim dm λz=>nD z.2;have nwD:∀b,V.ref Dl=.ref b->H1 b=none:=λb e=>by cases e;exact hDl
   unfold gP at p;by_cases hfl:D.ba (full.map R.d)=true
   .rw[ck hfl]at p;exact p _ _ H2 XM RM ⟨Dl,acc,rfl,hD2,nDl,hDl,dow,IsAll.flat hfl isA⟩
   .rw[cO hfl]at p;by_cases hal:(s.al++caps.filter (bW env)).isEmpty=true
    .rw[ck hal]at p;refine p _ _ H2 XM RM ⟨Dl,acc,rfl,hD2,nDl,hDl,dow,isA.weak λa z=>⟨?_,z.2⟩⟩;rcases hMo a z.1 with(w|⟨j,hj,w⟩)|w
     .exact .inl w
     .exfalso;have he:s.al++caps.filter (bW env)=[]:=by simpa using hal
      rcases gZ.mp hj with hj|hj
      .have:j∈s.al++caps.filter (bW env):=lP _ hj;rw[he]at this;simp at this
      .have:j∈s.al++caps.filter (bW env):=p6 _ (O9.mpr ⟨hj,rep1.ow j a w⟩);rw[he]at this;simp at this
     .exact .inr ⟨⟨w,(fl2 a z.1 (rep1.same.free w)).elim id λq=>(rep1.zz a q.1 w).elim⟩,z.1⟩
    .rw[cO hal]at p;refine p _ (λa=>(M1 a\/(nl H1 H2 a/\M' a))\/a=Dl) H2 ⟨λ_ z=>.inl (.inl z),sm,λa z=>z.elim (XM.n a) λe=>.inr (e▸hDl)⟩ (RM.more hD2 d0 dow) ⟨Dl,acc,rfl,.inl ⟨hD2,.inl ⟨.inr rfl,λ_=>d0⟩⟩,isA.weak λa z=>?_⟩;rcases hMo a z.1 with(w|⟨j,hj,w⟩)|w
     .exact .inl ⟨.inl (.inl w),z.2⟩
     .refine .inr ⟨j,?_,w⟩;rcases gZ.mp hj with hj|hj
      .exact lP _ hj
      .exact p6 _ (O9.mpr ⟨hj,rep1.ow j a w⟩)
     .exact .inl ⟨.inl (.inr ⟨⟨w,(fl2 a z.1 (rep1.same.free w)).elim id λq=>(rep1.zz a q.1 w).elim⟩,z.1⟩),z.2⟩
def tM(si:Kv X.mg E wi src)(hix:∀j∈ix,j<tN.length)(hg:∀cl C s3 H3 fp,yR (aS X scope (tN++capN) cl C s3 H3 fp) ix tg asg)(ht:∀cl C s3 H3 fp,qS (aS X scope (tN++capN) cl C s3 H3 fp) E0 ifs ft)(he:∀cl C s3 H3 fp,PD (aS X scope (tN++capN) cl C s3 H3 fp) E0 elt fe) :
 Snd X.mg E (tL X scope tg tN capN caps elt ifs wi) (d8 tN.length caps src asg ft fe):=by
 intro g M ρ env σ H Q rep p;refine si g M ρ env σ H _ rep ?_;unfold d8 at p;cases q:src env with
 |stuck=>rw[q]at p;exact p
 |exc c=>rw[q]at p;exact p
 |ok s=>
  rw[q]at p;simp only[Res.iL]at p;intro J M1 H1 e1 rep1 wk Dl hDl cl C s3 fp;by_cases hlim:s.xs.length<=lim
  .rw[ck hlim]at p;cases qc:cF (λd=>asg d s.fr (dS env tN.length caps)) ft fe s.xs with
   |stuck=>rw[qc]at p;exact p.elim
   |exc c=>rw[qc]at p;exact p.elim
   |ok full=>rw[qc]at p;have p:PostE X.mg E g M1 ρ env σ H1 Q (.ok (gP (full.map R.d) (aR full) (s.al++caps.filter (bW env)))):=PostE.ext e1 p;exact gd hix hg ht he rep1 wk hlim qc p Dl hDl cl C s3 fp
  .rw[cO hlim]at p;exact p.elim
def qT(hc:X.calm=true)(S:bm X scope tN capN caps)(hi:Jo X E tg iter src)(hix:∀j∈ix,j<tN.length)(hg:∀cl C s3 H3 fp,yR (aS X scope (tN++capN) cl C s3 H3 fp) ix tg asg)(ht:∀cl C s3 H3 fp,qS (aS X scope (tN++capN) cl C s3 H3 fp) E0 ifs ft)(he:∀cl C s3 H3 fp,PD (aS X scope (tN++capN) cl C s3 H3 fp) E0 elt fe)
 (hs:autoParam (∀x,foldedSetIterable iter X.env x=pure x) RI):PD X E (.ListComp elt [⟨tg,iter,ifs,0⟩] scope pos) (d8 tN.length caps src asg ft fe):=by
 obtain⟨wi,p1,s1⟩:=hi;exact⟨tL X scope tg tN capN caps elt ifs wi,λaa s σ H Q I h=>tI hc S I p1 h hs,tM s1 hix hg ht he⟩
def jz(hc:X.calm=true)(S:bm X scope tN capN caps)(hN:X.N.Nodup)(hi':X.N[i]?=some y)(hy:X.env.scope.names.lookup y=some .local)
 (hi:Jo X E tg iter src) (hix:∀j∈ix,j<tN.length) (hg:∀cl C s3 H3 fp,yR (aS X scope (tN++capN) cl C s3 H3 fp) ix tg asg) (ht:∀cl C s3 H3 fp,qS (aS X scope (tN++capN) cl C s3 H3 fp) E0 ifs ft) (he:∀cl C s3 H3 fp,PD (aS X scope (tN++capN) cl C s3 H3 fp) E0 elt fe)
 (hsw:autoParam (swapsWith (.ListComp elt [⟨tg,iter,ifs,0⟩] scope pos) (some (.Name y py)) spos.line X.env=pure true) RJ) (hs:autoParam (∀x,foldedSetIterable iter X.env x=pure x) RI) :
 lc X E (.Assign [.Name y py] (.ListComp elt [⟨tg,iter,ifs,0⟩] scope pos) spos) (b_ i (d8 tN.length caps src asg ft fe)):=by
 obtain⟨wi,p1,s1⟩:=hi;exact⟨yg (tL X scope tg tN capN caps elt ifs wi) (d7 i),λaa s σ H D I h=>nz hc S hN hi' hy hsw I p1 h hs,qP (tM s1 hix hg ht he)⟩
end
def h9(N:List Str)(ds:List D):En:=ds.map (λd=>some (.val d false))++List.replicate (N.length-ds.length) none
def pE:Res Fl->Res R
 |.ok (.nx _)=>.ok (.val .fU true [])
 |.ok (.rt r)=>.ok r
 |.ok _=>.stuck
 |.exc c=>.exc c
 |.stuck=>.stuck
def iQ(N:List Str)(FB:En->Res Fl)(ds:List D):Res R:=pE (FB (h9 N ds))
def e9:ke oz X E:=λ_ _ _ _ _ _ _ h=>h.elim
def yW(is:IsAll H Ma ds vs):Rep (Kp H Ma) (λa=>Ma a/\H a≠none) (λ_ _=>False) (h9 N ds) (L2.fZ N vs) H where
 same:=Same.refl H
 fI:=λa z=>z.2
 pZ:=λa z=>.inr z.1
 fl:=λa z h=>absurd h z.2
 slot:=λi sl e=>by
  have hl:=is.length;unfold h9 at e;by_cases hi:i<ds.length
  .rw[gY (by simpa using hi),ol]at e;obtain⟨v,ev,iv⟩:=is.get (i:=i) (d:=ds[i]) (by simp[hi]);have e1:ds[i]?=some ds[i]:=by simp[hi]
   rw[e1]at e;cases e;refine⟨v,?_,Is.mono (λ_ _ q _=>q) (λa o q z=>⟨⟨z,by rw[q];simp⟩,λz=>by cases z⟩) iv⟩;unfold L2.fZ;rw[gY (by simp;lia),ol,ev];rfl
  .rw[cP (by simpa using hi),Qu]at e;split at e<;>cases e
 aT:=λ_ _ z=>z.elim
 apart:=λ_ _ _ z=>z.elim
 ow:=λ_ _ z=>z.elim
 len:=by have hl:=is.length;unfold h9 L2.fZ;simp[hl]
 zz:=λ_ z=>z.elim
section
variable{P:Ry}{w:World}{K:Rx}{mg:Str->Option Rz}{base:Heap}
def gQ{x qual:Str}{st:Stmt}{f:Addr}{FB:En->Res Fl}(F:F_ K x qual st f fd)(S:bt N ps (ao st))
 (body:∀(cdv:Rz)(A:RA)(outer:List Env)(s:Rv)(H:Hp)(E:XK),gC k (A.deeper (envOfC qual (ao st) s.heap.objs.size f cdv))->oH (uQ oz P w K mg base N qual (ao st) f cdv A outer s H E).LM E (aO st) FB) :
 cS P w K mg base oz (k+1) f fd ps (tB mg ps.length (iQ N FB)):=by
 refine F.ok S (λvs H Q E h=>h.1) (λcdv A outer s H vs Q E hr h=>?_);obtain⟨hl,ds,Ma,is,post⟩:=h;obtain⟨t,p1,s1⟩:=body cdv A outer s H E hr;refine⟨t,p1,s1 (Kp H Ma) _ _ (h9 N ds) (L2.fZ N vs) H _ (yW is) ?_⟩;unfold iQ at post;cases q:FB (h9 N ds)with
 |stuck=>rw[q]at post;exact post
 |exc c=>rw[q]at post;exact post
 |ok r=>
  rw[q]at post;cases r with
  |nx env=>exact λσ M' ρ' H' _ rep=>post .fU H' rep.same rfl
  |rt r=>exact λv M' H' _ s ro _=>post v H' s (ro λ_ z=>z)
  |rm r env=>exact post.elim
  |bk env=>exact post.elim
  |ct env=>exact post.elim
end
section
def sl_tupW:SlR X (λx lo hi H Q=>∃a xs,x=.ref a/\SqT X.K H a xs/\(HT.sIx xs.length 0 lo=0/\HT.sIx xs.length xs.length hi=xs.length)/\Q x H):=by
 intro aa s σ H x v vl vu lo hi sl Q I rx hs pl pu h;obtain⟨a,xs,rfl,hx,hw,q⟩:=h;cases rx;obtain⟨its,r,ht,hz⟩:=I.tuple hx;have bN:its.toArray.size=xs.length:=by rw[cQ];exact r.length.symm
 refine⟨"tuple",_,Ox.lookup,ht.typeIs,?_⟩;obtain⟨os,hos,hcs,hds⟩:=id hs;have hTs:s.TypeIs (.ref sl) "slice":=⟨os,hos,hcs⟩;unfold getItem
 try with_reducible refine On ?_
 first|refine bo (bF ?_)|skip
 refine bo (wpAny_sequenceKey ht.typeIs (by decide) ?_);refine bo (OM (name:=Str.ofString "__getitem__") ht.typeIs Ox
  (Ow Ox ht.typeIs entry_tuple_getitem ?_ (args_tuple_getitem _ _)))
 show wpAny _ _ (Builtin.Tuple.tupleItemsOf (.ref a) >>= _) _ _ s;refine bo (tupleItemsOf_ ht ?_);refine bo (QK hTs ?_);rw[ck (by decide)];refine bo (HT.sliceApplied_gen hs pl pu ?_);have hyes:((((HT.sIx its.toArray.size 0 lo:Nat):Int)==0&&(1:Int)==1&&(HT.sIx its.toArray.size its.toArray.size hi-HT.sIx its.toArray.size 0 lo)==its.toArray.size)=true):=by rw[bN,hw.1,hw.2];simp
 show wpAny _ _ (if(((HT.sIx its.toArray.size 0 lo:Nat):Int)==0&&(1:Int)==1&&(HT.sIx its.toArray.size its.toArray.size hi-HT.sIx its.toArray.size 0 lo)==its.toArray.size)=true then _ else _) _ _ s;rw[ck hyes];have fin:EP X aa σ Q (.ref a) s:=⟨.ref a,H,I,rfl,q⟩;refine bo (m:=Builtin.Tuple.tupleIsExact (.ref a)) ?_;unfold Builtin.Tuple.tupleIsExact;refine bo (QK ht.typeIs ?_);refine bF ?_;rw[ck (by decide)];exact bo (Q1 (bF ⟨_,rfl,bF fin⟩))
end
section
def e_{α:Type}(xs:List α)(lo hi:Option Int):List α:=(xs.drop (HT.sIx xs.length 0 lo)).take (HT.sIx xs.length xs.length hi-HT.sIx xs.length 0 lo)
def IsAll.cut(h:IsAll H m ds vs)(lo hi:Option Int):IsAll H m (e_ ds lo hi) (oq vs lo hi):=by unfold e_ oq;rw[h.length];exact(h.drop _).take _
noncomputable def FF(mg:Str->Option Rz)(E:XK)(g:Gd)(M:Addr->Prop)(ρ:Pr)(env:En)(σ:St)(H:Hp)(Q:Option Int->Hp->Prop):Res (Option Int)->Prop
 |.stuck=>False
 |.exc c=>DE mg E g c
 |.ok o=>∀M' H',Ext M H M' H'->Rep g M' ρ env σ H'->Q o H'
def Mg(X:Cx)(E:XK)(e:Option Expr)(f:En->Res (Option Int)):Prop:=∃t,PO X e t/\∀g M ρ env σ H Q,Rep g M ρ env σ H->FF X.mg E g M ρ env σ H Q (f env)->t σ H Q
noncomputable def w8:En->Res (Option Int):=λ_=>.ok none
def pF(f:En->Res R):En->Res (Option Int):=λenv=>(f env).bind λr=>match r.d with
 |.int i=>.ok (some i)
 |_=>.stuck
def tO:Mg X E none w8:=⟨_,wm,λg M ρ env σ H Q rep p=>p M H (Ext.refl _ _) rep⟩
def jC(h:PD X E e f):Mg X E (some e) (pF f):=by
 obtain⟨t,p1,s1⟩:=h;refine⟨_,wn p1,λg M ρ env σ H Q rep p=>s1.one rep (P:=λM H r=>FF X.mg E g M ρ env σ H Q r) p (λ_ _ z=>z) (λ_ _ _ z=>z) (λM H M' H' r e p=>?_) λr v M1 H1 e1 rep1 is q=>?_⟩
 .cases r with
  |stuck=>exact p
  |exc c=>exact p
  |ok o=>exact λM2 H2 e2=>p M2 H2 (e.trans e2)
 .cases z:r.d with
  |int i=>rw[z]at is;simp only[z]at q;cases is;exact⟨i,rfl,q M1 H1 (Ext.refl _ _) rep1⟩
  |_=>simp only[z]at q;exact q.elim
noncomputable def D.ty:D->String
 |.fU=>"NoneType" |.bl _=>"bool" |.int _=>"int" |.str _=>"str" |.tup _=>"tuple" |.lst _=>"list" |.bp _ _=>"dict"
def Nx(K:Rx)(H:Hp)(x:V)(t:Rz):Prop:=kX K H x t\/(t=.type "dict"/\∃a,x=.ref a/\LZ H a)
theorem Is.ty{m:Addr->Prop}{v:V}{K:Rx}(h:Is H m d v):Nx K H v (.type d.ty):=by
 cases d with
 |fU=>cases h;exact .inl .fU
 |bl b=>cases h;exact .inl (.bl b)
 |int b=>cases h;exact .inl (.int b)
 |str b=>cases h;exact .inl (.str b)
 |tup ds=>obtain⟨a,vs,rfl,h1,_⟩:=h;exact .inl (.tup h1)
 |lst ds=>
  obtain⟨a,vs,rfl,h1,_⟩:=h;rcases h1 with⟨h1,_⟩|⟨o,h1,_⟩
  .exact .inl (.lst h1)
  .exact .inl (.az h1)
 |bp ks ds=>obtain⟨a,kvs,rfl,h1,_⟩:=h;exact .inr ⟨rfl,a,rfl,h1.1.imp (λ⟨kvs,e,_⟩=>⟨kvs,e⟩) λ⟨kvs,e,_⟩=>⟨kvs,e⟩⟩
def FG(T:String)(d:D):Bool:=match d with
 |.fU=>T=="NoneType"
 |.bl _=>T=="bool" || T=="int"
 |.int _=>T=="int"
 |.str _=>T=="str"
 |.tup _=>T=="tuple"
 |.lst _=>T=="list"
 |.bp _ _=>T=="dict"
def A3(T:String):Prop:=∀(K:Rx)(d:D),PySem.W.kitOne K (.type d.ty) (.type T)=some (FG T d)
def A4:A3 "int":=λK d=>by cases d<;>kernel_rfl
def yX:A3 "bool":=λK d=>by cases d<;>kernel_rfl
def pG:A3 "list":=λK d=>by cases d<;>kernel_rfl
def nA:A3 "tuple":=λK d=>by cases d<;>kernel_rfl
def tP(T:String)(fa:En->Res R):En->Res R:=λenv=>(fa env).bind λr=>.ok (.val (.bl (FG T r.d)) true [])
def A5:CallR X (.builtin "isinstance") (λxs H Q=>∃x T t b,xs=[x,.ty T]/\Nx X.K H x t/\PySem.W.kitOne X.K t (.type T)=some b/\Q (.bl b) H):=by
 intro aa s σ H xs us Q I r h;obtain⟨x,T,t,b,rfl,ty,e,q⟩:=h;obtain⟨u,c,rfl,ru,rc⟩:=Fc r;obtain rfl:c=Value.type T:=rc;rcases ty with ty|⟨rfl,a,rfl,hd⟩
 .exact ym I ru ty e λtk=>⟨.bl b,H,I.tok tk,rfl,q⟩
 .obtain rfl:u=Value.ref a:=ru;obtain⟨t1,_⟩:=z9 I hd;exact OJ Rj I.rT t1 e (λz=>nomatch z) λtk=>⟨.bl b,H,I.tok tk,rfl,q⟩
def kA(hK:A3 T')(hg:Gl X "isinstance") (hm:X.mg "isinstance"=none) (hgT:Gl X T) (hmT:X.mg T=none) (hvT:bootBuiltins T=some (.type T')) (ha:PD X E e fa)
 (hnT:autoParam (T≠"__name__") ab) (hdT:autoParam (dB T) ab)
 (he:autoParam (starEach [e,.Name T q] X.env=(false,eval e X.env)::starEach [.Name T q] X.env) RJ) (he2:autoParam (starEach [.Name T q] X.env=(false,eval (.Name T q) X.env)::starEach [] X.env) RJ) (hpl:autoParam ((backTo pos (starEach [.Name T q] X.env)).any (·.1)=false) RJ) :
 PD X E (.Call (.Name "isinstance" p) [e,.Name T q] [] pos) (tP T' fa):=by
 obtain⟨ta,p1,s1⟩:=ha;refine⟨_,f6 A5 hg hm (by decide +kernel) (aI p1 (aI (CS hgT hmT hvT (v:=.ty T') rfl hnT hdT) bR he2) he) (by decide) (by decide) he hpl,λg M ρ env σ H Q rep p=>s1.fH rep p λr v M1 H1 e1 rep1 is q=>?_⟩;exact⟨v,T',_,_,rfl,is.ty,hK X.K r.d,q _ M1 H1 (Ext.refl _ _) rep1 rfl⟩
end
section
noncomputable def df:List D->Option (List Bool)
 |[]=>some []
 |.bl b::r=>(df r).map λbs=>b::bs
 |_::_=>none
def DQ:List R->Res R
 |[r]=>match r.d with
  |.lst ds=>match df ds with
   |some bs=>.ok (.val (.bl (bs.all id)) true [])
   |none=>.stuck
  |_=>.stuck
 |_=>.stuck
theorem kC:∀{ds:List D}{bs:List Bool}{i:Nat}{d:D},df ds=some bs->ds[i]?=some d->∃b,d=.bl b/\bs[i]?=some b
 |[],_,_,_,_,e=>by simp at e
 |.bl b::r,bs,0,d,h,e=>by
  simp at e;subst e;unfold df at h;cases q:df r with
  |none=>rw[q]at h;cases h
  |some bs'=>rw[q]at h;cases h;exact⟨b,rfl,rfl⟩
 |.bl b::r,bs,i+1,d,h,e=>by
  unfold df at h;cases q:df r with
  |none=>rw[q]at h;cases h
  |some bs'=>rw[q]at h;cases h;obtain⟨b',e1,e2⟩:=kC (i:=i) q (by simpa using e);exact⟨b',e1,by simpa using e2⟩
 |.fU::_,_,_,_,h,_=>by cases h
 |.int _::_,_,_,_,h,_=>by cases h
 |.str _::_,_,_,_,h,_=>by cases h
 |.tup _::_,_,_,_,h,_=>by cases h
 |.lst _::_,_,_,_,h,_=>by cases h
theorem kE:∀{ds:List D}{bs:List Bool},df ds=some bs->bs.length=ds.length
 |[],_,h=>by cases h;rfl
 |.bl b::r,bs,h=>by
  unfold df at h;cases q:df r with
  |none=>rw[q]at h;cases h
  |some bs'=>rw[q]at h;cases h;simp[kE q]
 |.fU::_,_,h=>by cases h
 |.int _::_,_,h=>by cases h
 |.str _::_,_,h=>by cases h
 |.tup _::_,_,h=>by cases h
 |.lst _::_,_,h=>by cases h
def yY(hc:X.calm=true):CallR X (.builtin "all") (λxs H Q=>∃(p:Addr)(vs:List V)(bs:List Bool),xs=[.ref p]/\SqL X.K H p vs/\vs=bs.map V.bl/\Q (.bl (bs.all id)) H):=by
 intro aa s σ H xs us Q I r h;obtain⟨p,vs,bs,rfl,hq,rfl,q⟩:=h;obtain⟨u,rfl,rx⟩:=eJ r;cases rx;obtain⟨its,rv,pl,hz⟩:=I.list hq;have hh:X.A.in1.handled=none:=I.ok.hd hc;obtain⟨o,ho,_⟩:=pl.isList;have hlt:p<s.heap.objs.size:=jZ ho;refine call_all_walk (P2 pl.isList ?_);refine⟨s.heap.objs.size,_,_,_,_,_,λi=>(bs[i]?).getD true,rfl,Walks.list hh s.heap.objs.size p (N9 hlt) its.toArray,⟨⟨_,jY _ rfl,rfl,rfl⟩,?_⟩,?_,λh' tk hk=>?_⟩
 .exact pl.isList.at λo e=>cj _ e
 .intro i v s' Q' E' hv hQ';have hv:its[i]?=some v:=by simpa using hv
  have hi:i<its.length:=(bE.mp hv).1;have hl:=rv.length;have hb:i<bs.length:=by simpa using(by rw[cM]at hl;lia:i<bs.length)
  obtain⟨u',hu,ru⟩:=rv.get (i:=i) (x:=.bl bs[i]) (by simp[hb]);rw[hv]at hu;cases hu;cases ru;have eb:bs[i]?=some bs[i]:=by simp[hb]
  dsimp only at hQ';rw[eb]at hQ';exact OX hQ'
 .have hl:=rv.length;rw[cM]at hl;have e:((List.range its.toArray.size).all λi=>(bs[i]?).getD true)=bs.all id:=by
   rw[cQ,<- hl];rw[Pb,Om,Om];constructor
   .intro h b hb;obtain⟨i,hi⟩:=g4.mp hb;have:=h i (by simp;exact(bE.mp hi).1);rw[hi]at this;exact this
   .intro h i hi;have hi:i<bs.length:=by simpa using hi
    have eb:bs[i]?=some bs[i]:=by simp[hi]
    rw[eb];exact h _ (Qe hi)
  rw[e];refine⟨.bl _,H,?_,rfl,q⟩;have I1:L2.Inv X aa σ H { s with heap:=s.heap.push { cls:=.type "list_iterator",data:=.fields #[.ref p,.int 0 0] } }:=I.kept (t':=s.toks) λb o e=>cj _ e;have fo:=I.oP (H':=H) (cN s.heap.objs.size) (I.aG.fresh (cN _));exact I1.turned (t':=tk) (it:=s.heap.objs.size) (λb o hb e=>hk b o (by simpa using hb) e) fo.1 fo.2.1 fo.2.2.2.1 fo.2.2.2.2.1 fo.2.2.2.2.2
def Hl(hc:X.calm=true):iV X E (.builtin "all") DQ:=by
 refine⟨_,yY hc,λg M ρ env σ H Q rs vs rep i p=>?_⟩;rcases rs with _|⟨r,_|_⟩
 .exact p.elim
 rotate_left
 .exact p.elim
 obtain⟨v,w,rfl,i1,i2⟩:=i;cases i2;have i1:Is H (vmsk g M (aR [r]) ρ (bK [r])) r.d v:=i1;unfold DQ at p;dsimp only at p;cases q:r.d with
 |lst ds=>
  rw[q]at p i1;obtain⟨a,ws,rfl,h1,h2⟩:=i1.rd;dsimp only at p;cases qb:df ds with
  |none=>rw[qb]at p;exact p.elim
  |some bs=>
   rw[qb]at p;refine⟨a,ws,bs,rfl,.inl h1,?_,p _ M H (Ext.refl _ _) rep rfl⟩;apply ON
   intro j;by_cases hj:j<ds.length
   .obtain⟨b,e1,e2⟩:=kC (i:=j) (d:=ds[j]) qb (by simp[hj]);obtain⟨v',ev,iv⟩:=h2.get (i:=j) (d:=ds[j]) (by simp[hj]);rw[e1]at iv;cases iv;rw[ev,ol,e2];rfl
   .have l1:=h2.length;have l2:=kE qb;rw[Og (by lia),Og (by simp;lia)]
 |_=>rw[q]at p;exact p.elim
def w_(i:Nat)(fk fv:En->Res R):En->Res Fl:=λenv=>match h7 env i with
 |some (ds,fr)=>(fv env).bind λr=>(fk env).bind λk=>match k.d with
  |.int z=>match wo ds.length z with
   |some j=>if ¬i∈r.al then .ok (.nx ((az env r.al).set i (some (.own (ds.set j r.d) (fr&&r.fr)))))else .stuck
   |none=>.stuck
  |_=>.stuck
 |none=>.stuck
def jD(ho:PE X o (bY i))(hk:PD X E k fk)(hv:PD X E v fv)
 (ha:autoParam (∀v,assign (.Subscript o k iR) X.env v=(do
   let ov <- holding [v] (eval o X.env)
   let iv <- holding [v,ov] (eval k X.env)
   standAt iR
   holding [v,ov,iv] (setItem ov iv v)
   release [v,ov,iv] [])) RI)
 (hs:autoParam (swapsWithSole [.Subscript o k iR] v pos.line X.env=pure false) RJ) (hw:autoParam (swappedStores [.Subscript o k iR] v X.env=pure none) RJ)
 (h1:autoParam ((assignEach [.Subscript o k iR] X.env).map (·.2)=[assign (.Subscript o k iR) X.env]) RJ):lc X E (.Assign [.Subscript o k iR] v pos) (w_ i fk fv):=by
 obtain⟨tk,p1,s1⟩:=hk;obtain⟨tv,p2,s2⟩:=hv;refine⟨_,zO p2 (Gr ho p1 z6 ha) hs hw h1,λg M ρ env σ H D rep p=>?_⟩;unfold w_ at p;cases e1:h7 env i with
 |none=>rw[e1]at p;exact p.elim
 |some q=>
  obtain⟨ds,fr⟩:=q;rw[e1]at p;dsimp only at p;obtain⟨M0,ρ0,l,vs,m0,rep0,ev,k1,k2,k4,hi,_⟩:=rep.yc e1;refine s2.iT rep p λr y M' H' e rep' ro p'=>?_;obtain⟨M1,x1,x1m,rep1,is1⟩:=ro.is rep' e rep.same;refine⟨_,ev,s1.iT (D:=D) rep1 (PostS.az ⟨x1m,λ_ _ q _=>q⟩ p') λrk yk M5 H5 e5 rep5 rok p5=>?_⟩;obtain⟨M6,x6,x6m,rep6,is6⟩:=rok.is rep5 e5 rep1.same;cases z:rk.d with
  |int iz=>
   rw[z]at is6;simp only[z]at p5;cases is6;cases zj:wo ds.length iz with
   |none=>simp only[zj]at p5;exact p5.elim
   |some j=>
    simp only[zj]at p5;by_cases hc:¬i∈r.al
    .rw[ck hc]at p5;have is1':Is H5 (vmsk g M6 r.fr ρ r.al) r.d y:=(is1.ext e5).weak λa z=>z.mono x6m;obtain⟨M2,ρ2,x2,rep2,o2,k5,k6⟩:=Rep.az r.al rep6;have is2:Is H5 (dc g M2 r.fr) r.d y:=Is.frozen rep6 x2 o2 is1';have e2:h7 (az env r.al) i=some (ds,fr):=by unfold h7;rw[qO _ hc];exact e1
     obtain⟨M3,ρ3,l3,vs3,m3,rep3,ev3,j1,j2,j4,hi3,_⟩:=rep2.yc e2;rw[ev]at ev3;cases ev3;have hl:H5 l=some (.lst vs):=e5.h _ _ (e.h _ _ k1);rw[hl]at j1;cases j1;have pl:ρ3 i l:=(j2 l).mpr rfl;obtain⟨nl3,_⟩:=rep3.aT i l pl;have is4:IsAll H5 (dc g M3 (fr&&r.fr)) (ds.set j r.d) (vs.set j y):=IsAll.set j (IsAll.weak (λb z=>⟨z.1,λq=>z.2 (by grind)⟩) j4) (Is.weak (λb z=>⟨m3 b z.1,λq=>z.2 (by grind)⟩) is2);have kp:∀b u,H5 b=some u->(dc g M3 (fr&&r.fr) b\/dE u)->aC H5 l (.lst (vs.set j y)) b=some u:=λb u q z=>by
      rw[af]
      .exact q
      .rintro rfl;rcases z with z|z
       .exact nl3 z.1
       .rw[hl]at q;cases q;exact z
     obtain⟨f1,rep4⟩:=rep3.write (sl:=.own (ds.set j r.d) (fr&&r.fr)) (vs':=vs.set j y) pl (by grind) ev ⟨l,vs.set j y,rfl,ag,j2,IsAll.mono kp (λ_ _ _ z=>z) is4⟩;rw[List.set_set]at rep4;refine⟨l,vs,iz,j,rfl,rfl,hl,by rw[k4.length];exact zj,?_⟩;exact p5 σ M3 ρ3 _ (g7.trans ⟨λa z=>m3 a (x2 a (x6m a z)),λ_ _ q _=>q⟩ f1) rep4
    .rw[cO hc]at p5;exact p5.elim
  |_=>simp only[z]at p5;exact p5.elim
end
noncomputable def Ny(osc:Scope)(N:List Str)(scope:Scope)(tN capN:List Str)(caps:List Nat):Bool:=
 (scope.kind==.function)&&scope.names.all (λy=>y.2 != .cell)&&scope.names.all (λy=>y.2 != .local || scope.names.lookup y.1==some .local)&&tN.all (λx=>scope.names.lookup x==some .local) &&
 scope.names.all (λy=>y.2 != .free ||(osc.names.lookup y.1==some .cell || osc.names.lookup y.1==some .free))&&(capN.zip caps).all (λp=>N[p.2]?==some p.1)&&(caps.length==capN.length) &&
 capN.all (λy=>osc.names.lookup y==some .cell || osc.names.lookup y==some .free)&&capN.all (λy=>scope.names.lookup y==some .free)&&decide (tN++capN).Nodup
def bm.of(h1:X.env.scope=osc)(h2:X.N=N)(h3:Ny osc N scope tN capN caps=true):bm X scope tN capN caps:=by
 unfold Ny at h3;simp only[Of,Om,Bool.or_eq_true,beq_iff_eq,bne_iff_ne,O0,ne_eq]at h3;obtain⟨⟨⟨⟨⟨⟨⟨⟨⟨a1,a2⟩,a3⟩,a4⟩,a5⟩,a6⟩,a7⟩,a8⟩,a9⟩,a10⟩:=h3;subst h1 h2;refine⟨a1,a2,λy hy hl=>(a3 y hy).resolve_left λz=>z hl,a4,λy hy hf=>(a5 y hy).resolve_left λz=>z hf,⟨λk y e=>?_,a8,a9,a7⟩,a10⟩;have hk:k<capN.length:=(bE.mp e).1;have hk2:k<caps.length:=by lia
 refine⟨caps[k],by simp[hk2],?_⟩;have hm:(y,caps[k])∈capN.zip caps:=by
  have:(capN.zip caps)[k]?=some (y,caps[k]):=by rw[Qb];exact⟨e,by simp[hk2]⟩
  exact OD this
 exact a6 _ hm
structure Fn(K:Rx) (mg:Str->Option Rz) (x:Str) (st:Stmt) (ps:List Str) (f:Addr) (fd:FuncData):Prop where
 fu:F_ K x x st f fd
 bi:Binds K fd ps []
 gl:mg x=some (.ref f)
def Mh(F:List D->Res R):Sp:=λvs H Q _=>vs.length=1/\∃ds Ma r,IsAll H Ma ds vs/\F ds=.ok r/\∀v H',Same H H'->RetOk (Kp H Ma) H' v r->Q v H'
theorem jc:∀ns:List Int,IsAll H m (ns.map D.int) (ns.map V.int)
 |[]=>rfl
 |n::r=>⟨.int n,r.map V.int,rfl,rfl,jc r⟩
def Hm(hF:∀ns:List Int,ns.length<=63->∃f al,F [.lst (ns.map .int)]=.ok (.val (.bl true) f al))(H:Hp)(a:Addr)(ns:List Int)(hl:ns.length<=63)(hS:∃o,H a=some (.az o (.lst (ns.map V.int)))) :
 Mh F [.ref a] H (λv _=>v=.bl true) λ_ _ _=>False:=by
 obtain⟨f,al,e⟩:=hF ns hl;obtain⟨o,hS⟩:=hS;exact⟨rfl,[.lst (ns.map .int)],λb=>b=a,_,⟨_,[],rfl,⟨a,ns.map V.int,rfl,.inr ⟨o,hS,rfl⟩,jc ns⟩,rfl⟩,e,λv H' _ h=>h⟩
section
variable{P:Ry}{w:World}{K:Rx}{mg:Str->Option Rz}{base:Heap}
def cS.top(h:cS P w K mg base CX k f fd ps (tB mg 1 F)):cS P w K mg base CX k f fd ps (Mh F):=h.imp λvs H Q E ⟨hl,ds,Ma,r,is,e,q⟩=>⟨hl,ds,Ma,is,by rw[e];exact q⟩
end
section
def DR(fa:En->Res R):En->Res R:=λenv=>(fa env).bind λra=>match ra.d with
 |.int i=>.ok (.val (.int (-i)) true [])
 |_=>.stuck
def Ho(ha:PD X E a fa):PD X E (.UnaryOp .USub a pos) (DR fa):=by
 obtain⟨ta,pa,sa⟩:=ha;refine⟨_,JN GA pa,λg M ρ env σ H Q rep p=>sa.fH rep p λr v M' H' e rep' i p'=>?_⟩;cases q:r.d with
 |int b=>rw[q]at i;simp only[q]at p';cases i;exact⟨b,rfl,p' _ M' H' (Ext.refl _ _) rep' rfl⟩
 |_=>simp only[q]at p';exact p'.elim
open Classical in
def fX(H:Hp)(m:Addr->Prop)(x:D)(u:Rz):Bool:=decide (∃d v,RelV v u/\Is H m d v/\fF d x=true)
def pH(r:RelV v u)(h:Is H m d v):fX H m x u=fF d x:=by
 unfold fX;cases q:fF d x with
 |true=>exact @db _ (Classical.propDecidable _) ⟨d,v,r,h,q⟩
 |false=>refine @iA _ (Classical.propDecidable _) λ⟨d',v',r',h',q'⟩=>?_;have e:=L2.RelV.inj r r';subst e;have e:=Is.inj h h';subst e;rw[q]at q';cases q'
theorem kF:∀{ds:List D}{vs:List V}{us:List Rz},IsAll H m ds vs->Vals vs us->us.any (fX H m x)=ds.any λd=>fF d x
 |[],_,_,h,r=>by cases h;cases r;rfl
 |d::ds,_,_,h,r=>by
  obtain⟨v,w,rfl,h1,h2⟩:=h;cases r with
  |cons r1 r2=>rw[Px,Px,pH r1 h1,kF h2 r2]
def Ky(neg:Bool)(K:Rx):R2:=λx y H Q=>∃p ds vs d m m',y=.ref p/\(SqL K H p vs\/SqT K H p vs)/\IsAll H m ds vs/\Is H m' d x/\(D.fA ds<=50/\d.dep<=50)/\Q (.bl (if neg then !(ds.any λe=>fF e d)else ds.any λe=>fF e d)) H
theorem kG(I:L2.Inv X aa σ H s)(hu:A.units+50<cLine)(hx:Is H m' d x)(hE:d.dep<=50)(rx:RelV x v) :
 ∀{ds:List D}{vs:List V}{us:List Rz},IsAll H m ds vs->Vals vs us->D.fA ds<=50->∀u∈us,SeqAt.EqAt A s u v (fX H m d u)
 |[],_,_,h,r,_=>λu hu=>by cases h;cases r;cases hu
 |e::ds,_,_,h,r,hd=>λu hm=>by
  obtain⟨y,w,rfl,h1,h2⟩:=h;have hd':max e.dep (D.fA ds)<=50:=hd;cases r with
  |cons r1 r2=>
   rcases j5.mp hm with rfl|hm
   .rw[pH r1 h1];exact AQ I.aG 50 A hu (by lia) (by lia) (by lia) h1 hx r1 rx
   .exact kG I hu hx hE rx h2 r2 (by lia) u hm
def Hq(hu:X.A.units+64<cLine):OpR X (compareOp .In) (Ky false X.K):=by
 intro aa s σ H x y v u Q I rx ry h;obtain⟨p,ds,vs,d,m,m',rfl,hq,hi,hx,hd,q⟩:=h;cases ry;rcases hq with hq|hq
 .obtain⟨its,r,pl,hz⟩:=I.list hq;refine SeqAt.in_listAt (fX H m d) pl.isList (λw hw=>kG I (by grind) hx hd.2 rx hi r hd.1 w (by grind)) ⟨.bl _,H,I,rfl,?_⟩;rw[show its.toArray.any (fX H m d)=its.any (fX H m d) by simp,kF hi r];exact q
 .obtain⟨its,r,pl,hz⟩:=I.tuple hq;refine SeqAt.in_tupleAt (fX H m d) pl (λw hw=>kG I (by grind) hx hd.2 rx hi r hd.1 w (by grind)) ⟨.bl _,H,I,rfl,?_⟩;rw[show its.toArray.any (fX H m d)=its.any (fX H m d) by simp,kF hi r];exact q
def Jp(neg:Bool)(x:D)(ds:List D):Res R:=if D.fA ds<=50/\x.dep<=50 then .ok (.val (.bl (if neg then !(ds.any λe=>fF e x)else ds.any λe=>fF e x)) true [])else .stuck
def yZ(neg:Bool)(a b:R):Res R:=match b.d with
 |.lst ds=>Jp neg a.d ds
 |.tup ds=>Jp neg a.d ds
 |_=>.stuck
def NP:R->R->Res R:=yZ false
def Hr(h:OpR X f (Ky neg X.K)):oG X E f (yZ neg):=by
 refine⟨_,h,λg M ρ env σ H Q ra rb x y rep i1 i2 p=>?_⟩;unfold yZ at p;have key:∀ds,PostE X.mg E g M ρ env σ H Q (Jp neg ra.d ds)->(D.fA ds<=50/\ra.d.dep<=50)/\Q (.bl (if neg then !(ds.any λe=>fF e ra.d)else ds.any λe=>fF e ra.d)) H:=λds p=>by
  unfold Jp at p;by_cases hd:D.fA ds<=50/\ra.d.dep<=50
  .rw[ck hd]at p;exact⟨hd,p _ M H (Ext.refl _ _) rep rfl⟩
  .rw[cO hd]at p;exact p.elim
 cases e2:rb.d with
 |lst ds=>rw[e2]at p i2;obtain⟨a,vs,rfl,h1,h2⟩:=i2.rd;obtain⟨k1,k2⟩:=key ds p;exact⟨a,ds,vs,ra.d,_,_,rfl,.inl (.inl h1),h2,i1,k1,k2⟩
 |tup ds=>rw[e2]at p i2;obtain⟨a,vs,rfl,h1,h2⟩:=i2;obtain⟨k1,k2⟩:=key ds p;exact⟨a,ds,vs,ra.d,_,_,rfl,.inr (SqT.of h1),h2,i1,k1,k2⟩
 |_=>rw[e2]at p;exact p.elim
def Kz(hu:X.A.units+64<cLine):oG X E (compareOp .In) NP:=Hr (Hq hu)
end
end L3
namespace L3
open PySem PySem.Spec PyProof.Rows L2
noncomputable def Hs:D->Option bu
 |.int i=>some (.inl i)
 |.str x=>some (.inr x)
 |_=>none
def lh:List D->Option (List bu)
 |[]=>some []
 |d::ds=>match Hs d,lh ds with
  |some k,some ks=>some (k::ks)
  |_,_=>none
def Hu:D->Option (List bu)
 |.tup ds=>lh ds
 |_=>none
section
def Is.key(h:Is H m d v)(e:Hs d=some k):v=kV k:=by
 cases d with
 |int i=>cases e;exact h
 |str x=>cases e;exact h
 |_=>cases e
theorem IsAll.keys:∀{ds:List D}{vs:List V}{ks:List bu},IsAll H m ds vs->lh ds=some ks->vs=ks.map kV
 |[],_,_,h,e=>by cases h;cases e;rfl
 |d::ds,_,ks,h,e=>by
  obtain⟨v,r,rfl,h1,h2⟩:=h;unfold lh at e;cases q:Hs d with
  |none=>rw[q]at e;cases e
  |some k=>
   cases q2:lh ds with
   |none=>rw[q,q2]at e;cases e
   |some ks'=>rw[q,q2]at e;cases e;rw[h1.key q,IsAll.keys h2 q2];rfl
theorem Is.Hu(h:Is H m d v)(e:L3.Hu d=some k):∃b,v=.ref b/\H b=some (.tup (k.map kV)):=by
 cases d with
 |tup ds=>obtain⟨a,vs,rfl,h1,h2⟩:=h;have e:lh ds=some k:=e;rw[IsAll.keys h2 e]at h1;exact⟨a,rfl,h1⟩
 |_=>cases e
end
section
variable{X:Cx}{E:XK}
def DS(rep:Rep g M ρ env σ H)(hb:H b=none)(is:Is H' (λa=>a=b) d (.ref b))(mu:Mu H' b):ROk g M ρ H H' (.ref b) (.iS d):=by obtain⟨h0,hm,ho⟩:=rep.free hb;exact⟨λa=>a=b,λa e=>by subst e;exact⟨hm,hb,mu,ho⟩,is⟩
def mz:PD X E (.Dict [] [] pos) (λ_=>.ok (.iS (.bp [] []))):=by refine⟨_,z8,λg M ρ env σ H Q rep p b hb=>?_⟩;have s:Same H (aC H b (.dK [])):=aK hb;exact p _ M _ ⟨λ_ z=>z,s,λ_ z=>.inl z⟩ (rep.grow s) (DS rep hb ⟨b,[],rfl,⟨.inl ⟨[],.inl ag,rfl,rfl⟩,rfl⟩,rfl⟩ ⟨_,ag,True.intro⟩)
def gf:D->Option DK
 |.int i=>some (.inl (.inl i))
 |.str x=>some (.inl (.inr x))
 |.tup ds=>(lh ds).map .inr
 |_=>none
noncomputable def kH:DK->DK->Bool
 |.inl _,.inl _=>true
 |.inr _,.inr _=>true
 |_,_=>false
noncomputable def jd(ks:List DK)(k:DK):Bool:=ks.any λx=>decide (x=k)
def tQ(neg:Bool)(a:D)(ks:List DK):Res R:=match gf a with
 |some k=>if ks.all (kH k)then .ok (.val (.bl (if neg then !jd ks k else jd ks k)) true [])else .stuck
 |none=>.stuck
def A6(neg:Bool)(a b:R):Res R:=match b.d with
 |.bp ks _=>tQ neg a.d ks
 |_=>yZ neg a b
def A7:R->R->Res R:=A6 false
noncomputable def KA(neg:Bool):R2:=λx y H Q=>∃a o,y=.ref a/\oZ H a x o/\Q (.bl (if neg then !o.isSome else o.isSome)) H
def Hv(hu:X.A.units+64<cLine):OpR X (compareOp .In) (KA false):=by intro aa s σ H x y v u Q I rx ry h;obtain⟨a,o,rfl,g,q⟩:=h;cases ry;exact J1 (by lia) I g rx λs' I'=>⟨.bl _,H,I',rfl,q⟩
def nB{κ:Type}[DecidableEq κ]{kvs:List (κ×V)}(inj:κ->DK)(hi:∀a b,inj a=inj b->a=b)(k:κ):(dQ kvs k).isSome=jd (kvs.map λp=>inj p.1) (inj k):=by
 unfold jd;induction kvs with
 |nil=>rfl
 |cons p r ih=>
  rw[fV,Px];by_cases e:p.1=k
  .rw[f7 e,db (N7 inj e)];rfl
  .rw[f9 e,ih,iA (λz=>e (hi _ _ z)),Bool.false_or]
theorem Is.gf(h:Is H m d v)(e:L3.gf d=some k):(∃k0,k=.inl k0/\v=kV k0)\/∃k0 b,k=.inr k0/\v=.ref b/\H b=some (.tup (k0.map kV)):=by
 cases d with
 |int i=>cases e;exact .inl ⟨_,rfl,h⟩
 |str x=>cases e;exact .inl ⟨_,rfl,h⟩
 |tup ds=>have e:(lh ds).map Sum.inr=some k:=e;obtain⟨k0,hk,rfl⟩:=N_.mp e;obtain⟨b,e1,e2⟩:=Is.Hu (d:=.tup ds) h hk;exact .inr ⟨k0,b,rfl,e1,e2⟩
 |_=>cases e
def DU(h:DAt H a ks vs)(hx:Is H m d x)(e:L3.gf d=some k)(hk:ks.all (kH k)=true):∃o,oZ H a x o/\o.isSome=jd ks k:=by
 rcases hx.gf e with⟨k0,rfl,rfl⟩|⟨k0,b,rfl,rfl,hb⟩
 .rcases h with⟨kvs,e1,rfl,rfl⟩|⟨kvs,e1,rfl,rfl⟩
  .exact⟨_,.inl (.inl ⟨kvs,k0,e1,rfl,rfl⟩),nB Sum.inl (λ_ _ z=>PB z) k0⟩
  .cases kvs with
   |nil=>exact⟨none,.inr (.inl ⟨e1,⟨k0,rfl⟩,rfl⟩),rfl⟩
   |cons p r=>simp[kH]at hk
 .rcases h with⟨kvs,e1,rfl,rfl⟩|⟨kvs,e1,rfl,rfl⟩
  .cases kvs with
   |nil=>exact⟨none,.inr (.inr ⟨e1,⟨b,k0,rfl,hb⟩,rfl⟩),rfl⟩
   |cons p r=>simp[kH]at hk
  .exact⟨_,.inl (.inr ⟨kvs,k0,b,e1,rfl,hb,rfl⟩),nB Sum.inr (λ_ _ z=>Ro z) k0⟩
def Hw(h1:oG X E f (yZ neg))(h2:OpR X f (KA neg)):oG X E f (A6 neg):=by
 obtain⟨r,o1,s1⟩:=h1;refine⟨_,o1.or h2,λg M ρ env σ H Q ra rb x y rep i1 i2 p=>?_⟩;unfold A6 at p;cases q:rb.d with
 |bp ks ds=>
  right;rw[q]at p i2;dsimp only at p;unfold tQ at p;cases q2:gf ra.d with
  |none=>rw[q2]at p;exact p.elim
  |some k=>
   rw[q2]at p;dsimp only at p;by_cases hk:ks.all (kH k)=true
   .rw[ck hk]at p;obtain⟨a,vs,rfl,h1,h2⟩:=i2;obtain⟨o,g1,g2⟩:=DU h1.1 i1 q2 hk;refine⟨a,o,rfl,g1,?_⟩;rw[g2];exact p _ M H (Ext.refl _ _) rep rfl
   .rw[cO hk]at p;exact p.elim
 |_=>left;refine s1 g M ρ env σ H Q ra rb x y rep i1 i2 ?_;rw[q]at p;exact p
def nC(hu:X.A.units+64<cLine):oG X E (compareOp .In) A7:=Hw (Kz hu) (Hv hu)
def xb:List DK->List D->DK->D->List D
 |k'::ks,d'::ds,k,d=>(if k'=k then d else d')::xb ks ds k d
 |_,_,_,_=>[]
def h_(ks:List DK)(ds:List D)(k:DK)(d:D):D:=if jd ks k then .bp ks (xb ks ds k d)else .bp (ks++[k]) (ds++[d])
def xc{κ:Type}[DecidableEq κ](inj:κ->DK)(hi:∀a b,inj a=inj b->a=b){H:Hp}{m:Addr->Prop}{kvs:List (κ×V)}{ds:List D}{k:κ}{v:V}{d:D}(h:IsAll H m ds (kvs.map Prod.snd))(hv:Is H m d v) :
 ∃ks' ds',h_ (kvs.map λp=>inj p.1) ds (inj k) d=.bp ks' ds'/\ks'=(cU kvs k v).map (λp=>inj p.1)/\IsAll H m ds' ((cU kvs k v).map Prod.snd):=by
 have hany:jd (kvs.map λp=>inj p.1) (inj k)=kvs.any λp=>decide (p.1=k):=by unfold jd;rw[Ra];congr 1;funext p;exact decide_eq_decide.mpr ⟨hi _ _,N7 inj⟩
 unfold h_ cU;rw[hany];by_cases e:(kvs.any λp=>decide (p.1=k))=true
 .rw[ck e,ck e];refine⟨_,_,rfl,?_,?_⟩
  .rw[v9];refine Ot λp _=>?_;show inj p.1=inj (if p.1=k then(p.1,v)else p).1;split<;>rfl
  .clear e hany;induction kvs generalizing ds with
   |nil=>
    cases ds with
    |nil=>exact rfl
    |cons d0 r=>obtain⟨_,_,z,_⟩:=h;cases z
   |cons p r ih=>
    cases ds with
    |nil=>cases h
    |cons d0 ds=>
     obtain⟨v0,r0,z,i1,i2⟩:=h;cases z;have:=ih i2;refine⟨_,_,rfl,?_,this⟩;dsimp only;by_cases e:p.1=k
     .rw[ck (N7 inj e),ck e];exact hv
     .rw[cO (λz=>e (hi _ _ z)),cO e];exact i1
 .rw[cO e,cO e];exact⟨_,_,rfl,by simp,by rw[N4];exact h.append ⟨v,[],rfl,hv,rfl⟩⟩
def xf(i:Nat)(env:En)(ks:List DK)(ds:List D)(d:D)(k:R):Res Fl:=match gf k.d with
 |some x=>if ks.all (kH x)/\ks.length<lim then .ok (.nx (env.set i (some (.cw (h_ ks ds x d)))))else .stuck
 |none=>.stuck
def xg(i:Nat)(fk:En->Res R)(env:En)(ks:List DK)(ds:List D)(r:R):Res Fl:=if r.d.flat then(fk env).bind (xf i env ks ds r.d)else .stuck
def nE(i:Nat)(fk fv:En->Res R):En->Res Fl:=λenv=>match env[i]? with
 |some (some (.cw (.bp ks ds)))=>(fv env).bind (xg i fk env ks ds)
 |_=>.stuck
def A8(mk:D->Sl)(i:Nat)(env:En)(ks:List DK)(ds:List D)(d:D)(k:R):Res Fl:=match gf k.d with
 |some x=>if ks.all (kH x)/\ks.length<lim then .ok (.nx (env.set i (some (mk (h_ ks ds x d)))))else .stuck
 |none=>.stuck
def A9(mk:D->Sl)(i:Nat)(fk:En->Res R)(env:En)(ks:List DK)(ds:List D)(r:R):Res Fl:=if r.d.flat then(fk env).bind (A8 mk i env ks ds r.d)else .stuck
def A_{fk fv:En->Res R}{M:Addr->Prop}{σ:St}{H:Hp}{D:Ends}{ks:List DK}{ds:List L3.D}(mk:L3.D->Sl)(P0:Gd->V->Prop)(hmk:∀(g:Gd)(M T:Addr->Prop)(H:Hp)(v:V)(d:L3.D),SlOk g M T H v (mk d)↔Is H T d v/\P0 g v)(hmo':∀d,(mk d).LU=true)
 (s1:Snd X.mg E tk fk) (s2:Snd X.mg E tv fv) (rep:Rep g M ρ env σ H) (hq:env[i]?=some (some (mk (.bp ks ds)))) (p:PostS X.mg E g M H D ((fv env).bind (A9 mk i fk env ks ds))):Aa (bY i) tk tv D σ H:=by
 have hi:i<env.length:=(bE.mp hq).1;refine s2.iT rep p λr v M1 H1 e1 rep1 ro p1=>?_;obtain⟨M1',x1,x1m,rep1',is1⟩:=ro.is rep1 e1 rep.same;unfold A9 at p1;by_cases hf:r.d.flat=true
 .rw[ck hf]at p1;obtain⟨va,ev,ka⟩:=rep1'.slot i _ hq;obtain⟨ka,hroot⟩:=(hmk g M1' (ρ i) H1 va (.bp ks ds)).mp ka;obtain⟨a,vs,rfl,⟨dat,pa⟩,hall⟩:=ka;refine⟨.ref a,ev,s1.iT rep1' (PostS.az ⟨x1m,λ_ _ q _=>q⟩ p1) λrk y M2 H2 e2 rep2 rok p2=>?_⟩;obtain⟨M2',x2,x2m,rep2',is2⟩:=rok.is rep2 e2 rep1'.same;unfold A8 at p2;cases qk:gf rk.d with
  |none=>rw[qk]at p2;exact p2.elim
  |some x=>
   rw[qk]at p2;dsimp only at p2;by_cases hc:ks.all (kH x)=true/\ks.length<lim
   .rw[ck hc]at p2;have dat2:DAt H2 a ks vs:=dat.keep λo e=>e2.h _ _ e;have hall2:IsAll H2 (ρ i) ds vs:=hall.same e2.h;have hv2:Is H2 (ρ i) r.d v:=Is.flat hf (is1.same e2.h);have kd:Is H2 (ρ i) (.bp ks ds) (.ref a):=⟨a,vs,rfl,⟨dat2,pa⟩,hall2⟩;have inner:IsAll H2 (λb=>ρ i b/\b≠a) ds vs:=IsAll.avoid kd (by simp only[L3.D.sz];lia) hall2;have hv3:Is H2 (λb=>ρ i b/\b≠a) r.d v:=Is.flat hf hv2;have nofz:∀o u,H2 a≠some (.az o u):=λo u z=>by obtain⟨_,_,uo,q,qm⟩:=rep2'.aT i a pa;rw[z]at q;cases q;exact qm
    obtain⟨uo,huo,hmo⟩:=dat2.mu nofz;have rdn:∀u,Rd H2 a u->H2 a=some u:=λu z=>z.elim id λ⟨o,z⟩=>(nofz _ _ z).elim;have nfx:∀u,H2 a=some u->¬dE u:=λu e z=>by rw[huo]at e;cases e;cases uo<;>first|exact z|exact hmo
    have fin:∀(u':HO)(ks':List DK)(ds':List L3.D)(vs':List V),G8 u'->DAt (aC H2 a u') a ks' vs'->h_ ks ds x r.d=.bp ks' ds'->IsAll H2 (λb=>ρ i b/\b≠a) ds' vs'->D.nx σ (aC H2 a u'):=λu' ks' ds' vs' hu' hd he hall'=>by
     rw[he]at p2;have hall3:IsAll (aC H2 a u') (ρ i) ds' vs':=hall'.mono (λb u q z=>by
      rw[af]
      .exact q
      .rintro rfl;rcases z with z|z
       .exact z.2 rfl
       .exact nfx u q z) λ_ _ _ z=>z.1
     obtain⟨f1,rep3⟩:=rep2'.wa (u':=u') hu' pa hi ev (sl:=mk (.bp ks' ds')) ((hmk g M2' (ρ i) _ _ _).mpr ⟨⟨a,vs',rfl,⟨hd,pa⟩,hall3⟩,hroot⟩) (hmo' _);exact p2 σ M2' ρ _ (g7.trans ⟨x2m,λ_ _ q _=>q⟩ f1) rep3
    refine⟨a,?_⟩;rcases is2.gf qk with⟨k0,rfl,rfl⟩|⟨k0,b,rfl,rfl,hb⟩
    .rcases dat2 with⟨kvs,e1,rfl,rfl⟩|⟨kvs,e1,rfl,rfl⟩
     .obtain⟨ks',ds',g1,g2,g3⟩:=xc Sum.inl (λ_ _ z=>PB z) (k:=k0) inner hv3;refine⟨_,rfl,.inl (DPut.k (rdn _ e1) (by have:=hc.2;rw[cM]at this;exact ku this)),fin _ ks' ds' _ True.intro (.inl ⟨_,.inl ag,g2,rfl⟩) g1 g3⟩
     .cases kvs with
      |nil=>
       cases ds with
       |nil=>exact⟨_,rfl,.inr (.inl ⟨rdn _ e1,k0,rfl,rfl⟩),fin (.dK [(k0,v)]) [.inl k0] [r.d] [v] True.intro (.inl ⟨_,.inl ag,rfl,rfl⟩) rfl ⟨v,[],rfl,hv3,rfl⟩⟩
       |cons d0 ds0=>obtain⟨_,_,z,_⟩:=inner;cases z
      |cons q r0=>simp[kH]at hc
    .rcases dat2 with⟨kvs,e1,rfl,rfl⟩|⟨kvs,e1,rfl,rfl⟩
     .cases kvs with
      |nil=>
       cases ds with
       |nil=>exact⟨_,rfl,.inr (.inr ⟨rdn _ e1,b,k0,rfl,hb,rfl⟩),fin (.dT [(k0,v)]) [.inr k0] [r.d] [v] True.intro (.inr ⟨_,.inl ag,rfl,rfl⟩) rfl ⟨v,[],rfl,hv3,rfl⟩⟩
       |cons d0 ds0=>obtain⟨_,_,z,_⟩:=inner;cases z
      |cons q r0=>simp[kH]at hc
     .obtain⟨ks',ds',g1,g2,g3⟩:=xc Sum.inr (λ_ _ z=>Ro z) (k:=k0) inner hv3;refine⟨_,rfl,.inl (DPut.t (rdn _ e1) hb (by have:=hc.2;rw[cM]at this;exact ku this)),fin _ ks' ds' _ True.intro (.inr ⟨_,.inl ag,g2,rfl⟩) g1 g3⟩
   .rw[cO hc]at p2;exact p2.elim
 .rw[cO hf]at p1;exact p1.elim
def mB(hu:X.A.units+64<cLine)(ho:PE X o (bY i))(hk:PD X E ki fk)(hv:PD X E value fv)
 (hs:autoParam (swapsWith value (some (.Subscript o ki pos')) pos.line X.env=pure false) RJ):lc X E (.Assign [.Subscript o ki pos'] value pos) (nE i fk fv):=by
 obtain⟨tk,p1,s1⟩:=hk;obtain⟨tv,p2,s2⟩:=hv;refine⟨_,Ac (by lia) ho p1 p2 hs,λg M ρ env σ H D rep p=>?_⟩;unfold nE at p;split at p
 .rename_i ks ds hq;exact A_ .cw (λ_ _=>True) (λ_ _ _ _ _ _=>⟨λz=>⟨z,True.intro⟩,λz=>z.1⟩) (λ_=>rfl) s1 s2 rep hq p
 .exact p.elim
end
section
def Nz(k:En->Res Fl):Fl->Res Fl
 |.nx e=>k e
 |.ct e=>k e
 |.bk e=>.ok (.nx e)
 |.rt r=>.ok (.rt r)
 |.rm r e=>.ok (.rm r e)
def cq(c:En->Res Bool)(b:En->Res Fl):Nat->En->Res Fl
 |0,_=>.stuck
 |n+1,env=>(c env).bind λk=>if k then(b env).bind (Nz (cq c b n))else .ok (.nx env)
def pI(N:Nat)(hp:PassesOwn (model X.prog X.w) X.A X.env X.xe)(hc:zJ X E c fc)(hb:oH X E body fb):lc X E (.While c body [] pos) (cq fc fb N):=by
 obtain⟨tc,p1,s1⟩:=hc;obtain⟨tb,p2,s2⟩:=hb;refine⟨_,zP hp p1 p2,λg M ρ env σ H D rep p=>?_⟩;refine⟨λm σ H=>∃M1 ρ1 env1,Rep g M1 ρ1 env1 σ H/\PostS X.mg E g M1 H D (cq fc fb m env1),⟨N,M,ρ,env,rep,p⟩,?_⟩;rintro m σ1 H1 ⟨M1,ρ1,env1,rep1,q1⟩;cases m with
 |zero=>exact(show False from q1).elim
 |succ m=>
  unfold cq at q1;refine s1 g M1 ρ1 env1 σ1 H1 _ rep1 ?_;cases e:fc env1 with
  |stuck=>rw[e]at q1;exact q1
  |exc c=>rw[e]at q1;exact q1
  |ok b=>
   rw[e]at q1;intro M2 H2 e2 rep2;cases b with
   |false=>refine uU ?_;exact(show PostS X.mg E g M1 H1 D (.ok (.nx env1))from q1) σ1 M2 ρ1 H2 e2.az rep2
   |true=>
    refine uV ?_;have q1:PostS X.mg E g M1 H1 D ((fb env1).bind (Nz (cq fc fb m))):=q1;refine⟨λσ' H'=>∃M' ρ' aB,Rep g M' ρ' aB σ' H'/\PostS X.mg E g M' H' D (cq fc fb m aB),λσ' H' h=>⟨m,Rp m,h⟩,?_⟩;refine s2 g M2 ρ1 env1 σ1 H2 _ rep2 ?_;cases e3:fb env1 with
    |stuck=>rw[e3]at q1;exact q1
    |exc c=>rw[e3]at q1;exact q1
    |ok fl=>
     rw[e3]at q1;cases fl with
     |nx e'=>exact λσ' M' ρ' H' f rep'=>⟨M',ρ',e',rep',PostS.az (e2.az.trans f) (show PostS X.mg E g M1 H1 D (cq fc fb m e')from q1)⟩
     |ct e'=>exact λσ' M' ρ' H' f rep'=>⟨M',ρ',e',rep',PostS.az (e2.az.trans f) (show PostS X.mg E g M1 H1 D (cq fc fb m e')from q1)⟩
     |bk e'=>exact λσ' M' ρ' H' f rep'=>(show PostS X.mg E g M1 H1 D (.ok (.nx e'))from q1) σ' M' ρ' H' (e2.az.trans f) rep'
     |rt r=>exact λv M' H' f=>(show PostS X.mg E g M1 H1 D (.ok (.rt r))from q1) v M' H' (e2.az.trans f)
     |rm r e'=>exact λv σ' M' ρ' H0 H' f=>(show PostS X.mg E g M1 H1 D (.ok (.rm r e'))from q1) v σ' M' ρ' H0 H' (e2.az.trans f)
def gK:List R->Res R
 |[r]=>match r.d with
  |.lst ds=>.ok (hI (.tup ds) r.fr r.al)
  |.tup ds=>.ok (hI (.tup ds) r.fr r.al)
  |_=>.stuck
 |_=>.stuck
def jE:iV X E (.type "tuple") gK:=by
 refine⟨_,ou,λg M ρ env σ H Q rs vs rep i p=>?_⟩;rcases rs with _|⟨r,_|_⟩
 .exact p.elim
 rotate_left
 .exact p.elim
 obtain⟨v,w,rfl,i1,i2⟩:=i;cases i2;have i1:Is H (vmsk g M (aR [r]) ρ (bK [r])) r.d v:=i1;replace i1:=i1.weak λ_ z=>qM z;unfold gK at p;dsimp only at p;cases q:r.d with
 |lst ds=>rw[q]at p i1;obtain⟨a,ws,rfl,h1,h2⟩:=i1.rd;exact⟨a,ws,rfl,.inl ⟨.inl h1,λl hl=>p.tup rep hl h2⟩⟩
 |tup ds=>rw[q]at p i1;have i1':=i1;obtain⟨a,ws,rfl,h1,h2⟩:=i1;exact⟨a,ws,rfl,.inr ⟨SqT.of h1,p.val rep i1'⟩⟩
 |_=>rw[q]at p;exact p.elim
def KB(k2:R->R->Res R)(fc:En->Res R)(env:En)(rb:R):R->Res R
 |.val (.bl true) _ _=>(fc env).bind λrc=>k2 rb rc
 |.val (.bl false) _ _=>.ok (.val (.bl false) true [])
 |_=>.stuck
def je(k1 k2:R->R->Res R)(fa fb fc:En->Res R):En->Res R:=λenv=>(fa env).bind λra=>(fb env).bind λrb=>(k1 ra rb).bind (KB k2 fc env rb)
def y8
 (h1:∀g M ρ env σ H Q ra rb x y,Rep g M ρ env σ H->Is H (vmsk g M ra.fr ρ ra.al) ra.d x->Is H (vmsk g M rb.fr ρ rb.al) rb.d y->PostE mg E g M ρ env σ H Q (k1 ra rb)->r x y H Q)
 (h2:∀g M ρ env σ H Q ra rb x y,Rep g M ρ env σ H->Is H (vmsk g M ra.fr ρ ra.al) ra.d x->Is H (vmsk g M rb.fr ρ rb.al) rb.d y->PostE mg E g M ρ env σ H Q (k2 ra rb)->r' x y H Q)
 (sa:Snd mg E ta fa) (sb:Snd mg E tb fb) (sc:Snd mg E tc fc):Snd mg E (zV r r' ta tb tc) (je k1 k2 fa fb fc):=by
 intro g M ρ env σ H Q rep p;refine sa.zF sb rep p λra rb x y M1 H1 rep1 i1 i2 p1=>?_;refine h1 g M1 ρ env σ H1 _ ra rb x y rep1 i1 i2 ?_;cases q:k1 ra rb with
 |stuck=>rw[q]at p1;exact p1
 |exc c=>rw[q]at p1;exact p1
 |ok rr=>
  rw[q]at p1;have p1:PostE mg E g M1 ρ env σ H1 Q (KB k2 fc env rb rr):=p1;unfold KB at p1;intro v M2 H2 e2 rep2 ro;split at p1
  .cases (show v=.bl true from ro);refine⟨true,rfl,uV ?_⟩;have p2:=PostE.ext e2 p1;have i2':=Is.ext e2 i2;refine sc.fH rep2 p2 λrc z M3 H3 e3 rep3 i3 p3=>?_;exact h2 g M3 ρ env σ H3 Q rb rc y z rep3 (Is.ext e3 i2') i3 p3
  .cases (show v=.bl false from ro);exact⟨false,rfl,uU (p1 (.bl false) M2 H2 e2 rep2 rfl)⟩
  .exact p1.elim
def iE(ho:oG X E (compareOp op) k1)(ho':oG X E (compareOp op') k2)(ha:PD X E a fa)(hb:PD X E b fb)(hc:PD X E c fc)
 (hm:lastMarks [op,op'] [b,c]=false:=by with_unfolding_all rfl):zJ X E (.Compare a [op,op'] [b,c] pos) (vB (je k1 k2 fa fb fc)):=by
 obtain⟨r,o1,h1⟩:=ho;obtain⟨r',o2,h2⟩:=ho';obtain⟨ta,pa,sa⟩:=ha;obtain⟨tb,pb,sb⟩:=hb;obtain⟨tc,pc,sc⟩:=hc;have S:=y8 h1 h2 sa sb sc;refine⟨_,zW o1 o2 pa pb pc hm,λg M ρ env σ H Q rep p=>S.wc rep p λr v M' H' e rep' i p'=>?_⟩;cases q:r.d with
 |bl b=>rw[q]at i;simp only[q]at p';cases i;exact⟨b,rfl,p' M' H' (Ext.refl _ _) rep'⟩
 |_=>simp only[q]at p';exact p'.elim
def vG:List R->Res R
 |[r]=>match r.d with
  |.lst ds=>match df ds with
   |some bs=>.ok (.val (.bl (bs.any id)) true [])
   |none=>.stuck
  |_=>.stuck
 |_=>.stuck
def y9(hc:X.calm=true):CallR X (.builtin "any") (λxs H Q=>∃(p:Addr)(vs:List V)(bs:List Bool),xs=[.ref p]/\SqL X.K H p vs/\vs=bs.map V.bl/\Q (.bl (bs.any id)) H):=by
 intro aa s σ H xs us Q I r h;obtain⟨p,vs,bs,rfl,hq,rfl,q⟩:=h;obtain⟨u,rfl,rx⟩:=eJ r;cases rx;obtain⟨its,rv,pl,hz⟩:=I.list hq;have hh:X.A.in1.handled=none:=I.ok.hd hc;obtain⟨o,ho,_⟩:=pl.isList;have hlt:p<s.heap.objs.size:=jZ ho;refine call_any_walk (P2 pl.isList ?_);refine⟨s.heap.objs.size,_,_,_,_,_,λi=>(bs[i]?).getD false,rfl,Walks.list hh s.heap.objs.size p (N9 hlt) its.toArray,⟨⟨_,jY _ rfl,rfl,rfl⟩,?_⟩,?_,λh' tk hk=>?_⟩
 .exact pl.isList.at λo e=>cj _ e
 .intro i v s' Q' E' hv hQ';have hv:its[i]?=some v:=by simpa using hv
  have hi:i<its.length:=(bE.mp hv).1;have hl:=rv.length;have hb:i<bs.length:=by simpa using(by rw[cM]at hl;lia:i<bs.length)
  obtain⟨u',hu,ru⟩:=rv.get (i:=i) (x:=.bl bs[i]) (by simp[hb]);rw[hv]at hu;cases hu;cases ru;have eb:bs[i]?=some bs[i]:=by simp[hb]
  dsimp only at hQ';rw[eb]at hQ';exact OX hQ'
 .have hl:=rv.length;rw[cM]at hl;have e:((List.range its.toArray.size).any λi=>(bs[i]?).getD false)=bs.any id:=by
   rw[cQ,<- hl];rw[Pb,PN,PN];constructor
   .rintro⟨i,hi,h⟩;have hi:i<bs.length:=by simpa using hi
    have eb:bs[i]?=some bs[i]:=by simp[hi]
    rw[eb]at h;exact⟨bs[i],Qe hi,h⟩
   .rintro⟨b,hb,h⟩;obtain⟨i,hi⟩:=g4.mp hb;refine⟨i,by simp;exact(bE.mp hi).1,?_⟩;rw[hi];exact h
  rw[e];refine⟨.bl _,H,?_,rfl,q⟩;have I1:L2.Inv X aa σ H { s with heap:=s.heap.push { cls:=.type "list_iterator",data:=.fields #[.ref p,.int 0 0] } }:=I.kept (t':=s.toks) λb o e=>cj _ e;have fo:=I.oP (H':=H) (cN s.heap.objs.size) (I.aG.fresh (cN _));exact I1.turned (t':=tk) (it:=s.heap.objs.size) (λb o hb e=>hk b o (by simpa using hb) e) fo.1 fo.2.1 fo.2.2.2.1 fo.2.2.2.2.1 fo.2.2.2.2.2
def Ba(hc:X.calm=true):iV X E (.builtin "any") vG:=by
 refine⟨_,y9 hc,λg M ρ env σ H Q rs vs rep i p=>?_⟩;rcases rs with _|⟨r,_|_⟩
 .exact p.elim
 rotate_left
 .exact p.elim
 obtain⟨v,w,rfl,i1,i2⟩:=i;cases i2;have i1:Is H (vmsk g M (aR [r]) ρ (bK [r])) r.d v:=i1;unfold vG at p;dsimp only at p;cases q:r.d with
 |lst ds=>
  rw[q]at p i1;obtain⟨a,ws,rfl,h1,h2⟩:=i1.rd;dsimp only at p;cases qb:df ds with
  |none=>rw[qb]at p;exact p.elim
  |some bs=>
   rw[qb]at p;refine⟨a,ws,bs,rfl,.inl h1,?_,p _ M H (Ext.refl _ _) rep rfl⟩;apply ON
   intro j;by_cases hj:j<ds.length
   .obtain⟨b,e1,e2⟩:=kC (i:=j) (d:=ds[j]) qb (by simp[hj]);obtain⟨v',ev,iv⟩:=h2.get (i:=j) (d:=ds[j]) (by simp[hj]);rw[e1]at iv;cases iv;rw[ev,ol,e2];rfl
   .have l1:=h2.length;have l2:=kE qb;rw[Og (by lia),Og (by simp;lia)]
 |_=>rw[q]at p;exact p.elim
end
def nG(i:Nat)(fk fv:En->Res R)(env:En):Option (Option Sl)->Res Fl
 |some (some (.cw (.bp _ _)))=>nE i fk fv env
 |_=>w_ i fk fv env
def lj(i:Nat)(fk fv:En->Res R):En->Res Fl:=λenv=>nG i fk fv env env[i]?
def jF{i:Nat}{fk fv:En->Res R}{st:Stmt}(h1:lc X E st (w_ i fk fv))(h2:lc X E st (nE i fk fv)):lc X E st (lj i fk fv):=by obtain⟨t1,p1,s1⟩:=h1;obtain⟨t2,p2,s2⟩:=h2;refine⟨λD σ H=>t1 D σ H\/t2 D σ H,λaa s σ H D I h=>h.elim (p1 aa s σ H D I) (p2 aa s σ H D I),λg M ρ env σ H D rep p=>?_⟩;unfold lj nG at p;split at p<;>first|exact .inr (s2 g M ρ env σ H D rep p)|exact .inl (s1 g M ρ env σ H D rep p)
def getD:List DK->List D->DK->Option D
 |k'::ks,d::ds,k=>if k'=k then some d else getD ks ds k
 |_,_,_=>none
def tR(ra rk:R):Res R:=match ra.d with
 |.bp ks ds=>match gf rk.d with
  |some x=>if ks.all (kH x)then(match getD ks ds x with
   |some d=>.ok (hI d ra.fr ra.al)
   |none=>.stuck)else .stuck
  |none=>.stuck
 |_=>.stuck
theorem mC{κ:Type}[DecidableEq κ](inj:κ->DK)(hi:∀a b,inj a=inj b->a=b){H:Hp}{m:Addr->Prop}{k:κ}{d:D}:∀{kvs:List (κ×V)}{ds:List D},IsAll H m ds (kvs.map Prod.snd)->getD (kvs.map λp=>inj p.1) ds (inj k)=some d->∃v,dQ kvs k=some v/\Is H m d v
 |[],ds,_,e=>by cases ds<;>cases e
 |p::r,[],h,e=>by cases h
 |p::r,d0::ds,h,e=>by
  obtain⟨v0,r0,z,i1,i2⟩:=h;cases z;rw[fV]at e;unfold getD at e;by_cases hk:p.1=k
  .rw[ck (N7 inj hk)]at e;cases e;exact⟨p.2,f7 hk,i1⟩
  .rw[cO (λz=>hk (hi _ _ z))]at e;obtain⟨v,e1,e2⟩:=mC inj hi i2 e;exact⟨v,by rw[f9 hk];exact e1,e2⟩
section
def qU(hu:X.A.units+64<cLine)(ho:PD X E o fa)(hk:PD X E k fk)(hs:GJ k):PD X E (.Subscript o k pos) (v2 tR fa fk):=by
 obtain⟨ta,p1,s1⟩:=ho;obtain⟨tk,p2,s2⟩:=hk;refine⟨_,C4 (by lia) p1 p2 hs,λg M ρ env σ H Q rep p=>s1.zF s2 rep p λra rk x y M1 H1 rep1 i1 i2 q=>?_⟩;unfold tR at q;cases qa:ra.d with
 |bp ks ds=>
  rw[qa]at q i1;dsimp only at q;cases qk:gf rk.d with
  |none=>rw[qk]at q;exact q.elim
  |some kx=>
   rw[qk]at q;dsimp only at q;by_cases hc:ks.all (kH kx)=true
   .rw[ck hc]at q;obtain⟨a,vs,rfl,⟨dat,_⟩,hall⟩:=i1;cases qd:getD ks ds kx with
    |none=>rw[qd]at q;exact q.elim
    |some d=>
     rw[qd]at q;refine⟨a,?_⟩;rcases i2.gf qk with⟨k0,rfl,rfl⟩|⟨k0,b,rfl,rfl,hb⟩
     .rcases dat with⟨kvs,e1,rfl,rfl⟩|⟨kvs,e1,rfl,rfl⟩
      .obtain⟨v,g1,g2⟩:=mC Sum.inl (λ_ _ z=>PB z) hall qd;exact⟨v,rfl,by rw[<- g1];exact .inl ⟨kvs,k0,e1,rfl,rfl⟩,q.val rep1 g2⟩
      .cases kvs with
       |nil=>cases ds<;>cases qd
       |cons p r=>simp[kH]at hc
     .rcases dat with⟨kvs,e1,rfl,rfl⟩|⟨kvs,e1,rfl,rfl⟩
      .cases kvs with
       |nil=>cases ds<;>cases qd
       |cons p r=>simp[kH]at hc
      .obtain⟨v,g1,g2⟩:=mC Sum.inr (λ_ _ z=>Ro z) hall qd;exact⟨v,rfl,by rw[<- g1];exact .inr ⟨kvs,k0,b,e1,rfl,hb,rfl⟩,q.val rep1 g2⟩
   .rw[cO hc]at q;exact q.elim
 |_=>rw[qa]at q;exact q.elim
def pJ(i:Nat)(fb:En->Res R)(env:En):Option (Option Sl)->Res R
 |some (some (.cw (.bp _ _)))=>v2 tR (ah i) fb env
 |some (some (.val (.bp _ _) _))=>v2 tR (ah i) fb env
 |_=>qL i fb env
def cB(i:Nat)(fb:En->Res R):En->Res R:=λenv=>pJ i fb env env[i]?
def vH(h1:PD X E e (qL i fb))(h2:PD X E e (v2 tR (ah i) fb)):PD X E e (cB i fb):=by obtain⟨t1,p1,s1⟩:=h1;obtain⟨t2,p2,s2⟩:=h2;refine⟨λσ H Q=>t1 σ H Q\/t2 σ H Q,λaa s σ H Q I h=>h.elim (p1 aa s σ H Q I) (p2 aa s σ H Q I),λg M ρ env σ H Q rep p=>?_⟩;unfold cB pJ at p;split at p<;>first|exact .inr (s2 g M ρ env σ H Q rep p)|exact .inl (s1 g M ρ env σ H Q rep p)
def Mi(ra:R)(ks:List DK)(ds:List D)(rk rz:R):Res R:=match gf rk.d with
 |some x=>if ks.all (kH x)then(match getD ks ds x with
  |some d=>.ok (hI d ra.fr ra.al)
  |none=>.ok (hI rz.d rz.fr rz.al))else .stuck
 |none=>.stuck
def MR(fx:En->Res R)(env:En)(ra:R)(ks:List DK)(ds:List D)(rk:R):Res R:=(fx env).bind (Mi ra ks ds rk)
def KC(fk fx:En->Res R)(env:En)(ra:R):Res R:=match ra.d with
 |.bp ks ds=>(fk env).bind (MR fx env ra ks ds)
 |_=>.stuck
def tS(fa fk fx:En->Res R):En->Res R:=λenv=>(fa env).bind (KC fk fx env)
def DAt.N0(h:DAt H a ks vs):LZ H a:=h.imp (λ⟨kvs,e,_⟩=>⟨kvs,e⟩) λ⟨kvs,e,_⟩=>⟨kvs,e⟩
theorem xh:∀{ks:List DK}{ds:List D}{k:DK},ks.length=ds.length->jd ks k=(getD ks ds k).isSome
 |[],ds,k,_=>by cases ds<;>rfl
 |k'::ks,[],k,h=>by cases h
 |k'::ks,d::ds,k,h=>by
  have ih:=xh (ks:=ks) (ds:=ds) (k:=k) (by simpa using h);unfold jd getD;unfold jd at ih;rw[Px];by_cases e:k'=k
  .rw[ck e,db e];rfl
  .rw[cO e,iA e,Bool.false_or];exact ih
def Bb(h:DAt H a ks vs)(hall:IsAll H m ds vs)(hx:Is H m' d x)(e:L3.gf d=some k)(hk:ks.all (kH k)=true) :
 ∃o,oZ H a x o/\(match getD ks ds k with|some d=>∃v,o=some v/\Is H m d v|none=>o=none):=by
 have key:∀{κ:Type} [DecidableEq κ] (inj:κ->DK) (hi:∀a b,inj a=inj b->a=b) (kvs:List (κ×V)) (k0:κ),IsAll H m ds (kvs.map Prod.snd)->(match getD (kvs.map λp=>inj p.1) ds (inj k0)with|some d=>∃v,dQ kvs k0=some v/\Is H m d v|none=>dQ kvs k0=none):=by
  intro κ _ inj hi kvs k0 hl;have bN:(kvs.map λp=>inj p.1).length=ds.length:=by have:=hl.length;rw[cM]at this ⊢;exact this
  have h1:=xh (k:=inj k0) bN;have h2:=nB (kvs:=kvs) inj hi k0;cases q:getD (kvs.map λp=>inj p.1) ds (inj k0)with
  |some d=>exact mC inj hi hl q
  |none=>
   rw[q]at h1;rw[h1]at h2;cases z:dQ kvs k0 with
   |none=>rfl
   |some v=>rw[z]at h2;cases h2
 rcases hx.gf e with⟨k0,rfl,rfl⟩|⟨k0,b,rfl,rfl,hb⟩
 .rcases h with⟨kvs,e1,rfl,rfl⟩|⟨kvs,e1,rfl,rfl⟩
  .exact⟨_,.inl (.inl ⟨kvs,k0,e1,rfl,rfl⟩),key Sum.inl (λ_ _ z=>PB z) kvs k0 hall⟩
  .cases kvs with
   |nil=>exact⟨none,.inr (.inl ⟨e1,⟨k0,rfl⟩,rfl⟩),by cases ds<;>rfl⟩
   |cons p r=>simp[kH]at hk
 .rcases h with⟨kvs,e1,rfl,rfl⟩|⟨kvs,e1,rfl,rfl⟩
  .cases kvs with
   |nil=>exact⟨none,.inr (.inr ⟨e1,⟨b,k0,rfl,hb⟩,rfl⟩),by cases ds<;>rfl⟩
   |cons p r=>simp[kH]at hk
  .exact⟨_,.inl (.inr ⟨kvs,k0,b,e1,rfl,hb,rfl⟩),key Sum.inr (λ_ _ z=>Ro z) kvs k0 hall⟩
def xi(hu:X.A.units+64<cLine)(ho:PD X E o fa)(hk:PD X E k fk)(hx:PD X E x fx)(m:M2 X o "get" apos k x cpos):PD X E (.Call (.Attribute o "get" apos) [k,x] [] cpos) (tS fa fk fx):=by
 obtain⟨ta,p1,s1⟩:=ho;obtain⟨tk,p2,s2⟩:=hk;obtain⟨tx,p3,s3⟩:=hx;refine⟨_,yt (by lia) p1 p2 p3 m,λg M ρ env σ H Q rep p=>s1.fH rep p λra v M1 H1 e1 rep1 i1 q1=>?_⟩;unfold KC at q1;cases qa:ra.d with
 |bp ks ds=>
  rw[qa]at q1 i1;dsimp only at q1;obtain⟨a,vs,rfl,⟨dat,ma⟩,hall⟩:=i1;refine⟨a,rfl,dat.N0,s2.fH rep1 q1 λrk y M2 H2 e2 rep2 i2 q2=>?_⟩;refine s3.fH rep2 q2 λrz z M3 H3 e3 rep3 i3 q3=>?_;unfold Mi at q3;cases qk:gf rk.d with
  |none=>rw[qk]at q3;exact q3.elim
  |some kx=>
   rw[qk]at q3;dsimp only at q3;by_cases hc:ks.all (kH kx)=true
   .rw[ck hc]at q3;have dat3:DAt H3 a ks vs:=dat.keep λo e=>e3.h _ _ (e2.h _ _ e);have hall3:IsAll H3 (vmsk g M3 ra.fr ρ ra.al) ds vs:=(hall.ext e2).ext e3;obtain⟨ov,g1,g2⟩:=Bb dat3 hall3 (i2.ext e3) qk hc;refine⟨ov,g1,?_⟩;cases qd:getD ks ds kx with
    |some d=>rw[qd]at q3 g2;obtain⟨v,rfl,iv⟩:=g2;exact q3.val rep3 iv
    |none=>rw[qd]at q3 g2;have g2:ov=none:=g2;subst g2;exact q3.val rep3 i3
   .rw[cO hc]at q3;exact q3.elim
 |_=>rw[qa]at q1;exact q1.elim
end
noncomputable def ia:List D->Option (List Int)
 |[]=>some []
 |.int i::r=>(ia r).map (i::·)
 |_::_=>none
def Hx:D->Option (List Int)
 |.tup ds=>ia ds
 |_=>none
def ib:List D->Option (List (List Int))
 |[]=>some []
 |d::r=>match Hx d,ib r with
  |some k,some ks=>some (k::ks)
  |_,_=>none
noncomputable def tU(k:List Int):D:=.tup (k.map .int)
def nH(k:List Int):List (List Int)->List (List Int)
 |[]=>[k]
 |h::t=>if k=h then h::t else if cp k h then k::h::t else h::nH k t
def dg:List (List Int)->List (List Int)
 |[]=>[]
 |k::ks=>nH k (dg ks)
def DV(N:Nat)(r:R):Res R:=match r.d with
 |.lst ds=>match ib ds with
  |some ks=>if decide (ds.length<=N)&&ks.all (λk=>!k.isEmpty)then .ok (.new ((dg ks).map tU) true)else .stuck
  |none=>.stuck
 |_=>.stuck
def y_(r:R):Res R:=DV 300 r
def DW(f:En->Res R):En->Res R:=λenv=>(f env).bind y_
theorem qV(k x:List Int):∀l,x∈nH k l↔x=k\/x∈l
 |[]=>by simp[nH]
 |h::t=>by
  unfold nH;split
  .rename_i e;subst e;simp
  .split
   .simp
   .rw[j5,qV k x t,j5]
    grind
theorem Bc(k:List Int):∀l,l.Pairwise (λx y=>cp x y=true)->(nH k l).Pairwise (λx y=>cp x y=true)
 |[],_=>OV _ _
 |h::t,p=>by
  obtain⟨p1,p2⟩:=Ob.mp p;unfold nH;split
  .exact p
  .rename_i hne;split
   .rename_i hlt;refine Ob.mpr ⟨λy hy=>?_,p⟩
    grind [qy]
   .rename_i hlt;refine Ob.mpr ⟨λy hy=>?_,Bc k t p2⟩
    grind [qV,jl]
theorem gg(x:List Int):∀ks,x∈dg ks↔x∈ks
 |[]=>by simp[dg]
 |k::ks=>by unfold dg;rw[qV,gg x ks,j5]
theorem qW:∀ks,(dg ks).Pairwise (λx y=>cp x y=true)
 |[]=>List.Pairwise.nil
 |k::ks=>by unfold dg;exact Bc k _ (qW ks)
def Bd(h:cp a b=true):cp b a=false:=by grind [cp,qy,jk]
theorem nI:∀(a b:List (List Int)),a.Pairwise (λx y=>cp x y=true)->b.Pairwise (λx y=>cp x y=true)->(∀x,x∈a↔x∈b)->a=b
 |[],[],_,_,_=>rfl
 |[],y::b,_,_,h=>by have:=(h y).mpr uB;simp at this
 |x::a,[],_,_,h=>by have:=(h x).mp uB;simp at this
 |x::a,y::b,pa,pb,h=>by
  obtain⟨a1,a2⟩:=Ob.mp pa;obtain⟨b1,b2⟩:=Ob.mp pb;have hxy:x=y:=by
   rcases j5.mp ((h x).mp uB)with e|e
   .exact e
   .rcases j5.mp ((h y).mpr uB)with e'|e'
    .exact e'.symm
    .have:=Bd (a1 y e');rw[b1 x e]at this;cases this
  subst hxy;rw[nI a b a2 b2 λz=>?_]
  grind [jk]
section
theorem IsAll.ints:∀{ds:List D}{vs:List V}{k:List Int},IsAll H m ds vs->ia ds=some k->vs=(iK k).map kV
 |[],_,_,h,e=>by cases h;cases e;rfl
 |d::ds,_,k,h,e=>by
  obtain⟨v,r,rfl,h1,h2⟩:=h;cases d with
  |int i=>unfold ia at e;obtain⟨k',e1,rfl⟩:=N_.mp e;rw[IsAll.ints h2 e1,show v=V.int i from h1];rfl
  |_=>cases e
theorem nJ:∀(k:List Int),IsAll H m (k.map .int) ((iK k).map kV)
 |[]=>rfl
 |i::k=>⟨.int i,_,rfl,rfl,nJ k⟩
theorem IsAll.ib:∀{ds:List D}{vs:List V}{ks:List (List Int)},IsAll H m ds vs->L3.ib ds=some ks->∃its:List ga,TupsIn H vs its/\its.map (·.1)=ks
 |[],_,_,h,e=>by cases h;cases e;exact⟨[],.nil,rfl⟩
 |d::ds,_,ks,h,e=>by
  obtain⟨v,r,rfl,h1,h2⟩:=h;unfold L3.ib at e;cases q:Hx d with
  |none=>rw[q]at e;cases e
  |some k=>
   cases q2:L3.ib ds with
   |none=>rw[q,q2]at e;cases e
   |some ks'=>
    rw[q,q2]at e;cases e;obtain⟨its,t1,t2⟩:=IsAll.ib h2 q2;cases d with
    |tup es=>obtain⟨a,ws,rfl,g1,g2⟩:=h1;have q:ia es=some k:=q;rw[IsAll.ints g2 q]at g1;exact⟨(k,a)::its,.cons ⟨rfl,g1⟩ t1,by grind⟩
    |_=>cases q
end
def vI(t:TupsIn H vs its):vs.length=its.length:=by
 unfold TupsIn at t;induction t with
 |nil=>rfl
 |cons _ _ ih=>rw[lO,lO,ih]
def za(t:TupsIn H vs its):∀x∈its,H x.2=some (.tup ((iK x.1).map kV)):=by
 unfold TupsIn at t;induction t with
 |nil=>exact λx hx=>nomatch hx
 |cons q _ ih=>
  intro x hx;rcases j5.mp hx with rfl|hx
  .exact q.2
  .exact ih x hx
theorem lq:∀{ys:List ga},(∀y∈ys,H y.2=some (.tup ((iK y.1).map kV)))->IsAll H m (ys.map (tU ∘ λy=>y.1)) (ys.map λy=>.ref y.2)
 |[],_=>rfl
 |y::ys,h=>⟨.ref y.2,_,rfl,⟨y.2,_,rfl,h y uB,nJ y.1⟩,lq λz hz=>h z (CF _ hz)⟩
section
def oK(hN:N<=300)(hso:qz X.prog X.w N)(hc:X.calm=true)(hu:X.A.units+64<cLine)(h:PD X E e f)
 (hg1:Gl X x1) (hm1:X.mg x1=none) (hv1:bootBuiltins x1=some (.builtin "sorted")) (hg2:Gl X x2) (hm2:X.mg x2=none) (hv2:bootBuiltins x2=some (.type "set"))
 (hn1:autoParam (x1≠"__name__") ab) (hdb1:autoParam (dB x1) ab) (hn2:autoParam (x2≠"__name__") ab) (hdb2:autoParam (dB x2) ab)
 (he2:autoParam (starEach [e] X.env=(false,eval e X.env)::starEach [] X.env) RJ) (hpl2:autoParam (bT X pos2 []) RJ)
 (he1:autoParam (starEach [.Call (.Name x2 p2) [e] [] pos2] X.env=(false,eval (.Call (.Name x2 p2) [e] [] pos2) X.env)::starEach [] X.env) RJ) (hpl1:autoParam (bT X pos1 []) RJ) :
 PD X E (.Call (.Name x1 p1) [.Call (.Name x2 p2) [e] [] pos2] [] pos1) (λenv=>(f env).bind (DV N)):=by
 obtain⟨t,p1,s1⟩:=h;refine⟨_,f6 (qA hc hN hso) hg1 hm1 hv1 (aI (kf (yA hc hu) hg2 hm2 hv2 (aI p1 bR he2) hn2 hdb2 he2 hpl2) bR he1) hn1 hdb1 he1 hpl1,λg M ρ env σ H Q rep p=>?_⟩;refine s1.fH rep p λr v M1 H1 e1 rep1 i1 q1=>?_;unfold DV at q1;cases qd:r.d with
 |lst ds=>
  rw[qd]at q1 i1;dsimp only at q1;cases qt:ib ds with
  |none=>rw[qt]at q1;exact q1.elim
  |some ks=>
   rw[qt]at q1;dsimp only at q1;by_cases hcond:(decide (ds.length<=N)&&ks.all (λk=>!k.isEmpty))=true
   .rw[ck hcond]at q1;simp only[Of,O0,Om]at hcond;obtain⟨hl,hne⟩:=hcond;obtain⟨a,vs,rfl,h1,h2⟩:=i1.rd;obtain⟨its,t1,t2⟩:=h2.ib qt;have hvl:vs.length<=N:=by rw[h2.length];exact hl
    have tat:=za t1;refine⟨a,vs,its,rfl,h1,t1,lN hvl hN,λb es hb v=>?_⟩;refine⟨b,es,its,rfl,ag,v,λx hx=>?_,λx hx z=>?_,by rw[<- vI t1];exact hvl,λl ys hl so=>?_⟩
    .rw[af (aD (tat x hx) hb)];exact tat x hx
    .have:x.1∈ks:=by rw[<- t2];exact j3.mpr ⟨x,hx,rfl⟩
     have:=hne _ this;rw[z]at this;simp at this
    .have hlb:l≠b:=λz=>by rw[z,ag]at hl;cases hl
     have hl1:H1 l=none:=by rw[af hlb]at hl;exact hl
     have sm1:Same H1 (aC H1 b (.ext λh=>SetAt X.w h b es)):=aK hb;have sm2:Same (aC H1 b (.ext λh=>SetAt X.w h b es)) (aC (aC H1 b (.ext λh=>SetAt X.w h b es)) l (.lst (ys.map λy=>.ref y.2))):=aK hl;have sm:=sm1.trans sm2;obtain⟨z0,zm,zo⟩:=rep1.free hl1;refine q1 _ M1 _ ⟨λ_ z=>z,sm,λ_ z=>.inl z⟩ (rep1.grow sm) ⟨l,_,rfl,ag,zm,hl1,zo,?_⟩;have ek:ys.map (·.1)=dg ks:=by
      refine nI _ _ ?_ (qW ks) λk=>?_
      .rw[Oc];exact so.pw
      .rw[gg,<- t2];constructor
       .intro hk;obtain⟨y,hy,rfl⟩:=j3.mp hk;exact j3.mpr ⟨y,so.sub y hy,rfl⟩
       .intro hk;obtain⟨x,hx,rfl⟩:=j3.mp hk;obtain⟨y,y1,y2⟩:=so.all x hx;exact j3.mpr ⟨y,y1,y2⟩
     rw[<- ek,v9];exact lq (λx hx=>sm _ _ (tat x (so.sub x hx)))
   .rw[cO hcond]at q1;exact q1.elim
 |_=>rw[qd]at q1;exact q1.elim
end
section
mutual
theorem Is.view(hl:∀a vs,H a=some (.lst vs)->H' a=some (.lst vs))(hf:∀a o vs,H a=some (.az o (.lst vs))->H' a=some (.az o (.lst vs)))(ht:∀a vs,H a=some (.tup vs)->H' a=some (.tup vs))(hd:∀a u,fE u->Rd H a u->Rd H' a u)(mm:∀a,m a->m' a):∀{d:D}{v:V},Is H m d v->Is H' m' d v
 |.fU,_,h=>h
 |.bl _,_,h=>h
 |.int _,_,h=>h
 |.str _,_,h=>h
 |.tup ds,_,h=>by obtain⟨a,vs,e,h1,h2⟩:=h;exact⟨a,vs,e,ht a _ h1,IsAll.view hl hf ht hd mm h2⟩
 |.lst ds,_,h=>by
  obtain⟨a,vs,e,h1,h2⟩:=h;refine⟨a,vs,e,?_,IsAll.view hl hf ht hd mm h2⟩;rcases h1 with⟨h1,h3⟩|⟨o,h1,h3⟩
  .exact .inl ⟨hl a _ h1,mm a h3⟩
  .exact .inr ⟨o,hf a o _ h1,mm a h3⟩
 |.bp ks ds,_,h=>by obtain⟨a,vs,e,h1,h2⟩:=h;refine⟨a,vs,e,⟨?_,mm a h1.2⟩,IsAll.view hl hf ht hd mm h2⟩;exact h1.1.imp (λ⟨kvs,e,r⟩=>⟨kvs,hd a _ True.intro e,r⟩) λ⟨kvs,e,r⟩=>⟨kvs,hd a _ True.intro e,r⟩
theorem IsAll.view(hl:∀a vs,H a=some (.lst vs)->H' a=some (.lst vs))(hf:∀a o vs,H a=some (.az o (.lst vs))->H' a=some (.az o (.lst vs)))(ht:∀a vs,H a=some (.tup vs)->H' a=some (.tup vs))(hd:∀a u,fE u->Rd H a u->Rd H' a u)(mm:∀a,m a->m' a):∀{ds:List D}{vs:List V},IsAll H m ds vs->IsAll H' m' ds vs
 |[],_,h=>h
 |d::ds,_,h=>by obtain⟨v,r,e,h1,h2⟩:=h;exact⟨v,r,e,Is.view hl hf ht hd mm h1,IsAll.view hl hf ht hd mm h2⟩
end
mutual
theorem IsSh.view(hl:∀a vs,H a=some (.lst vs)->H' a=some (.lst vs))(ht:∀a vs,H a=some (.tup vs)->H' a=some (.tup vs)):∀{d:D}{v:V},IsSh H m d v->IsSh H' m d v
 |.fU,_,h=>h
 |.bl _,_,h=>h
 |.int _,_,h=>h
 |.str _,_,h=>h
 |.tup ds,_,h=>by obtain⟨a,vs,e,h1,h2⟩:=h;exact⟨a,vs,e,ht a _ h1,IsShs.view hl ht h2⟩
 |.lst ds,_,h=>by obtain⟨a,vs,e,h1,h2⟩:=h;exact⟨a,vs,e,hl a _ h1,h2⟩
 |.bp _ _,_,h=>h
theorem IsShs.view(hl:∀a vs,H a=some (.lst vs)->H' a=some (.lst vs))(ht:∀a vs,H a=some (.tup vs)->H' a=some (.tup vs)):∀{ds:List D}{vs:List V},IsShs H m ds vs->IsShs H' m ds vs
 |[],_,h=>h
 |d::ds,_,h=>by obtain⟨v,r,e,h1,h2⟩:=h;exact⟨v,r,e,IsSh.view hl ht h1,IsShs.view hl ht h2⟩
end
end
section
variable{g:Gd}{M:Addr->Prop}{ρ:Pr}{env:En}{σ:St}{H:Hp}{d:Addr}{o:Obj}{u:HO}
open Classical in
def dU(g:Gd)(d:Addr)(o:Obj)(u:HO):Gd:=⟨if g.H₀ d=none then g.H₀ else aC g.H₀ d (.az o u),g.Ma,λa=>g.Z a\/a=d,g.root,g.LP⟩
def nK(hb:b≠d):(dU g d o u).H₀ b=g.H₀ b:=by
 unfold dU;dsimp only;split
 .rfl
 .exact af hb
def bZ(b:Addr):(dU g d o u).H₀ b=none↔g.H₀ b=none:=by
 by_cases hb:b=d
 .subst hb;unfold dU;dsimp only;split
  .exact Iff.rfl
  .rename_i h;rw[ag];exact⟨λz=>(by cases z),λz=>(h z).elim⟩
 .rw[nK hb]
def DX(h:g.H₀ d≠none):(dU g d o u).H₀ d=some (.az o u):=by unfold dU;dsimp only;rw[cO h,ag]
def pK(hu:fE u)(hd:H d=some u):(∀a vs,H a=some (.lst vs)->a≠d)/\(∀a o vs,H a=some (.az o (.lst vs))->a≠d)/\∀a vs,H a=some (.tup vs)->a≠d:=by refine⟨λa vs e z=>?_,λa o vs e z=>?_,λa vs e z=>?_⟩<;>(subst z;rw[hd]at e;cases e;exact hu)
def msk_still:dc (dU g d o u) M fr a↔dc g M fr a:=by unfold dc;rw[bZ]
def Rep.oh(rep:Rep g M ρ env σ H)(hd:H d=some u)(hu:fE u)(hm:M d):Rep (dU g d o u) M ρ env σ (aC H d (.az o u)):=by
 obtain⟨k1,k2,k3⟩:=pK hu hd;have vl:∀a vs,H a=some (.lst vs)->aC H d (.az o u) a=some (.lst vs):=λa vs e=>by rw[af (k1 a vs e)];exact e
 have vf:∀a o' vs,H a=some (.az o' (.lst vs))->aC H d (.az o u) a=some (.az o' (.lst vs)):=λa o' vs e=>by rw[af (k2 a o' vs e)];exact e
 have vt:∀a vs,H a=some (.tup vs)->aC H d (.az o u) a=some (.tup vs):=λa vs e=>by rw[af (k3 a vs e)];exact e
 have vd:∀a u',fE u'->Rd H a u'->Rd (aC H d (.az o u)) a u':=λa u' hu' e=>by
  by_cases ha:a=d
  .subst ha;rcases e with e|⟨o',e⟩
   .rw[hd]at e;cases e;exact .inr ⟨o,ag⟩
   .rw[hd]at e;cases e;exact hu.elim
  .exact jb e λo' q=>by rw[af ha];exact q
 have pn:∀i a,ρ i a->a≠d:=λi a h z=>(rep.aT i a h).1 (z▸hm);refine⟨λb x e=>?_,λa ha=>?_,λa ha=>(rep.pZ a ha).imp (bZ a).mpr id,λa ha h0=>?_,λi sl e=>?_,λi a h=>?_,rep.apart,rep.ow,rep.len,λa z=>?_⟩
 .by_cases hb:b=d
  .subst hb;have hn:g.H₀ b≠none:=λz=>by rw[(bZ b).mpr z]at e;cases e
   rw[DX hn]at e;cases e;exact ag
  .rw[nK hb]at e;rw[af hb];exact rep.same b x e
 .by_cases hb:a=d
  .rw[hb,ag];simp
  .rw[af hb];exact rep.fI a ha
 .by_cases hb:a=d
  .rw[hb];exact .inr ⟨.inr rfl,o,u,ag⟩
  .rcases rep.fl a ha ((bZ a).mp h0)with q|⟨q,o',u',e⟩
   .exact .inl (q.same λo' e=>by rw[af hb];exact e)
   .exact .inr ⟨.inl q,o',u',by rw[af hb];exact e⟩
 .obtain⟨v,ev,k⟩:=rep.slot i sl e;refine⟨v,ev,?_⟩;cases sl with
  |val d' fr=>exact Is.view vl vf vt vd (λa z=>msk_still.mpr z) k
  |own ds fr=>obtain⟨a,vs,rfl,h1,h2,h3⟩:=k;exact⟨a,vs,rfl,vl _ _ h1,h2,IsAll.view vl vf vt vd (λa z=>msk_still.mpr z) h3⟩
  |cw d'=>exact Is.view vl vf vt vd (λa z=>z) k
  |ya d'=>exact IsSh.view vl vt k
  |fD ks=>exact nh (λa o' z e=>by rw[af (pn i a z)];exact e) vt k
 .obtain⟨q1,q2,q3⟩:=rep.aT i a h;exact⟨q1,(bZ a).mpr q2,q3.same λo' e=>by rw[af (pn i a h)];exact e⟩
 .by_cases hb:a=d
  .rw[hb,ag];simp
  .rw[af hb];exact rep.zz a (z.resolve_right hb)
def Rep.rM(rep:Rep (dU g d o u) M ρ env σ H)(hd:H d=some (.az o u))(hu:fE u)(hm:M d)(hx:∀x,g.H₀ d=some x->x=u):Rep g M ρ env σ (aC H d u):=by
 have n1:∀a vs,H a=some (.lst vs)->a≠d:=λa vs e z=>by subst z;rw[hd]at e;cases e
 have n2:∀a o' vs,H a=some (.az o' (.lst vs))->a≠d:=λa o' vs e z=>by subst z;rw[hd]at e;cases e;exact hu
 have n3:∀a vs,H a=some (.tup vs)->a≠d:=λa vs e z=>by subst z;rw[hd]at e;cases e
 have vl:∀a vs,H a=some (.lst vs)->aC H d u a=some (.lst vs):=λa vs e=>by rw[af (n1 a vs e)];exact e
 have vf:∀a o' vs,H a=some (.az o' (.lst vs))->aC H d u a=some (.az o' (.lst vs)):=λa o' vs e=>by rw[af (n2 a o' vs e)];exact e
 have vt:∀a vs,H a=some (.tup vs)->aC H d u a=some (.tup vs):=λa vs e=>by rw[af (n3 a vs e)];exact e
 have vd:∀a u',fE u'->Rd H a u'->Rd (aC H d u) a u':=λa u' hu' e=>by
  by_cases ha:a=d
  .subst ha;rcases e with e|⟨o',e⟩
   .rw[hd]at e;cases e;exact hu'.elim
   .rw[hd]at e;cases e;exact .inl ag
  .exact jb e λo' q=>by rw[af ha];exact q
 have muu:Mu (aC H d u) d:=⟨u,ag,by cases u<;>first|exact True.intro|exact hu.elim⟩;have pn:∀i a,ρ i a->a≠d:=λi a h z=>(rep.aT i a h).1 (z▸hm);refine⟨λb x e=>?_,λa ha=>?_,λa ha=>(rep.pZ a ha).imp (bZ a).mp id,λa ha h0=>?_,λi sl e=>?_,λi a h=>?_,rep.apart,rep.ow,rep.len,λa z=>?_⟩
 .by_cases hb:b=d
  .subst hb;rw[hx x e,ag]
  .rw[af hb];exact rep.same b x (by rw[nK hb];exact e)
 .by_cases hb:a=d
  .rw[hb];exact muu.some
  .rw[af hb];exact rep.fI a ha
 .by_cases hb:a=d
  .rw[hb];exact .inl muu
  .rcases rep.fl a ha ((bZ a).mpr h0)with q|⟨q,o',u',e⟩
   .exact .inl (q.same λo' e=>by rw[af hb];exact e)
   .exact .inr ⟨q.resolve_right hb,o',u',by rw[af hb];exact e⟩
 .obtain⟨v,ev,k⟩:=rep.slot i sl e;refine⟨v,ev,?_⟩;cases sl with
  |val d' fr=>exact Is.view vl vf vt vd (λa z=>msk_still.mp z) k
  |own ds fr=>obtain⟨a,vs,rfl,h1,h2,h3⟩:=k;exact⟨a,vs,rfl,vl _ _ h1,h2,IsAll.view vl vf vt vd (λa z=>msk_still.mp z) h3⟩
  |cw d'=>exact Is.view vl vf vt vd (λa z=>z) k
  |ya d'=>exact IsSh.view vl vt k
  |fD ks=>exact nh (λa o' z e=>by rw[af (pn i a z)];exact e) vt k
 .obtain⟨q1,q2,q3⟩:=rep.aT i a h;exact⟨q1,(bZ a).mp q2,q3.same λo' e=>by rw[af (pn i a h)];exact e⟩
 .by_cases hb:a=d
  .rw[hb];exact muu.some
  .rw[af hb];exact rep.zz a (.inl z)
end
noncomputable def kD:bu->D
 |.inl i=>.int i
 |.inr x=>.str x
def gh:List DK->Option (List D)
 |[]=>some []
 |.inl k::r=>(gh r).map (kD k::·)
 |.inr _::_=>none
noncomputable def lX(asg:D->Bool->En->Option En)(body:En->Res Fl):List D->En->Res Fl
 |[],env=>.ok (.nx env)
 |x::xs,env=>match asg x true env with
  |none=>.stuck
  |some env1=>match body env1 with
   |.ok (.nx aB)=>lX asg body xs aB
   |.ok (.ct aB)=>lX asg body xs aB
   |.ok (.bk aB)=>.ok (.nx aB)
   |_=>.stuck
def FH(asg:D->Bool->En->Option En)(body:En->Res Fl)(env:En)(r:R):Res Fl:=match r.d with
 |.bp ks _=>match gh ks with
  |some xs=>lX asg body xs (az env r.al)
  |none=>.stuck
 |_=>.stuck
def Be(f:En->Res R)(asg:D->Bool->En->Option En)(body:En->Res Fl):En->Res Fl:=λenv=>(f env).bind (FH asg body env)
theorem jG:∀{kvs:List (bu×V)}{xs:List D},gh (kvs.map λp=>.inl p.1)=some xs->xs=kvs.map λp=>kD p.1
 |[],_,e=>by cases e;rfl
 |p::r,_,e=>by rw[fV]at e;unfold gh at e;obtain⟨y,e1,rfl⟩:=N_.mp e;rw[jG e1];rfl
def xj(k:bu):Is H m (kD k) (kV k):=by cases k<;>exact rfl
section
def tV(hp:PassesOwn (model X.prog X.w) X.A X.env X.xe)(hc:X.calm=true)
 (hl:PD X E l f) (hg:yR X ix tg asg) (hb:oH X E body fb) (hs:autoParam (∀x,foldedSetIterable l X.env x=pure x) RI):lc X E (.For tg l body [] pos) (Be f asg fb):=by
 obtain⟨tl,p1,s1⟩:=hl;obtain⟨u,p2,s2⟩:=hg;obtain⟨tb,p3,s3⟩:=hb;refine⟨_,GN (p_ hp hc (wA p1) p2 p3 hs),λg M ρ env σ H D rep p=>?_⟩;refine s1.iT rep p λr v M0 H1 e1 rep0 ro p0=>?_;obtain⟨M1,x1,x1m,rep1,is1⟩:=ro.is rep0 e1 rep.same;obtain⟨M2,ρ2,x2,rep2,o2,_,_⟩:=Rep.az r.al rep1;have is2:Is H1 (dc g M2 r.fr) r.d v:=Is.frozen rep1 x2 o2 is1;have p2':=PostS.az (⟨λa z=>x2 a (x1m a z),λ_ _ q _=>q⟩ : g7 M0 H1 M2 H1) p0;clear p0 p;unfold FH at p2';cases qd:r.d with
 |bp ks ds=>
  rw[qd]at p2' is2;dsimp only at p2';cases qk:gh ks with
  |none=>rw[qk]at p2';exact p2'.elim
  |some xs=>
   rw[qk]at p2';dsimp only at p2';obtain⟨d,vs,rfl,⟨dat,md⟩,_⟩:=is2;have md:M2 d:=md.1;have shape:∃kvs u,(u=.dK kvs\/(u=.dT []/\kvs=[]))/\Rd H1 d u/\xs=kvs.map λp=>kD p.1:=by
    rcases dat with⟨kvs,e,rfl,_⟩|⟨kvs,e,rfl,_⟩
    .exact⟨kvs,_,.inl rfl,e,jG qk⟩
    .cases kvs with
     |nil=>cases qk;exact⟨[],_,.inr ⟨rfl,rfl⟩,e,rfl⟩
     |cons p r=>cases qk
   obtain⟨kvs,u',hu',hrd,rfl⟩:=shape;have gs:fE u':=by rcases hu' with rfl|⟨rfl,_⟩<;>exact True.intro
   have loop:∀(g':Gd)(o:Obj)(H2:Hp),Rep g' M2 ρ2 (az env r.al) σ H2->H2 d=some (.az o u')->
    (∀aB,lX asg fb (kvs.map λp=>kD p.1) (az env r.al)=.ok (.nx aB)->∀σ' M' ρ' H',g7 M2 H2 M' H'->Rep g' M' ρ' aB σ' H'->(unD X D).nx σ' H')->
    ∃W:Nat->Nat->St->Hp->Prop,(∃m,W 0 m σ H2)/\∀i m σ H,W i m σ H->((Fh d o u' kvs).stop i H/\(unD X D).nx σ H)\/((Fh d o u' kvs).go i H/\∃N:St->Hp->Prop,(∀σ' H',N σ' H'->∃m',m'<m/\W (i+1) m' σ' H')/\∀x H',(Fh d o u' kvs).CM i H x H'->u x σ H' λσ2 H2=>tb {unD X D with nx:=N,ct:=N,bk:=(unD X D).nx} σ2 H2):=by
    intro g' o H2 repL hz fin;have fD:lX asg fb (kvs.map λp=>kD p.1) (az env r.al)≠.stuck:=λz=>by rw[z]at p2';exact p2'
    have shp:∀(ys:List L3.D)(en:En),lX asg fb ys en=.stuck\/∃en',lX asg fb ys en=.ok (.nx en'):=by
     intro ys;induction ys with
     |nil=>intro en;exact .inr ⟨en,rfl⟩
     |cons y ys ih=>
      intro en;unfold lX;cases asg y true en with
      |none=>exact .inl rfl
      |some e1=>
       dsimp only;cases fb e1 with
       |stuck=>exact .inl rfl
       |exc c=>exact .inl rfl
       |ok fl=>
        cases fl with
        |nx e2=>exact ih e2
        |ct e2=>exact ih e2
        |bk e2=>exact .inr ⟨e2,rfl⟩
        |rt r=>exact .inl rfl
        |rm r e2=>exact .inl rfl
    obtain⟨envE,hE⟩:=(shp (kvs.map λp=>kD p.1) (az env r.al)).resolve_left fD;refine⟨λi m σ' H'=>m=kvs.length-i/\i<=kvs.length/\∃M' ρ' aB,Rep g' M' ρ' aB σ' H'/\g7 M2 H2 M' H'/\lX asg fb ((kvs.drop i).map λp=>kD p.1) aB=.ok (.nx envE),⟨_,rfl,N3 _,M2,ρ2,_,repL,g7.refl _ _,hE⟩,?_⟩;rintro i m σ' H' ⟨rfl,hle,M',ρ',aB,rep',f',q'⟩;have hd':H' d=some (.az o u'):=f'.h d _ hz (.inl md);by_cases hlt:i<kvs.length
    .have edrop:kvs.drop i=kvs[i]::kvs.drop (i+1):=OC hlt;rw[edrop,fV]at q';unfold lX at q';cases qa:asg (kD kvs[i].1) true aB with
     |none=>simp only[qa]at q';cases q'
     |some env1=>
      simp only[qa]at q';refine .inr ⟨⟨hd',hlt⟩,λσ'' H''=>∃M'' ρ'' env'',Rep g' M'' ρ'' env'' σ'' H''/\g7 M2 H2 M'' H''/\lX asg fb ((kvs.drop (i+1)).map λp=>kD p.1) env''=.ok (.nx envE),λσ'' H'' z=>⟨kvs.length-(i+1),by lia,rfl,hlt,z⟩,λx H'' y=>?_⟩;obtain⟨rfl,k,v,ek,rfl⟩:=y;have ek':kvs[i].1=k:=by
       have:kvs[i]?=some kvs[i]:=by simp[hlt]
       exact N7 Prod.fst (Oi (this.symm.trans ek))
      rw[ek']at qa;refine s2 g' M' ρ' aB env1 σ' _ _ true (kV k) _ rep' (xj k) qa λσ1 ρ1 rep1' _ _=>?_;refine s3 g' M' ρ1 env1 σ1 _ _ rep1' ?_;cases qb:fb env1 with
      |stuck=>rw[qb]at q';cases q'
      |exc c=>rw[qb]at q';cases q'
      |ok fl=>
       rw[qb]at q';cases fl with
       |nx e3=>exact λσ3 M3 ρ3 H3 f3 rep3=>⟨M3,ρ3,e3,rep3,f'.trans f3,q'⟩
       |ct e3=>exact λσ3 M3 ρ3 H3 f3 rep3=>⟨M3,ρ3,e3,rep3,f'.trans f3,q'⟩
       |bk e3=>simp only[Res.ok.injEq,Fl.nx.injEq]at q';subst q';exact λσ3 M3 ρ3 H3 f3 rep3=>fin _ hE σ3 M3 ρ3 H3 (f'.trans f3) rep3
       |rt r=>cases q'
       |rm r e2=>cases q'
    .have e:i=kvs.length:=by lia
     subst e;rw[QV]at q';simp only[Q8]at q';unfold lX at q';simp only[Res.ok.injEq,Fl.nx.injEq]at q';subst q';exact .inl ⟨⟨hd',cN _⟩,fin _ hE σ' M' ρ' H' f' rep'⟩
   refine⟨d,kvs,u',rfl,hu',?_⟩;rcases hrd with hrd|⟨o,hrd⟩
   .right;refine⟨hrd,λo hnf=>loop (dU g d o u') o _ (rep2.oh hrd gs md) ag λaB hE σ' M' ρ' H' f' rep'=>?_⟩;rw[hE]at p2';have hd':H' d=some (.az o u'):=f'.h d _ ag (.inl md);have hx:∀x,g.H₀ d=some x->x=u':=λx e=>by have:=rep2.same d x e;rw[hrd]at this;cases this;rfl
    have rep3:=rep'.rM hd' gs (f'.m d md) hx;refine .inr ⟨d,o,u',hd',gs,hnf,p2' σ' M' ρ' _ ⟨f'.m,λa x e z=>?_⟩ rep3⟩;by_cases ha:a=d
    .subst ha;rw[hrd]at e;cases e;exact ag
    .rw[af ha];exact f'.h a x (by rw[af ha];exact e) z
   .left;refine⟨o,hrd,loop g o H1 rep2 hrd λaB hE σ' M' ρ' H' f' rep'=>?_⟩;rw[hE]at p2';exact .inl (p2' σ' M' ρ' H' f' rep')
 |_=>rw[qd]at p2';exact p2'.elim
end
def DY:List R->Res Src
 |[r]=>match r.d with
  |.lst ds=>.ok ⟨ds.reverse,r.fr,r.al⟩
  |_=>.stuck
 |_=>.stuck
def Hy(fs:En->Res (List R)):En->Res Src:=λenv=>(fs env).bind DY
section
def Bf{K:Rx}{a:Addr}{m:Addr->Prop}(h:(H a=some (.lst vs)/\m a)\/∃o,H a=some (.az o (.lst vs))/\m a)(is:IsAll H m ds vs):Walk (MF K a vs.length) m H ds.reverse:=by
 have st:∀H',(∀a o,H a=some o->(m a\/dE o)->H' a=some o)->SqL K H' a vs:=λH' k=>by
  rcases h with⟨h,hm⟩|⟨o,h,_⟩
  .exact .inl (.inl (k a _ h (.inl hm)))
  .exact .inl (.inr ⟨o,k a _ h (.inr True.intro)⟩)
 have hl:=is.length;refine⟨λH' i d k e=>?_,λH' k=>by show vs.length<=ds.reverse.length;rw[PC,hl];exact cN _⟩;have hi:i<ds.length:=by have:=(bE.mp e).1;simpa using this
 rw[QN hi]at e;obtain⟨v,ev,iv⟩:=(is.mono k λ_ _ _ z=>z:IsAll H' m ds vs).get e;refine⟨⟨vs,st H' k,rfl,by lia⟩,λx H'' y=>?_⟩;obtain⟨rfl,y⟩:=y;have:=y vs (st _ k);rw[hl,ev]at this;cases this;exact⟨Same.refl _,iv⟩
def DZ(hg:Gl X "reversed") (hm:X.mg "reversed"=none) (ha:AS X E [l] fs) (hs:autoParam (starEach [l] X.env=[(false,eval l X.env)]) RJ):Jo X E tg (.Call (.Name "reversed" p) [l] [] pos) (Hy fs):=by
 obtain⟨t,p1,s1⟩:=ha;refine⟨_,Ae hg hm p1 hs,λg M ρ env σ H Rq rep p=>s1.one rep (P:=λM H r=>PostI X.mg E g M ρ env σ H Rq r) p (λ_ _ z=>z) (λ_ _ _ z=>z) (λ_ _ _ _ _ e p=>p.ext e) λrs vs M1 H1 e1 rep1 is q=>?_⟩;rcases rs with _|⟨r,_|_⟩
 .exact q.elim
 rotate_left
 .exact q.elim
 obtain⟨v,w,rfl,i1,i2⟩:=is;cases i2;have i1:Is H1 (vmsk g M1 (aR [r]) ρ (bK [r])) r.d v:=i1;replace i1:=i1.weak λ_ z=>qM z;unfold DY at q;dsimp only at q;cases z:r.d with
 |lst ds=>rw[z]at i1 q;obtain⟨a,ws,rfl,h1,h2⟩:=i1;exact⟨a,ws,rfl,.inl (h1.imp (·.1) λ⟨o,z,_⟩=>⟨o,z⟩),q _ M1 H1 (Ext.refl _ _) rep1 (Bf h1 h2)⟩
 |_=>rw[z]at q;exact q.elim
end
noncomputable abbrev bO:=Int×Int×Int
noncomputable def dd(l:List Int)(x:Int):List Int:=if x∈l then l else l++[x]
def KD(xs:List Int):List Int:=xs.foldl dd []
def g1(ts:List bO):List Int:=KD (ts.map (·.1))
def g2(ts:List bO)(x:Int):List Int:=KD ((ts.filter λt=>decide (t.1=x)).map (·.2.1))
noncomputable def g3(ts:List bO)(x y:Int):List Int:=(ts.filter λt=>decide (t.1=x)&&decide (t.2.1=y)).map (·.2.2)
noncomputable def ik(i:Int):DK:=.inl (.inl i)
def Bg(l:List Int)(x y:Int):y∈dd l x↔y∈l\/y=x:=by
 unfold dd;split
 .rename_i h;exact⟨.inl,λz=>z.elim id λe=>e▸h⟩
 .simp
def xk(ts:List bO)(x y z u v:Int):g3 (ts++[(x,y,z)]) u v=if x=u/\y=v then g3 ts u v++[z]else g3 ts u v:=by
 unfold g3;rw[List.filter_append,N4];by_cases h:x=u/\y=v
 .rw[ck h];have:([(x,y,z)]:List bO).filter (λt=>decide (t.1=u)&&decide (t.2.1=v))=[(x,y,z)]:=by grind
  rw[this];rfl
 .rw[cO h];have:([(x,y,z)]:List bO).filter (λt=>decide (t.1=u)&&decide (t.2.1=v))=[]:=by rw[O5,cO,List.filter_nil];simpa using h
  rw[this];simp
theorem nL(y:Int):∀(xs:List Int)(l:List Int),y∈xs.foldl dd l↔y∈l\/y∈xs
 |[],l=>by simp
 |x::xs,l=>by rw[O2,nL y xs,Bg,j5,or_assoc]
def nN(l:List Int)(x:Int):(dd l x).length<=l.length+1:=by unfold dd;split<;>simp
def Bh(ts:List bO)(x y:Int):(g3 ts x y).length<=ts.length:=by unfold g3;rw[cM];exact QP _ _
theorem nO:∀(k:List Int),IsAll H m (k.map .int) (k.map .int)
 |[]=>rfl
 |i::k=>⟨.int i,_,rfl,rfl,nO k⟩
noncomputable def qX:D->Option bO
 |.tup [.int x,.int y,.int z]=>some (x,y,z)
 |_=>none
def ic:List D->Option (List bO)
 |[]=>some []
 |d::r=>match qX d,ic r with
  |some t,some ts=>some (t::ts)
  |_,_=>none
theorem pL:∀{ds:List D}{ts:List bO},ic ds=some ts->ds.length=ts.length
 |[],_,e=>by cases e;rfl
 |d::ds,ts,e=>by
  unfold ic at e;cases q:qX d with
  |none=>rw[q]at e;cases e
  |some t=>
   cases q2:ic ds with
   |none=>rw[q,q2]at e;cases e
   |some ts'=>rw[q,q2]at e;cases e;simp[pL q2]
theorem tW:∀{ds:List D}{vs:List V}{ts:List bO}{j:Nat}{v:V},IsAll H m ds vs->ic ds=some ts->vs[j]?=some v->∃x y z p,ts[j]?=some (x,y,z)/\v=.ref p/\H p=some (.tup [.int x,.int y,.int z])
 |[],_,_,_,_,h,_,ev=>by cases h;simp at ev
 |d::ds,_,ts,j,v,h,e,ev=>by
  obtain⟨w,r,rfl,h1,h2⟩:=h;unfold ic at e;cases q:qX d with
  |none=>rw[q]at e;cases e
  |some t=>
   cases q2:ic ds with
   |none=>rw[q,q2]at e;cases e
   |some ts'=>
    rw[q,q2]at e;cases e;cases j with
    |zero=>
     simp at ev;subst ev;unfold qX at q;split at q
     .rename_i x y z;cases q;obtain⟨p,us,rfl,g1,w1,r1,rfl,i1,w2,r2,rfl,i2,w3,r3,rfl,i3,i4⟩:=h1;cases i1;cases i2;cases i3;cases i4;exact⟨x,y,z,p,rfl,rfl,g1⟩
     .cases q
    |succ j=>exact tW (j:=j) h2 q2 (by simpa using ev)
noncomputable def Bi:Res R->Bool
 |.ok (.val (.bp _ _) _ _)=>true
 |.ok (.iS (.bp _ _))=>true
 |_=>false
def lr(f:En->Res R)(asg:D->Bool->En->Option En)(fb:En->Res Fl):En->Res Fl:=λenv=>if Bi (f env)then Be f asg fb env else iP (g5 f) asg fb env
def tX{E:XK}{st:Stmt}{f:En->Res R}{asg:D->Bool->En->Option En}{fb:En->Res Fl}(h1:lc X E st (iP (g5 f) asg fb))(h2:lc X E st (Be f asg fb)):lc X E st (lr f asg fb):=by
 obtain⟨t1,p1,s1⟩:=h1;obtain⟨t2,p2,s2⟩:=h2;refine⟨λD σ H=>t1 D σ H\/t2 D σ H,λaa s σ H D I h=>h.elim (p1 aa s σ H D I) (p2 aa s σ H D I),λg M ρ env σ H D rep p=>?_⟩;unfold lr at p;split at p
 .exact .inr (s2 g M ρ env σ H D rep p)
 .exact .inl (s1 g M ρ env σ H D rep p)
section
def MS(X:Cx)(Q:VK):VK:=λv H=>Q v H\/∃d o u,H d=some (.az o u)/\fE u/\(∀o v,X.H₀ d≠some (.az o v))/\Q v (aC H d u)
def Hz(h:PE X e t):PE X e (λσ H Q=>t σ H (MS X Q)):=by
 intro aa s σ H Q I q;refine bV (h aa s σ H _ I q) λv s' r=>?_;obtain⟨x,H',I',rv,r⟩:=r;rcases r with r|⟨d,o,u,e,hu,hn,r⟩
 .exact⟨x,H',I',rv,r⟩
 .exact⟨x,_,I'.x9 e hu hn,rv,r⟩
def NQ(X:Cx)(D:Ends):Ends where
 nx:=λσ H=>D.nx σ H\/∃d o u,H d=some (.az o u)/\fE u/\(∀o v,X.H₀ d≠some (.az o v))/\D.nx σ (aC H d u)
 rt:=MS X D.rt
 bk:=D.bk
 ct:=D.ct
def HA{st:Stmt}(h:PS X st t):PS X st (λD σ H=>t (NQ X D) σ H):=by
 intro aa s σ H D I q;refine bV (h aa s σ H _ I q) λf s' r=>?_;cases f with
 |next=>
  obtain⟨σ',H',I',r⟩:=r;rcases r with r|⟨d,o,u,e,hu,hn,r⟩
  .exact⟨σ',H',I',r⟩
  .exact⟨σ',_,I'.x9 e hu hn,r⟩
 |ret v=>
  obtain⟨x,σ',H',I',rv,r⟩:=r;rcases r with r|⟨d,o,u,e,hu,hn,r⟩
  .exact⟨x,σ',H',I',rv,r⟩
  .exact⟨x,σ',_,I'.x9 e hu hn,rv,r⟩
 |brk=>exact r
 |cont=>exact r
end
section
def Is.LO(hd:H d=some (.az o u))(hu:fE u)(mm:∀a,m a->m' a)(h:Is H m x v):Is (aC H d u) m' x v:=by
 refine Is.view (λa vs e=>?_) (λa o' vs e=>?_) (λa vs e=>?_) (λa u' hu' e=>?_) mm h
 .rw[af (λz=>by subst z;rw[hd]at e;cases e)];exact e
 .rw[af (λz=>by subst z;rw[hd]at e;cases e;exact hu)];exact e
 .rw[af (λz=>by subst z;rw[hd]at e;cases e)];exact e
 .by_cases ha:a=d
  .subst ha;rcases e with e|⟨o',e⟩
   .rw[hd]at e;cases e;exact hu'.elim
   .rw[hd]at e;cases e;exact .inl ag
  .exact jb e λo' q=>by rw[af ha];exact q
def Is.oh(hd:H d=some u)(hu:fE u)(mm:∀a,m a->m' a)(h:Is H m x v):Is (aC H d (.az o u)) m' x v:=by
 obtain⟨k1,k2,k3⟩:=pK hu hd;refine Is.view (λa vs e=>?_) (λa o' vs e=>?_) (λa vs e=>?_) (λa u' hu' e=>?_) mm h
 .rw[af (k1 a vs e)];exact e
 .rw[af (k2 a o' vs e)];exact e
 .rw[af (k3 a vs e)];exact e
 .by_cases ha:a=d
  .subst ha;rcases e with e|⟨o',e⟩
   .rw[hd]at e;cases e;exact .inr ⟨o,ag⟩
   .rw[hd]at e;cases e;exact hu.elim
  .exact jb e λo' q=>by rw[af ha];exact q
theorem IsAll.mH:∀{ds:List D}{vs:List V}{P:D->V->Prop},(∀x v,Is H m x v->Is H' m' x v)->IsAll H m ds vs->IsAll H' m' ds vs
 |[],_,_,_,h=>h
 |d::ds,_,P,f,h=>by obtain⟨v,r,e,h1,h2⟩:=h;exact⟨v,r,e,f _ _ h1,IsAll.mH (P:=P) f h2⟩
def pM(s:Same (aC H1 d (.az o u)) H')(hrd:H1 d=some u):Same H1 (aC H' d u):=λa x e=>by
 by_cases ha:a=d
 .subst ha;rw[hrd]at e;cases e;exact ag
 .rw[af ha];exact s a x (by rw[af ha];exact e)
def tY(rep:Rep g M ρ env σ H1)(hrd:H1 d=some u):∀x,g.H₀ d=some x->x=u:=λx e=>by have:=rep.same d x e;rw[hrd]at this;cases this;rfl
end
def pN(hd:H d=some (.az o u)):Walk (Fh d o u kvs) m H (kvs.map λp=>kD p.1):=by
 refine⟨λH' i x k e=>?_,λH' k=>⟨k d _ hd (.inr True.intro),by simp⟩⟩;have hi:i<kvs.length:=by have:=(bE.mp e).1;simpa using this
 refine⟨⟨k d _ hd (.inr True.intro),hi⟩,λy H'' z=>?_⟩;obtain⟨rfl,k',v,ek,rfl⟩:=z;rw[ol,ek]at e;cases e;exact⟨Same.refl _,xj k'⟩
def Bj(n:Nat)(caps:List Nat)(asg:D->Bool->En->Option En)(ft:En->Res Bool)(fe:En->Res R)(env:En)(r:R):Res R:=match r.d with
 |.bp ks _=>match gh ks with
  |some xs=>if xs.length<=lim/\r.al=[]then(match cF (λd=>asg d true (dS env n caps)) ft fe xs with
   |.ok full=>if D.ba (full.map R.d)then .ok (.new (full.map R.d) true)else .stuck
   |_=>.stuck)else .stuck
  |none=>.stuck
 |_=>.stuck
def vJ(n:Nat)(caps:List Nat)(f:En->Res R)(asg:D->Bool->En->Option En)(ft:En->Res Bool)(fe:En->Res R):En->Res R:=λenv=>(f env).bind (Bj n caps asg ft fe env)
def kI(h:Is H m (.bp ks ds) v)(hk:∀k∈ks,∃a,k=.inl a):∃d kvs u,v=.ref d/\m d/\(u=.dK kvs\/(u=.dT []/\kvs=[]))/\Rd H d u/\ks=kvs.map (λp=>.inl p.1)/\IsAll H m ds (kvs.map Prod.snd):=by
 obtain⟨d,vs,rfl,⟨dat,md⟩,hall⟩:=h;rcases dat with⟨kvs,e,rfl,rfl⟩|⟨kvs,e,rfl,rfl⟩
 .exact⟨d,kvs,_,rfl,md,.inl rfl,e,rfl,hall⟩
 .cases kvs with
  |nil=>exact⟨d,[],_,rfl,md,.inr ⟨rfl,rfl⟩,e,rfl,hall⟩
  |cons p r=>obtain⟨a,ea⟩:=hk (.inr p.1) (by simp);cases ea
theorem jH:∀{ks:List DK}{xs:List D},gh ks=some xs->∀k∈ks,∃a,k=.inl a
 |[],_,_,k,h=>by cases h
 |.inl a::r,_,e,k,h=>by
  unfold gh at e;obtain⟨y,e1,_⟩:=N_.mp e;rcases j5.mp h with h|h
  .exact⟨a,h⟩
  .exact jH e1 k h
 |.inr _::_,_,e,_,_=>by cases e
section
def nP(hc:X.calm=true)(S:bm X scope tN capN caps)(hi:PD X E iter f)(hix:∀j∈ix,j<tN.length)(hg:∀cl C s3 H3 fp,yR (aS X scope (tN++capN) cl C s3 H3 fp) ix tg asg)(ht:∀cl C s3 H3 fp,qS (aS X scope (tN++capN) cl C s3 H3 fp) E0 ifs ft)(he:∀cl C s3 H3 fp,PD (aS X scope (tN++capN) cl C s3 H3 fp) E0 elt fe)
 (hs:autoParam (∀x,foldedSetIterable iter X.env x=pure x) RI):PD X E (.ListComp elt [⟨tg,iter,ifs,0⟩] scope pos) (vJ tN.length caps f asg ft fe):=by
 obtain⟨tl,p1,s1⟩:=hi;refine⟨_,Hz (t:=tL X scope tg tN capN caps elt ifs (J2 X tl)) λaa s σ H Q I h=>tI hc S I (wA p1) h hs,λg M ρ env σ H Q rep p=>?_⟩;refine s1.fH rep p λr v M1 H1 e1 rep1 is q=>?_;unfold Bj at q;cases qd:r.d with
 |bp ks ds=>
  rw[qd]at q is;dsimp only at q;cases qk:gh ks with
  |none=>rw[qk]at q;exact q.elim
  |some xs=>
   rw[qk]at q;dsimp only at q;by_cases hcon:xs.length<=lim/\r.al=[]
   .rw[ck hcon]at q;obtain⟨hlim,hal⟩:=hcon;cases qc:cF (λd=>asg d true (dS env tN.length caps)) ft fe xs with
    |stuck=>rw[qc]at q;exact q.elim
    |exc c=>rw[qc]at q;exact q.elim
    |ok full=>
     rw[qc]at q;dsimp only at q;by_cases hfl:D.ba (full.map R.d)=true
     .rw[ck hfl]at q;obtain⟨d,kvs,u,rfl,md,hu,hrd,rfl,hall⟩:=kI is (jH qk);have md:M1 d:=by rw[hal]at md;exact md.nil.1
      have gs:fE u:=by rcases hu with rfl|⟨rfl,_⟩<;>exact True.intro
      have ex:xs=kvs.map λp=>kD p.1:=jG qk;have mk:gP (full.map R.d) (aR full) ([]++caps.filter (bW env))=.new (full.map R.d) true:=by unfold gP;rw[ck hfl]
      refine⟨d,kvs,u,rfl,hu,?_⟩;rcases hrd with hrd|⟨o,hrd⟩
      .right;refine⟨hrd,λo hnf=>gd (g:=dU g d o u) (E:=E) (s:=⟨xs,true,[]⟩) hix hg ht he (rep1.oh hrd gs md) (by rw[ex];exact pN ag) hlim qc ?_⟩;rw[mk];intro v M' H' e rep' ro;have hd':H' d=some (.az o u):=e.h _ _ ag;have rep3:=rep'.rM hd' gs (e.m d md) (tY rep1 hrd);refine .inr ⟨d,o,u,hd',gs,hnf,q v M' _ ⟨e.m,pM e.h hrd,λa z=>?_⟩ rep3 ?_⟩
       .refine(e.n a z).imp id λw=>?_;by_cases ha:a=d
        .subst ha;rw[ag]at w;cases w
        .rw[af ha]at w;exact w
       .obtain⟨a,vs,rfl,h1,h2,h3,h4,h5⟩:=ro;have na:a≠d:=λz=>by subst z;rw[hd']at h1;cases h1
        refine⟨a,vs,rfl,by rw[af na];exact h1,h2,by rw[af na]at h3;exact h3,h4,?_⟩;exact IsAll.mH (P:=λ_ _=>True) (λx w=>Is.LO hd' gs λ_ z=>z) (IsAll.flat (m':=dc g M' true) hfl h5)
      .left;refine⟨o,hrd,gd (g:=g) (E:=E) (s:=⟨xs,true,[]⟩) hix hg ht he rep1 (by rw[ex];exact pN hrd) hlim qc ?_⟩;rw[mk];exact λv M' H' e rep' ro=>.inl (q v M' H' e rep' ro)
     .rw[cO hfl]at q;exact q.elim
   .rw[cO hcon]at q;exact q.elim
 |_=>rw[qd]at q;exact q.elim
def dW(n:Nat)(caps:List Nat)(f:En->Res R)(asg:D->Bool->En->Option En)(ft:En->Res Bool)(fe:En->Res R):En->Res R:=λenv=>if Bi (f env)then vJ n caps f asg ft fe env else d8 n caps (g5 f) asg ft fe env
def nQ(h1:PD X E e (d8 n caps (g5 f) asg ft fe))(h2:PD X E e (vJ n caps f asg ft fe)):PD X E e (dW n caps f asg ft fe):=by
 obtain⟨t1,p1,s1⟩:=h1;obtain⟨t2,p2,s2⟩:=h2;refine⟨λσ H Q=>t1 σ H Q\/t2 σ H Q,λaa s σ H Q I h=>h.elim (p1 aa s σ H Q I) (p2 aa s σ H Q I),λg M ρ env σ H Q rep p=>?_⟩;unfold dW at p;split at p
 .exact .inr (s2 g M ρ env σ H Q rep p)
 .exact .inl (s1 g M ρ env σ H Q rep p)
end
open Classical in
section
def Rep.change(rep:Rep g M ρ env σ H)(hj:j<env.length)(ev:σ[j]?=some (some v))(kp:∀b o,H b=some o->¬ρ j b->H' b=some o)(ht:∀b,T' b->(ρ j b\/H b=none)/\Mu H' b)(hz:∀b,ρ j b->H' b≠none)(is:Is H' T' x v) :
 g7 M H M H'/\Rep g M (nv ρ j T') (env.set j (some (.cw x))) σ H':=by
 have nM:∀b,M b->¬ρ j b:=λb h z=>(rep.aT j b z).1 h;have nF:∀b o,H b=some o->dE o->¬ρ j b:=λb o e hf z=>by obtain⟨_,_,u,e2,hm⟩:=rep.aT j b z;rw[e]at e2;cases e2;cases o<;>first|exact hf|exact hm
 have kM:∀b o,H b=some o->(M b\/dE o)->H' b=some o:=λb o e z=>kp b o e (z.elim (nM b) (nF b o e));have kR:∀k,k≠j->∀b o,H b=some o->(ρ k b\/dE o)->H' b=some o:=λk hk b o e z=>kp b o e (z.elim (λz w=>hk (rep.apart k j b z w)) (nF b o e));refine⟨⟨λ_ z=>z,kM⟩,λb o e=>?_,λb hb e=>?_,rep.pZ,λb hb h0=>?_,λk sl e=>?_,λk b h=>?_,λk l b h1 h2=>?_,λk b h=>?_,by rw[OQ];exact rep.len,λb z e=>?_⟩
 .exact kp b o (rep.same b o e) λz=>by rw[(rep.aT j b z).2.1]at e;cases e
 .cases q:H b with
  |none=>exact rep.fI b hb q
  |some o=>rw[kM b o q (.inl hb)]at e;cases e
 .exact(rep.fl b hb h0).same λo e=>kM b o e (.inl hb)
 .by_cases hk:k=j
  .subst hk;rw[i7 hj]at e;cases e;exact⟨v,ev,by rw[b9];exact is⟩
  .rw[eG (Oz hk)]at e;obtain⟨w,ew,k1⟩:=rep.slot k sl e;refine⟨w,ew,?_⟩;rw[bh hk];cases sl with
   |val d fr=>exact Is.mono (λb o e z=>kM b o e (z.imp (·.1) id)) (λ_ _ _ z=>z) k1
   |own ds fr=>obtain⟨b,ws,rfl,h1,h2,h4⟩:=k1;exact⟨b,ws,rfl,kR k hk b _ h1 (.inl ((h2 b).mpr rfl)),h2,IsAll.mono (λb o e z=>kM b o e (z.imp (·.1) id)) (λ_ _ _ z=>z) h4⟩
   |cw d=>exact Is.mono (λb o e z=>kR k hk b o e z) (λ_ _ _ z=>z) k1
   |fD ks=>exact jw (λb o e z=>kR k hk b o e z) k1
   |ya d=>exact IsSh.mono (λb o e z=>kM b o e (.inr z)) (λb us z e=>⟨us,kR k hk b _ e (.inl z)⟩) (λ_ z=>z) k1
 .by_cases hk:k=j
  .subst hk;rw[b9]at h;obtain⟨h1,h2⟩:=ht b h;rcases h1 with h1|h1
   .exact⟨(rep.aT k b h1).1,(rep.aT k b h1).2.1,h2⟩
   .exact⟨λz=>rep.fI b z h1,rep.same.free h1,h2⟩
  .rw[bh hk]at h;obtain⟨h1,h2,u,h3,h4⟩:=rep.aT k b h;exact⟨h1,h2,u,kR k hk b u h3 (.inl h),h4⟩
 .have key:∀l,l≠j->T' b->ρ l b->False:=λl hl z w=>by
   rcases(ht b z).1 with h|h
   .exact hl (rep.apart l j b w h)
   .exact(rep.aT l b w).2.2.some h
  by_cases hk:k=j
  .by_cases hl:l=j
   .rw[hk,hl]
   .subst hk;rw[b9]at h1;rw[bh hl]at h2;exact(key l hl h1 h2).elim
  .by_cases hl:l=j
   .subst hl;rw[b9]at h2;rw[bh hk]at h1;exact(key k hk h2 h1).elim
   .rw[bh hk]at h1;rw[bh hl]at h2;exact rep.apart k l b h1 h2
 .unfold bW;by_cases hk:k=j
  .subst hk;rw[i7 hj];rfl
  .rw[bh hk]at h;rw[eG (Oz hk)];exact rep.ow k b h
 .by_cases hr:ρ j b
  .exact hz b hr e
  .cases q:H b with
   |none=>exact rep.zz b z q
   |some o=>rw[kp b o q hr]at e;cases e
end
section
def kJ:List R->Res R
 |[r]=>match r.d with
  |.bp ks _=>match gh ks with
   |some xs=>if xs.length<=lim then .ok (.new xs true)else .stuck
   |none=>.stuck
  |_=>tE [r]
 |_=>.stuck
theorem tZ:∀(kvs:List (bu×V)),IsAll H m (kvs.map λp=>kD p.1) (kvs.map λp=>kV p.1)
 |[]=>rfl
 |p::r=>⟨_,_,rfl,xj p.1,tZ r⟩
def t4(hc:X.calm=true):iV X E (.type "list") kJ:=by
 obtain⟨r0,c0,s0⟩:=DH (X:=X) (E:=E);refine⟨λxs H Q=>AE xs H Q\/r0 xs H Q,λaa s σ H xs us Q I r h=>h.elim (vy hc aa s σ H xs us Q I r) (c0 aa s σ H xs us Q I r),λg M ρ env σ H Q rs vs rep i p=>?_⟩;rcases rs with _|⟨r,_|_⟩
 .exact p.elim
 rotate_left
 .exact p.elim
 unfold kJ at p;dsimp only at p;split at p
 .rename_i ks ds q;cases qk:gh ks with
  |none=>rw[qk]at p;exact p.elim
  |some xs=>
   rw[qk]at p;dsimp only at p;by_cases hl:xs.length<=lim
   .rw[ck hl]at p;left;obtain⟨v,w,rfl,i1,i2⟩:=i;cases i2;have i1:Is H (vmsk g M (aR [r]) ρ (bK [r])) r.d v:=i1;rw[q]at i1;obtain⟨d,kvs,u,rfl,md,hu,hrd,rfl,hall⟩:=kI i1 (jH qk);have ex:xs=kvs.map λp=>kD p.1:=jG qk;subst ex;refine⟨d,kvs,u,rfl,hu,hrd,by rw[cM]at hl;exact eS hl,λl hl'=>p.new rep hl' (tZ kvs)⟩
   .rw[cO hl]at p;exact p.elim
 .exact .inr (s0 g M ρ env σ H Q [r] vs rep i p)
def ie(i:Nat)(f:En->Res R):En->Res Fl:=λenv=>(f env).bind λr=>if i<env.length then .ok (.nx ((az env r.al).set i (some (.val r.d r.fr))))else .stuck
def gk(hN:X.N.Nodup)(hi:X.N[i]?=some x)(hx:CG X.env.scope x)(h:PD X E e f)(hs:autoParam (swapsWith e (some (.Name x pos')) pos.line X.env=pure false) RJ)
 (hf:autoParam (X.fn x=true\/X.env.scope.names.lookup x=some .local) RH):lc X E (.Assign [.Name x pos'] e pos) (ie i f):=by
 obtain⟨t,p1,s1⟩:=h;refine⟨_,mM hN hi hx p1 hs hf,λg M ρ env σ H D rep p=>?_⟩;refine s1.iT rep p λr v M' H' e rep' ro p'=>?_;by_cases hi:i<env.length
 .rw[ck hi]at p';obtain⟨M2,x2,x2m,rep2,is2⟩:=ro.is rep' e rep.same;obtain⟨M3,ρ3,x3,rep3,o3,_,_⟩:=Rep.az r.al rep2;have rep4:=rep3.put (i:=i) (sl:=.val r.d r.fr) (T:=λ_=>False) (by rw[d_];exact hi) (Is.frozen rep2 x3 o3 is2) (λ_ z=>z.elim) λ_ z=>z.elim;exact p' _ M3 _ H' ⟨λa z=>x3 a (x2m a z),λ_ _ q _=>q⟩ rep4
 .rw[cO hi]at p';exact p'.elim
def qv(i:Nat)(hN:autoParam (X.N[i]?=some x) RJ)(hv:autoParam (Jx X.env.scope x) RD._auto_1)(hd:autoParam (dB x) ab)
 (hc:autoParam ((x==("__classdict__" : Str))=false) ab):PD X E (.Name x pos) (ah i):=qK (pv i hN hv hd hc)
def a_(hu:X.A.units+64<cLine)(h:PE X o (bY i)):PD X E (.Subscript o (.Constant (.int k) j pos') pos) (cB i (vC (.int k))):=vH (vD h aw (λ_ _=>rfl)) (qU hu (qK h) aw (λ_ _=>rfl))
end
end L3
namespace L2
open PySem PySem.Spec PyProof.Rows
section
noncomputable def MT:V->Option Int->Option Int->Hp->VK->Prop:=λx lo hi H Q=>∃z,x=.str z/\z.length<=sizeLine/\Q (.str (Txt.slice z lo hi)) H
def HB:SlR X MT:=by
 intro aa s σ H x v vl vu lo hi sl Q I rx hs pl pu h;obtain⟨z,rfl,hz,q⟩:=h;obtain⟨t,rfl⟩:=rx;obtain⟨o,e1,e2,e3⟩:=hs;refine⟨"str",_,slot_str_getitem.lookup,typeIs_str _ _ _,?_⟩;have fin:∀t' k,EP X aa σ Q (.str (Txt.slice z lo hi) t') {s with toks:=k}:=λt' k=>⟨.str _,H,I.tok _,⟨_,rfl⟩,q⟩;have hl:=lN (Txt.slice_le z lo hi) hz;cases pl with
 |none=>cases pu with
  |none=>exact PF (l:=none) (u:=none) (st:=none) ⟨o,e1,e2,e3⟩ rfl (Q5 ⟨hl,fin⟩)
  |int j u=>exact PF (l:=none) (u:=some (j,u)) (st:=none) ⟨o,e1,e2,e3⟩ rfl (Q5 ⟨hl,fin⟩)
 |int i t1=>cases pu with
  |none=>exact PF (l:=some (i,t1)) (u:=none) (st:=none) ⟨o,e1,e2,e3⟩ rfl (Q5 ⟨hl,fin⟩)
  |int j u=>exact PF (l:=some (i,t1)) (u:=some (j,u)) (st:=none) ⟨o,e1,e2,e3⟩ rfl (Q5 ⟨hl,fin⟩)
end
end L2
namespace L3
open PySem PySem.Spec PyProof.Rows L2
section
def lu(r:R)(lo hi:Option Int):Res R:=match r.d with
 |.lst xs=>.ok (gP (e_ xs lo hi) r.fr r.al)
 |.tup xs=>.ok (hI (.tup (e_ xs lo hi)) r.fr r.al)
 |.str z=>if z.length<=lim then .ok (.val (.str (Txt.slice z lo hi)) true [])else .stuck
 |_=>.stuck
def jI(fa:En->Res R)(fl fh:En->Res (Option Int)):En->Res R:=λenv=>(fa env).bind λr=>(fl env).bind λlo=>(fh env).bind λhi=>lu r lo hi
def kK{lo hi:Option Expr}{fa:En->Res R}{fl fh:En->Res (Option Int)}{p2 pos:Pos}(ha:PD X E e fa)(hl:Mg X E lo fl)(hh:Mg X E hi fh):PD X E (.Subscript e (.Slice lo hi none p2) pos) (jI fa fl fh):=by
 obtain⟨ta,p1,s1⟩:=ha;obtain⟨tl,p2,s2⟩:=hl;obtain⟨th,p3,s3⟩:=hh;refine⟨_,sk (sl_list.or (sl_tup.or (sl_tupW.or HB))) p1 p2 p3,λg M ρ env σ H Q rep p=>s1.fH rep p λr v M1 H1 e1 rep1 is q=>?_⟩;refine s2 g M1 ρ env σ H1 _ rep1 ?_;cases z1:fl env with
 |stuck=>rw[z1]at q;exact q
 |exc c=>rw[z1]at q;exact q
 |ok lo'=>
  rw[z1]at q;intro M2 H2 e2 rep2;have q2:PostE X.mg E g M2 ρ env σ H2 Q ((fh env).bind λhi=>lu r lo' hi):=PostE.ext e2 q;refine s3 g M2 ρ env σ H2 _ rep2 ?_;cases z2:fh env with
  |stuck=>rw[z2]at q2;exact q2
  |exc c=>rw[z2]at q2;exact q2
  |ok hi'=>
   rw[z2]at q2;intro M3 H3 e3 rep3;have q3:PostE X.mg E g M3 ρ env σ H3 Q (lu r lo' hi'):=PostE.ext e3 q2;have is3:=(is.ext e2).ext e3;unfold lu at q3;cases z:r.d with
   |lst xs=>rw[z]at q3 is3;obtain⟨a,vs,rfl,h1,h2⟩:=is3.rd;exact .inl ⟨a,vs,rfl,.inl h1,λp hp=>q3.lst rep3 hp (h2.cut lo' hi')⟩
   |tup xs=>
    rw[z]at q3 is3;have is4:=is3;obtain⟨a,vs,rfl,h1,h2⟩:=is3;by_cases hw:HT.sIx vs.length 0 lo'=0/\HT.sIx vs.length vs.length hi'=vs.length
    .have ec:e_ xs lo' hi'=xs:=by unfold e_;rw[<- h2.length,hw.1,hw.2,h2.length];simp
     dsimp only at q3;rw[ec]at q3;exact .inr (.inr (.inl ⟨a,vs,rfl,SqT.of h1,hw,q3.val rep3 is4⟩))
    .exact .inr (.inl ⟨a,vs,rfl,SqT.of h1,hw,λp hp=>q3.tup rep3 hp (h2.cut lo' hi')⟩)
   |str y=>
    rw[z]at q3 is3;dsimp only at q3;by_cases hw:y.length<=lim
    .rw[ck hw]at q3;cases is3;exact .inr (.inr (.inr ⟨y,rfl,eS hw,q3 _ M3 H3 (Ext.refl _ _) rep3 rfl⟩))
    .rw[cO hw]at q3;exact q3.elim
   |_=>rw[z]at q3;exact q3.elim
end
section
def xl(a b:Str):Prop:=0<b.length/\a.length<=100000/\(Txt.split a b).length<=100000/\(Builtin.Str.partsBetween a (Builtin.Str.occurrences a b 0 a.length (a.length+1)) b.length).length<=100000
instance (a b:Str):Decidable (xl a b):=by unfold xl;infer_instance
end
open Classical in
section
def sq{kvs:List (bu×V)}(h:dQ kvs k=none):cU kvs k y=kvs++[(k,y)]:=by unfold cU;rw[jg,h,cO (by simp)]
end
section
open Classical in
end
section
variable{X:Cx}{E:XK}
def iW(hc:X.calm=true)(hu:X.A.units+64<cLine)(h:PD X E e f)
 (hg1:Gl X x1) (hm1:X.mg x1=none) (hv1:bootBuiltins x1=some (.builtin "sorted")) (hg2:Gl X x2) (hm2:X.mg x2=none) (hv2:bootBuiltins x2=some (.type "set"))
 (hn1:autoParam (x1≠"__name__") ab) (hdb1:autoParam (dB x1) ab) (hn2:autoParam (x2≠"__name__") ab) (hdb2:autoParam (dB x2) ab)
 (he2:autoParam (starEach [e] X.env=(false,eval e X.env)::starEach [] X.env) RJ) (hpl2:autoParam (bT X pos2 []) RJ)
 (he1:autoParam (starEach [.Call (.Name x2 p2) [e] [] pos2] X.env=(false,eval (.Call (.Name x2 p2) [e] [] pos2) X.env)::starEach [] X.env) RJ) (hpl1:autoParam (bT X pos1 []) RJ) :
 PD X E (.Call (.Name x1 p1) [.Call (.Name x2 p2) [e] [] pos2] [] pos1) (DW f):=oK (cN _) GZ hc hu h hg1 hm1 hv1 hg2 hm2 hv2 hn1 hdb1 hn2 hdb2 he2 hpl2 he1 hpl1
end
noncomputable def nR(k:Int):List Int->List Int
 |[]=>[k]
 |h::t=>if k=h then h::t else if k<h then k::h::t else h::nR k t
def di:List Int->List Int
 |[]=>[]
 |k::ks=>nR k (di ks)
def zb(r:R):Res R:=match r.d with
 |.lst ds=>match ia ds with
  |some is=>if is.length<=63 then .ok (.new ((di is).map .int) true)else .stuck
  |none=>.stuck
 |_=>.stuck
def D0(f:En->Res R):En->Res R:=λenv=>(f env).bind zb
theorem nS(k x:Int):∀l,x∈nR k l↔x=k\/x∈l
 |[]=>by simp[nR]
 |h::t=>by
  unfold nR;split
  .rename_i e;subst e;simp
  .split
   .simp
   .rw[j5,nS k x t,j5]
    grind
theorem xm(k:Int):∀l:List Int,l.Pairwise (·< ·)->(nR k l).Pairwise (·< ·)
 |[],_=>by simp[nR]
 |h::t,p=>by
  have p':=Ob.mp p;unfold nR;split
  .exact p
  .split
   .rename_i h1 h2;refine Ob.mpr ⟨λx hx=>?_,p⟩
    grind
   .rename_i h1 h2;refine Ob.mpr ⟨λx hx=>?_,xm k t p'.2⟩
    grind [nS]
theorem gm(x:Int):∀ks,x∈di ks↔x∈ks
 |[]=>Iff.rfl
 |k::ks=>by unfold di;rw[nS,gm x ks,j5]
theorem jJ:∀ks,(di ks).Pairwise (·< ·)
 |[]=>List.Pairwise.nil
 |k::ks=>by unfold di;exact xm k _ (jJ ks)
theorem ig:∀(a b:List Int),a.Pairwise (·< ·)->b.Pairwise (·< ·)->(∀x,x∈a↔x∈b)->a=b
 |[],[],_,_,_=>rfl
 |[],y::b,_,_,h=>by have:=(h y).mpr (by simp);cases this
 |x::a,[],_,_,h=>by have:=(h x).mp (by simp);cases this
 |x::a,y::b,pa,pb,h=>by
  have pa':=Ob.mp pa;have pb':=Ob.mp pb;have e:x=y:=by
   have h1:=(h x).mp (by simp);have h2:=(h y).mpr (by simp)
   grind
  subst e;rw[ig a b pa'.2 pb'.2 λz=>?_]
  grind
section
def iX(hc:X.calm=true)(h:PD X E e f)
 (hg1:Gl X x1) (hm1:X.mg x1=none) (hv1:bootBuiltins x1=some (.builtin "sorted")) (hg2:Gl X x2) (hm2:X.mg x2=none) (hv2:bootBuiltins x2=some (.type "set"))
 (hn1:autoParam (x1≠"__name__") ab) (hdb1:autoParam (dB x1) ab) (hn2:autoParam (x2≠"__name__") ab) (hdb2:autoParam (dB x2) ab)
 (he2:autoParam (starEach [e] X.env=(false,eval e X.env)::starEach [] X.env) RJ) (hpl2:autoParam (bT X pos2 []) RJ)
 (he1:autoParam (starEach [.Call (.Name x2 p2) [e] [] pos2] X.env=(false,eval (.Call (.Name x2 p2) [e] [] pos2) X.env)::starEach [] X.env) RJ) (hpl1:autoParam (bT X pos1 []) RJ) :
 PD X E (.Call (.Name x1 p1) [.Call (.Name x2 p2) [e] [] pos2] [] pos1) (D0 f):=by
 obtain⟨t,p1,s1⟩:=h;refine⟨_,f6 (oE hc) hg1 hm1 hv1 (aI (kf (vp hc) hg2 hm2 hv2 (aI p1 bR he2) hn2 hdb2 he2 hpl2) bR he1) hn1 hdb1 he1 hpl1,λg M ρ env σ H Q rep p=>?_⟩;refine s1.fH rep p λr v M1 H1 e1 rep1 i1 q1=>?_;unfold zb at q1;cases qd:r.d with
 |lst ds=>
  rw[qd]at q1 i1;dsimp only at q1;cases qt:ia ds with
  |none=>rw[qt]at q1;exact q1.elim
  |some is=>
   rw[qt]at q1;dsimp only at q1;by_cases hl:is.length<=63
   .rw[ck hl]at q1;obtain⟨a,vs,rfl,h1,h2⟩:=i1.rd;have hv:vs=is.map V.int:=by rw[IsAll.ints h2 qt];unfold iK;rw[v9];rfl
    rw[hv]at h1;refine⟨a,is,rfl,h1,by lia,λb es its hb ei v=>?_⟩;rw[<- ei,cM]at hl;refine⟨b,es,its,rfl,ag,v,hl,λl ks hl2 hm hw=>?_⟩;rw[ei]at hm;have hlb:l≠b:=λz=>by rw[z,ag]at hl2;cases hl2
    have hl1:H1 l=none:=by rw[af hlb]at hl2;exact hl2
    have sm1:Same H1 (aC H1 b (.ext λh=>SetAt X.w h b es)):=aK hb;have sm2:Same (aC H1 b (.ext λh=>SetAt X.w h b es)) (aC (aC H1 b (.ext λh=>SetAt X.w h b es)) l (.lst (ks.map V.int))):=aK hl2;have sm:=sm1.trans sm2;obtain⟨z0,zm,zo⟩:=rep1.free hl1;refine q1 _ M1 _ ⟨λ_ z=>z,sm,λ_ z=>.inl z⟩ (rep1.grow sm) ⟨l,_,rfl,ag,zm,hl1,zo,?_⟩
    grind [di,ig,jJ,gm,jc]
   .rw[cO hl]at q1;exact q1.elim
 |_=>rw[qd]at q1;exact q1.elim
end
noncomputable abbrev IP:=Int×Int
noncomputable def dp(l:List IP)(x:IP):List IP:=if x∈l then l else l++[x]
def h1(ts:List bO):List IP:=(ts.map λt=>(t.1,t.2.1)).foldl dp []
noncomputable def pk(p:IP):List bu:=[.inl p.1,.inl p.2]
def cC(ts:List bO):D:=.bp ((h1 ts).map λp=>.inr (pk p)) ((h1 ts).map λp=>.lst ((g3 ts p.1 p.2).map .int))
def vK(h:pk p=pk q):p=q:=by unfold pk at h;simp only[List.cons.injEq,Sum.inl.injEq,and_true]at h;exact Q7 h.1 h.2
def vL(l:List IP)(x y:IP):y∈dp l x↔y∈l\/y=x:=by
 unfold dp;split
 .rename_i h;exact⟨.inl,λz=>z.elim id λe=>e▸h⟩
 .simp
def mD(ts:List bO)(x y z:Int):h1 (ts++[(x,y,z)])=dp (h1 ts) (x,y):=by unfold h1;rw[N4,P7];rfl
theorem xn(y:IP):∀(xs:List IP)(l:List IP),y∈xs.foldl dp l↔y∈l\/y∈xs
 |[],l=>by simp
 |x::xs,l=>by rw[O2,xn y xs,vL,j5,or_assoc]
def HC(ts:List bO)(p:IP):p∈h1 ts↔∃t∈ts,t.1=p.1/\t.2.1=p.2:=by
 unfold h1;rw[xn,j3];constructor
 .rintro (h|⟨t,h1,h2⟩)
  .simp at h
  .exact⟨t,h1,by rw[<- h2],by rw[<- h2]⟩
 .rintro⟨t,h1,h2,h3⟩;exact .inr ⟨t,h1,Q7 h2 h3⟩
def xo(h:(x,y)∉h1 ts):g3 ts x y=[]:=by unfold g3;rw[List.map_eq_nil_iff,List.filter_eq_nil_iff];intro t ht z;simp only[Of,O0]at z;exact h ((HC ts (x,y)).mpr ⟨t,ht,z.1,z.2⟩)
def HD(l:List IP)(x:IP):(dp l x).length<=l.length+1:=by unfold dp;split<;>simp
theorem xp:∀(xs l:List IP),(xs.foldl dp l).length<=l.length+xs.length
 |[],l=>by simp
 |x::xs,l=>by rw[O2];have:=xp xs (dp l x);have h2:=HD l x;simp only[lO];lia
def HE(ts:List bO):(h1 ts).length<=ts.length:=by unfold h1;have:=xp (ts.map λt=>(t.1,t.2.1)) [];simpa using this
def uJ(l:List IP)(A:IP->Addr):List (List bu×V):=l.map λx=>(pk x,.ref (A x))
def xq(l:List IP)(A:IP->Addr)(x:IP):dQ (uJ l A) (pk x)=if x∈l then some (.ref (A x))else none:=by
 induction l with
 |nil=>rfl
 |cons y l ih=>
  unfold uJ at ih ⊢;rw[fV];by_cases h:y=x
  .rw[f7 (by rw[h]),ck (by grind),h]
  .rw[f9 (by intro z;exact h (vK z)),ih];by_cases hx:x∈l
   .rw[ck hx,ck (CF _ hx)]
   .rw[cO hx,cO];intro z;rcases j5.mp z with z|z
    .exact h z.symm
    .exact hx z
def D1(h:x∉l):cU (uJ l A) (pk x) (.ref b)=uJ (l++[x]) (λu=>if u=x then b else A u):=by
 have e:uJ l (λu=>if u=x then b else A u)=uJ l A:=by unfold uJ;refine Ot λu hu=>?_;show(_:List bu×V)=_;dsimp only;rw[cO (show ¬u=x from λz=>h (by grind))]
 unfold cU;rw[cO]
 .show _=uJ (l++[x]) _;unfold uJ at e ⊢;rw[N4,e];simp
 .intro z;obtain⟨p,hp,hq⟩:=PN.mp z;obtain⟨u,hu,rfl⟩:=j3.mp hp;have:pk u=pk x:=P5 hq;exact h (vK this▸hu)
structure Gp(H:Hp) (a:Addr) (ts:List bO) (A:IP->Addr):Prop where
 root:H a=some (.dT (uJ (h1 ts) A))\/(h1 ts=[]/\H a=some (.dK []))
 leaf:∀p∈h1 ts,H (A p)=some (.lst ((g3 ts p.1 p.2).map .int))
 d2:∀p∈h1 ts,∀q∈h1 ts,A p=A q->p=q
def zd(a:Addr)(ts:List bO)(A:IP->Addr)(b:Addr):Prop:=b=a\/∃p∈h1 ts,b=A p
section
variable{H:Hp}{a:Addr}{ts:List bO}{A:IP->Addr}{x y z:Int}
def Gp.old(G:Gp H a ts A)(hx:(x,y)∈h1 ts)(hm:H' (A (x,y))=some (.lst ((g3 ts x y++[z]).map .int)))(kp:∀c u,H c=some u->c≠A (x,y)->H' c=some u):Gp H' a (ts++[(x,y,z)]) A:=by
 have e1:h1 (ts++[(x,y,z)])=h1 ts:=by rw[mD];unfold dp;rw[ck hx]
 have hl:=G.leaf _ hx;have na:a≠A (x,y):=λe=>by
  rcases G.root with q|⟨q,_⟩
  .rw[e,hl]at q;cases q
  .rw[q]at hx;simp at hx
 refine⟨?_,λp hp=>?_,by rw[e1];exact G.d2⟩
 .rw[e1];rcases G.root with q|⟨q,_⟩
  .exact .inl (kp a _ q na)
  .rw[q]at hx;simp at hx
 .rw[e1]at hp;rw[xk];by_cases h:x=p.1/\y=p.2
  .obtain rfl:(x,y)=p:=Q7 h.1 h.2;rw[ck ⟨rfl,rfl⟩];exact hm
  .rw[cO h];exact kp _ _ (G.leaf p hp) λe=>h (by rw[G.d2 p hp _ hx e];exact⟨rfl,rfl⟩)
def Gp.fresh(G:Gp H a ts A)(hx:(x,y)∉h1 ts)(hl:H l=none)(hm:H' l=some (.lst [.int z]))(ha:H' a=some (.dT (uJ (h1 ts++[(x,y)]) λu=>if u=(x,y)then l else A u)))
 (kp:∀c u,H c=some u->c≠a->H' c=some u):Gp H' a (ts++[(x,y,z)]) (λu=>if u=(x,y)then l else A u):=by
 have e1:h1 (ts++[(x,y,z)])=h1 ts++[(x,y)]:=by rw[mD];unfold dp;rw[cO hx]
 have old:∀p,p∈h1 (ts++[(x,y,z)])->p≠(x,y)->p∈h1 ts:=λp hp hn=>by
  rw[e1]at hp;rcases gZ.mp hp with q|q
  .exact q
  .exact(hn (by simpa using q)).elim
 have nl:∀p∈h1 ts,A p≠l:=λp hp e=>by have:=G.leaf p hp;rw[e,hl]at this;cases this
 refine⟨.inl (by rw[e1];exact ha),λp hp=>?_,λp hp q hq e=>?_⟩
 .rw[xk];by_cases h:p=(x,y)
  .subst h;rw[ck rfl,ck ⟨rfl,rfl⟩,xo hx];exact hm
  .rw[cO h,cO (λq=>h (Q7 q.1.symm q.2.symm))];refine kp _ _ (G.leaf p (old p hp h)) λe=>?_;have:=G.leaf p (old p hp h);rcases G.root with q|⟨_,q⟩<;>(rw[e,q]at this;cases this)
 .try dsimp only at e
  by_cases h:p=(x,y)<;>by_cases h':q=(x,y)
  .exact h.trans h'.symm
  .rw[ck h,cO h']at e;exact(nl q (old q hq h') e.symm).elim
  .rw[cO h,ck h']at e;exact(nl p (old p hp h) e).elim
  .rw[cO h,cO h']at e;exact G.d2 p (old p hp h) q (old q hq h') e
end
theorem nT:∀{l:List IP},(∀x∈l,Is H m (F x) (G x))->IsAll H m (l.map F) (l.map G)
 |[],_=>rfl
 |x::l,h=>⟨_,_,rfl,h x uB,nT λy hy=>h y (CF _ hy)⟩
def Gp.is(G:Gp H a ts A):Is H (zd a ts A) (cC ts) (.ref a):=by
 refine⟨a,(h1 ts).map λx=>.ref (A x),rfl,⟨?_,.inl rfl⟩,nT λp hp=>⟨A p,_,rfl,.inl ⟨G.leaf p hp,.inr ⟨p,hp,rfl⟩⟩,nO _⟩⟩;rcases G.root with q|⟨q,e⟩
 .exact .inr ⟨_,.inl q,by unfold uJ;rw[v9];rfl,by unfold uJ;rw[v9];rfl⟩
 .rw[q];exact .inl ⟨[],.inl e,rfl,rfl⟩
def ze(i r1 r2 r3:Nat)(env:En)(r:R):Res Fl:=match r.d with
 |.lst ds=>match ic ds with
  |some ts=>if ts.length<=1000/\¬i∈r.al/\i≠r1/\i≠r2/\i≠r3/\r1≠r2/\r1≠r3/\r2≠r3/\r1<env.length/\r2<env.length/\r3<env.length then
   .ok (.nx (((((az env r.al).set r1 none).set r2 none).set r3 none).set i (some (.cw (cC ts)))))else .stuck
  |none=>.stuck
 |_=>.stuck
def Bk(i r1 r2 r3:Nat)(f:En->Res R):En->Res Fl:=λenv=>match env[i]? with
 |some (some (.cw (.bp [] [])))=>(f env).bind (ze i r1 r2 r3 env)
 |_=>.stuck
def HF(K:Rx)(i r1 r2 r3:Nat):TE:=LY K "list" ww (LY K "dict" vq (bY i) (cE (zY (cE (bY r1) (cE (bY r2) kc))) (cE (JR kc) kc))) (cE (bY r3) kc)
def Bl{K:Rx}{H:Hp}{a:Addr}{A:IP->Addr}{C:Hp->Prop}(G:Gp H a ts A)(hl:ts.length<=1000)
 (hi:σ[i]?=some (some (.ref a))) (e1:σ[r1]?=some (some (.int x))) (e2:σ[r2]?=some (some (.int y))) (e3:σ[r3]?=some (some (.int z)))
 (k:∀H' A',Gp H' a (ts++[(x,y,z)]) A'->(∀b u,H b=some u->¬zd a ts A b->H' b=some u)->(∀b,zd a (ts++[(x,y,z)]) A' b->zd a ts A b\/H b=none)->C H') :
 HF K i r1 r2 r3 σ H λ_ H'=>C H':=by
 have sz:∀n,n<=1000->n<sizeLine:=λn h=>ku (by unfold lim;lia);have han:H a≠none:=by rcases G.root with q|⟨_,q⟩<;>(rw[q];simp)
 have tya:MD K "dict" (.ref a) H:=.inr (.inr (.inl ⟨rfl,G.root.symm.imp (λ⟨_,q⟩=>⟨_,q⟩) λq=>⟨_,q⟩⟩));refine⟨.ref a,hi,tya,.int x,e1,.int y,e2,Ou (sz 2 (by lia)),λb hb=>⟨N3 _,λl hl'=>?_⟩⟩;have nba:a≠b:=λe=>han (by rw[e];exact hb);have kb:∀c u,H c=some u->aC H b (.tup [.int x,.int y]) c=some u:=λc u e=>by rw[af (aD e hb)];exact e
 have hlH:H l=none:=(aK hb).free hl';have nbl:b≠l:=λe=>by rw[<- e,ag]at hl';cases hl'
 have kl:∀c u,H c=some u->aC (aC H b (.tup [.int x,.int y])) l (.lst []) c=some u:=λc u e=>by rw[af (aD e hlH)];exact kb c u e
 have nal:a≠l:=λe=>han (by rw[e];exact hlH);refine⟨a,b,pk (x,y),.ref l,uJ (h1 ts) A,rfl,rfl,by rw[af nbl,ag];rfl,?_,sz _ (by unfold uJ;rw[cM];exact lN (HE ts) hl),?_⟩
 .rcases G.root with q|⟨e,q⟩
  .exact .inl (kl _ _ q)
  .exact .inr ⟨kl _ _ q,by rw[e];rfl⟩
 by_cases hx:(x,y)∈h1 ts
 .left;have hm:=G.leaf _ hx;refine⟨.ref (A (x,y)),by rw[xq,ck hx],.inl ⟨rfl,_,SqL.of (kl _ _ hm)⟩,.int z,e3,A (x,y),_,.int z,rfl,rfl,kl _ _ hm,sz _ (by rw[cM];exact lN (Bh ts x y) hl),?_⟩;have G':=G.old (z:=z) hx (H':=aC (aC (aC H b (.tup [.int x,.int y])) l (.lst [])) (A (x,y)) (.lst ((g3 ts x y).map .int++[.int z]))) (by rw[ag,N4];rfl) (λc u e hn=>by rw[af hn];exact kl c u e);refine k _ A G' (λc u e hn=>?_) λc hc=>?_
  .rw[af (λq=>hn (.inr ⟨_,hx,q⟩))];exact kl c u e
  .left;rcases hc with q|⟨p,hp,q⟩
   .exact .inl q
   .rw[mD,vL]at hp;exact .inr ⟨p,hp.elim id λe=>e▸hx,q⟩
 .right;refine⟨by rw[xq,cO hx],.inl ⟨rfl,[],SqL.of ?_⟩,.int z,e3,l,[],.int z,rfl,rfl,?_,by simp[Od],?_⟩
  .rw[af (Oz nal),ag]
  .rw[af (Oz nal),ag]
  .have G':=G.fresh (z:=z) hx hlH (H':=aC (aC (aC (aC H b (.tup [.int x,.int y])) l (.lst [])) a (.dT (cU (uJ (h1 ts) A) (pk (x,y)) (.ref l)))) l (.lst ([]++[.int z]))) ag (by rw[af nal,ag,D1 hx])
    (λc u e hn=>by rw[af (aD e hlH),af hn];exact kl c u e)
   refine k _ _ G' (λc u e hn=>?_) λc hc=>?_
   .rw[af (aD e hlH),af (λq=>hn (.inl q))];exact kl c u e
   .rcases hc with q|⟨p,hp,q⟩
    .exact .inl (.inl q)
    .by_cases h:p=(x,y)
     .dsimp only at q;rw[ck h]at q;exact .inr (by rw[q];exact hlH)
     .dsimp only at q;rw[cO h]at q;rw[mD,vL]at hp;exact .inl (.inr ⟨p,hp.resolve_right h,q⟩)
section
variable{X:Cx}{E:XK}{tg:Expr}
def D2(hp:PassesOwn (model X.prog X.w) X.A X.env X.xe)(hc:X.calm=true)(hl:PD X E l f)
 (hg:PG X tg (CV X.K 3 (jf (d7 r1) (jf (d7 r2) (jf (d7 r3) CU))))) (hb:PSs X body (zM (HF X.K i r1 r2 r3))) (hs:autoParam (∀x,foldedSetIterable l X.env x=pure x) RI):lc X E (.For tg l body [] pos) (Bk i r1 r2 r3 f):=by
 obtain⟨tl,p1,s1⟩:=hl;refine⟨_,p_ hp hc (AY p1) hg hb hs,λg M ρ env σ H D rep p=>?_⟩;unfold Bk at p;split at p
 .rename_i hq;refine s1.iT rep p λr v M0 H1 e1 rep0 ro p0=>?_;obtain⟨M1,x1,x1m,rep1,is1⟩:=ro.is rep0 e1 rep.same;unfold ze at p0;cases qd:r.d with
  |lst ds=>
   rw[qd]at p0;dsimp only at p0;cases qt:ic ds with
   |none=>rw[qt]at p0;exact p0.elim
   |some ts=>
    rw[qt]at p0;dsimp only at p0;by_cases hcond:ts.length<=1000/\¬i∈r.al/\i≠r1/\i≠r2/\i≠r3/\r1≠r2/\r1≠r3/\r2≠r3/\r1<env.length/\r2<env.length/\r3<env.length
    .rw[ck hcond]at p0;obtain⟨bN,hal,ni1,ni2,ni3,n12,n13,n23,l1,l2,l3⟩:=hcond;obtain⟨M2,ρ2,x2,rep2,o2,_,_⟩:=Rep.az r.al rep1;have is2:Is H1 (dc g M2 r.fr) r.d v:=Is.frozen rep1 x2 o2 is1;have p2:=PostS.az (⟨λa z=>x2 a (x1m a z),λ_ _ q _=>q⟩ : g7 M0 H1 M2 H1) p0;clear p0;rw[qd]at is2;have hq2:(az env r.al)[i]?=some (some (.cw (.bp [] []))):=by rw[qO _ hal];exact hq
     have hi:i<(az env r.al).length:=(bE.mp hq2).1;obtain⟨va,ev,ka⟩:=rep2.slot i _ hq2;have ka:Is H1 (ρ2 i) (.bp [] []) va:=ka;obtain⟨a,ws,rfl,⟨dat,pa⟩,hw⟩:=ka;obtain⟨nMa,a0,muA⟩:=rep2.aT i a pa;have nofz:∀o u,H1 a≠some (.az o u):=λo u z=>by obtain⟨uo,q,qm⟩:=muA;rw[z]at q;cases q;exact qm
     have rootA:H1 a=some (.dK [])\/H1 a=some (.dT []):=by
      rcases dat with⟨kvs,e|⟨o,e⟩,h1,_⟩|⟨kvs,e|⟨o,e⟩,h1,_⟩
      .left;have:kvs=[]:=by simpa using h1.symm
       rw[this]at e;exact e
      .exact(nofz _ _ e).elim
      .right;have:kvs=[]:=by simpa using h1.symm
       rw[this]at e;exact e
      .exact(nofz _ _ e).elim
     have notA:∀c u,H1 c=some u->(∀k,u≠.dK k)->(∀k,u≠.dT k)->c≠a:=λc u e n1 n2 z=>by
      subst z;rcases rootA with q|q<;>(rw[q]at e;cases e)
      .exact n1 _ rfl
      .exact n2 _ rfl
     obtain⟨la,vs,rfl,hla,hall⟩:=is2;have lists:Rd H1 la (.lst vs):=hla.imp (·.1) λ⟨o,z,_⟩=>⟨o,z⟩;have nla:la≠a:=by
      rcases hla with⟨q,_⟩|⟨o,q,_⟩
      .exact notA la _ q (λ_ z=>nomatch z) λ_ z=>nomatch z
      .exact notA la _ q (λ_ z=>nomatch z) λ_ z=>nomatch z
     have hvl:vs.length=ts.length:=by rw[hall.length];exact pL qt
     let Pv:Nat->St->Hp->Prop:=λj σ' H'=>σ'.length=σ.length/\(∀n,n≠r1->n≠r2->n≠r3->σ'[n]?=σ[n]?)/\(∀c u,H1 c=some u->c≠a->H' c=some u)/\∃A,Gp H' a (ts.take j) A/\∀c,zd a (ts.take j) A c->c=a\/H1 c=none
     have P0:Pv 0 σ H1:=by
      refine⟨rfl,λ_ _ _ _=>rfl,λ_ _ e _=>e,λ_=>0,?_,?_⟩
      .rw[QF];exact⟨rootA.symm.imp (λq=>by exact q) λq=>⟨rfl,q⟩,λx hx=>(by cases hx),λx hx=>(by cases hx)⟩
      .rw[QF];rintro c (h|⟨x,hx,_⟩)
       .exact .inl h
       .cases hx
     have sql:∀σ' H' j,Pv j σ' H'->SqL X.K H' la vs:=λσ' H' j z=>.inl (jb lists λo e=>z.2.2.1 la o e nla);refine⟨la,rfl,.inl ⟨⟨vs,.inl lists⟩,zS (K:=X.K) (a:=la) (xs:=vs) Pv P0 (λj σ' H' _ z=>sql σ' H' j z) (λj v σ' H' ex z=>?_) λσ' H' z=>?_⟩⟩
     .obtain⟨z1,z2,z3,A,G,tin⟩:=z;obtain⟨x,y,w,pj,et,rfl,hpj⟩:=tW hall qt ex;have hj:j<ts.length:=(bE.mp et).1;have npj:pj≠a:=notA pj _ hpj (λ_ z=>nomatch z) λ_ z=>nomatch z;have htk:ts.take (j+1)=ts.take j++[(x,y,w)]:=by
       have e2:ts[j]=(x,y,w):=by rw[Ol hj]at et;exact Oi et
       rw[<- e2,List.take_append_getElem]
      have hlσ:σ'.length=(az env r.al).length:=by rw[z1,rep2.len]
      have b1:r1<σ'.length:=by rw[hlσ,d_];exact l1
      have b2:r2<σ'.length:=by rw[hlσ,d_];exact l2
      have b3:r3<σ'.length:=by rw[hlσ,d_];exact l3
      refine⟨pj,_,rfl,SqT.of (z3 pj _ hpj npj),rfl,_,_,rfl,_,_,rfl,_,_,rfl,rfl,?_⟩;show zM (HF X.K i r1 r2 r3) _ (((σ'.set r1 (some (.int x))).set r2 (some (.int y))).set r3 (some (.int w))) H';have get:∀n,n≠r1->n≠r2->n≠r3->(((σ'.set r1 (some (.int x))).set r2 (some (.int y))).set r3 (some (.int w)))[n]?=σ'[n]?:=λn a1 a2 a3=>by rw[eG (Oz a3),eG (Oz a2),eG (Oz a1)]
      refine Bl G (lN (by rw[N5];lia) bN) (x:=x) (y:=y) (z:=w) ?_ ?_ ?_ ?_ λH2 A' G' kp dn=>?_
      .rw[get i ni1 ni2 ni3,z2 i ni1 ni2 ni3];exact ev
      .rw[eG (Oz n13),eG (Oz n12),i7 b1]
      .rw[eG (Oz n23),i7 (by rw[OQ];exact b2)]
      .rw[i7 (by rw[OQ,OQ];exact b3)]
      .refine⟨by simp[z1],λn a1 a2 a3=>(get n a1 a2 a3).trans (z2 n a1 a2 a3),λc u e hn=>?_,A',by rw[htk];exact G',λc hc=>?_⟩
       .refine kp c u (z3 c u e hn) λq=>?_;rcases tin c q with q|q
        .exact hn q
        .rw[e]at q;cases q
       .rw[htk]at hc;rcases dn c hc with q|q
        .exact tin c q
        .by_cases hca:c=a
         .exact .inl hca
         .right;cases e:H1 c with
          |none=>rfl
          |some u=>rw[z3 c u e hca]at q;cases q
     .obtain⟨z1,z2,z3,A,G,tin⟩:=z;rw[hvl,Ru]at G tin;have kM:∀c u,H1 c=some u->(M2 c\/dE u)->H' c=some u:=λc u e q=>z3 c u e λz=>by
       subst z;rcases q with q|q
       .exact nMa q
       .rcases rootA with w|w<;>(rw[w]at e;cases e;exact q)
      have kR:∀j,j≠i->∀c u,H1 c=some u->(ρ2 j c\/dE u)->H' c=some u:=λj hj c u e q=>z3 c u e λz=>by
       subst z;rcases q with q|q
       .exact hj (rep2.apart j i _ q pa)
       .rcases rootA with w|w<;>(rw[w]at e;cases e;exact q)
      have muT:∀c,zd a ts A c->Mu H' c:=λc hc=>by
       rcases hc with rfl|⟨x,hx,rfl⟩
       .rcases G.root with q|⟨_,q⟩<;>exact⟨_,q,True.intro⟩
       .exact⟨_,G.leaf x hx,True.intro⟩
      refine p2 σ' M2 (λj c=>if j=i then zd a ts A c else if j=r1\/j=r2\/j=r3 then False else ρ2 j c) H' ⟨λ_ z=>z,kM⟩ ?_;have rho:∀j c,(if j=i then zd a ts A c else if j=r1\/j=r2\/j=r3 then False else ρ2 j c)->(j=i/\zd a ts A c)\/(j≠i/\¬(j=r1\/j=r2\/j=r3)/\ρ2 j c):=λj c h=>by
       by_cases hj:j=i
       .rw[ck hj]at h;exact .inl ⟨hj,h⟩
       .rw[cO hj]at h;by_cases hr:j=r1\/j=r2\/j=r3
        .rw[ck hr]at h;exact h.elim
        .rw[cO hr]at h;exact .inr ⟨hj,hr,h⟩
      have fresh:∀c,zd a ts A c->¬M2 c/\g.H₀ c=none/\∀j,j≠i->¬ρ2 j c:=λc hc=>by
       rcases tin c hc with q|q
       .subst q;exact⟨nMa,a0,λj hj w=>hj (rep2.apart j i _ w pa)⟩
       .exact⟨λw=>rep2.fI c w q,rep2.same.free q,λj _ w=>(rep2.aT j c w).2.2.some q⟩
      have envs:∀j,j≠i->∀sl,(((((az env r.al).set r1 none).set r2 none).set r3 none).set i (some (.cw (cC ts))))[j]?=some (some sl)->¬(j=r1\/j=r2\/j=r3)/\(az env r.al)[j]?=some (some sl):=λj hj sl e=>by
       rw[eG (Oz hj)]at e;by_cases h3:j=r3
       .subst h3;rw[i7 (by simp[d_];exact l3)]at e;cases e
       .rw[eG (Oz h3)]at e;by_cases h2:j=r2
        .subst h2;rw[i7 (by simp[d_];exact l2)]at e;cases e
        .rw[eG (Oz h2)]at e;by_cases h1:j=r1
         .subst h1;rw[i7 (by simp[d_];exact l1)]at e;cases e
         .rw[eG (Oz h1)]at e;exact⟨λz=>z.elim h1 λz=>z.elim h2 h3,e⟩
      refine⟨λc u e=>?_,λc hm e=>?_,rep2.pZ,λc hm h0=>?_,λj sl ej=>?_,λj c w=>?_,λj k c w1 w2=>?_,λj c w=>?_,by simp[z1,rep2.len],λc zc e=>?_⟩
      .exact z3 c u (rep2.same c u e) λz=>by rw[z,a0]at e;cases e
      .cases q:H1 c with
       |none=>exact rep2.fI c hm q
       |some u=>rw[kM c u q (.inl hm)]at e;cases e
      .exact(rep2.fl c hm h0).same λo e=>kM c o e (.inl hm)
      .by_cases hj:j=i
       .subst hj;rw[i7 (by simpa using hi)]at ej;cases ej;refine⟨.ref a,by rw[z2 j ni1 ni2 ni3];exact ev,?_⟩;rw[show(λc=>if j=j then zd a ts A c else if j=r1\/j=r2\/j=r3 then False else ρ2 j c)=zd a ts A by funext c;rw[ck rfl]];exact G.is
       .obtain⟨hr,ej'⟩:=envs j hj sl ej;obtain⟨v',ev',k2⟩:=rep2.slot j sl ej';refine⟨v',by rw[z2 j (λz=>hr (.inl z)) (λz=>hr (.inr (.inl z))) (λz=>hr (.inr (.inr z)))];exact ev',?_⟩;rw[show(λc=>if j=i then zd a ts A c else if j=r1\/j=r2\/j=r3 then False else ρ2 j c)=ρ2 j by funext c;rw[cO hj,cO hr]];cases sl with
        |val d f=>exact Is.mono (λc u e z=>kM c u e (z.imp (·.1) id)) (λ_ _ _ z=>z) k2
        |own ds' f=>obtain⟨c,us,rfl,q1,q2,q3⟩:=k2;exact⟨c,us,rfl,kR j hj c _ q1 (.inl ((q2 c).mpr rfl)),q2,IsAll.mono (λc u e z=>kM c u e (z.imp (·.1) id)) (λ_ _ _ z=>z) q3⟩
        |cw d=>exact Is.mono (λc u e z=>kR j hj c u e z) (λ_ _ _ z=>z) k2
        |fD ks=>exact jw (λc u e z=>kR j hj c u e z) k2
        |ya d=>exact IsSh.mono (λc u e z=>kM c u e (.inr z)) (λc us z e=>⟨us,kR j hj c _ e (.inl z)⟩) (λ_ z=>z) k2
      .rcases rho j c w with⟨rfl,q⟩|⟨hj,hr,q⟩
       .exact⟨(fresh c q).1,(fresh c q).2.1,muT c q⟩
       .obtain⟨q1,q2,uo,q3,qm⟩:=rep2.aT j c q;exact⟨q1,q2,uo,kR j hj c _ q3 (.inl q),qm⟩
      .rcases rho j c w1 with⟨rfl,q⟩|⟨hj,hr,q⟩<;>rcases rho k c w2 with⟨rfl,q'⟩|⟨hk,hr',q'⟩
       .rfl
       .exact((fresh c q).2.2 k hk q').elim
       .exact((fresh c q').2.2 j hj q).elim
       .exact rep2.apart j k c q q'
      .unfold bW;rcases rho j c w with⟨rfl,q⟩|⟨hj,hr,q⟩
       .rw[i7 (by simpa using hi)];rfl
       .have:=rep2.ow j c q;unfold bW at this;rw[eG (Oz hj),eG (λz=>hr (.inr (.inr z.symm))),eG (λz=>hr (.inr (.inl z.symm))),eG (λz=>hr (.inl z.symm))];exact this
      .cases q:H1 c with
       |none=>exact rep2.zz c zc q
       |some u=>
        by_cases hca:c=a
        .subst hca;exact(muT c (.inl rfl)).some e
        .rw[z3 c u q hca]at e;cases e
    .rw[cO hcond]at p0;exact p0.elim
  |_=>rw[qd]at p0;exact p0.elim
 .exact p.elim
end
end L3
namespace L2
open PySem PySem.Spec PySem.Calls PyProof.Rows
section
def call_lenD:CallR X (.builtin "len") (λxs H Q=>∃(d:Addr)(kvs:List (bu×V))(u:HO),xs=[.ref d]/\(u=.dK kvs\/(u=.dT []/\kvs=[]))/\Rd H d u/\kvs.length<=sizeLine/\Q (.int kvs.length) H):=by
 intro aa s σ H xs us Q I r h;obtain⟨d,kvs,u,rfl,hu,hrd,hz,q⟩:=h;obtain⟨w,rfl,rx⟩:=eJ r;cases rx;have hx:=hrd.ok I.aG;have key:(d==sysModules)=false/\∃vs,KV kvs vs/\s.heap.DictOf (aq X.prog X.w) d vs:=by
  rcases hu with rfl|⟨rfl,rfl⟩
  .obtain⟨z,hd,vs,rel,dd⟩:=hx;exact⟨hd,vs,rel,dd⟩
  .obtain⟨hd,dd⟩:=mR hx;exact⟨hd,[],.nil,dd⟩
 obtain⟨hd,vs,rel,dd⟩:=key;refine call_len_dict hd dd (by rw[<- rel.length];rw[Od]at hz;lia) ?_;exact⟨.int kvs.length,H,I.tok _,⟨_,by rw[rel.length]⟩,q⟩
end
end L2
namespace L3
open PySem PySem.Spec PyProof.Rows L2
section
def cX:List R->Res R
 |[r]=>match r.d with
  |.bp ks _=>match gh ks with
   |some xs=>if ks.length<=lim then .ok (.val (.int ks.length) true [])else .stuck
   |none=>.stuck
  |_=>AX [r]
 |_=>.stuck
def eh:iV X E (.builtin "len") cX:=by
 obtain⟨r0,c0,s0⟩:=Hi (X:=X) (E:=E);refine⟨_,call_lenD.or c0,λg M ρ env σ H Q rs vs rep i p=>?_⟩
 match rs,i,p with
 |[r],i,p=>
  unfold cX at p;dsimp only at p;split at p
  .rename_i ks ds q;cases qk:gh ks with
   |none=>rw[qk]at p;exact p.elim
   |some xs=>
    rw[qk]at p;dsimp only at p;by_cases hl:ks.length<=lim
    .rw[ck hl]at p;left;obtain⟨v,w,rfl,i1,i2⟩:=i;cases i2;have i1:Is H (vmsk g M (aR [r]) ρ (bK [r])) r.d v:=i1;rw[q]at i1;obtain⟨d,kvs,u,rfl,md,hu,hrd,rfl,hall⟩:=kI i1 (jH qk);rw[cM]at hl p;exact⟨d,kvs,u,rfl,hu,hrd,eS hl,p _ M H (Ext.refl _ _) rep rfl⟩
    .rw[cO hl]at p;exact p.elim
  .exact .inr (s0 g M ρ env σ H Q [r] vs rep i p)
 |[],_,p=>exact p.elim
 |_::_::_,_,p=>exact p.elim
end
section
variable{X:Cx}{E:XK}
def Bm(i:Nat)(n:Int)(env:En)(r:R):Res Fl:=match r.d with
 |.int m=>if i<env.length then .ok (.nx (put env i (.val (.int (n+m)) true [])))else .stuck
 |_=>.stuck
def zf(i:Nat)(f:En->Res R):En->Res Fl:=λenv=>match env[i]? with
 |some (some (.val (.int n) _))=>(f env).bind (Bm i n env)
 |_=>.stuck
def D6(hN:X.N.Nodup)(hi:X.N[i]?=some x)(hx:CG X.env.scope x)(h:PD X E e f)
 (hf:autoParam (X.fn x=true\/X.env.scope.names.lookup x=some .local) RH):lc X E (.AugAssign (.Name x pos') .Add e pos) (zf i f):=by
 obtain⟨t,p1,s1⟩:=h;refine⟨_,Gs hN hi hx p1 Gu hf,λg M ρ env σ H D rep p=>?_⟩;unfold zf at p;split at p
 .rename_i n fr hq;obtain⟨va,ev,ka⟩:=rep.slot i _ hq;cases(show va=.int n from ka);refine⟨.int n,ev,s1.iT rep p λr v M1 H1 e1 rep1 ro p1=>?_⟩;unfold Bm at p1;cases qd:r.d with
  |int m=>
   rw[qd]at p1;dsimp only at p1;have hv:v=.int m:=by have:=ro.flatIs (by rw[qd];rfl);rw[qd]at this;exact this
   subst hv;by_cases hi:i<env.length
   .rw[ck hi]at p1;obtain⟨M2,ρ2,e2,rep2⟩:=rep1.store (r:=.val (.int (n+m)) true []) (v:=.int (n+m)) rep.same hi rfl;exact⟨n,m,rfl,rfl,p1 _ M2 ρ2 H1 e2 rep2⟩
   .rw[cO hi]at p1;exact p1.elim
  |_=>rw[qd]at p1;exact p1.elim
 .exact p.elim
end
def gR:List D->Option (List K0)
 |[]=>some []
 |.int i::r=>(gR r).map (.inl i::·)
 |.tup l::r=>(ia l).bind λx=>(gR r).map (.inr x::·)
 |_=>none
def qY:D->Option (List K0)
 |.tup ds=>gR ds
 |_=>none
section
variable{H:Hp}{m:Addr->Prop}
theorem IsAll.gR:∀{ds:List D}{vs:List V}{k:List K0},IsAll H m ds vs->L3.gR ds=some k->NVs H k vs
 |[],_,_,h,e=>by cases e;exact h
 |.int i::r,_,_,⟨v,rs,e1,h1,h2⟩,e=>by obtain⟨l,hl,rfl⟩:=N_.mp (show(L3.gR r).map (.inl i::·)=some _ from e);exact⟨rs,by rw[e1,show v=.int i from h1],IsAll.gR h2 hl⟩
 |.tup l::r,_,_,⟨v,rs,e1,h1,h2⟩,e=>by obtain⟨x,hx,e⟩:=Option.bind_eq_some_iff.mp (show(ia l).bind (λx=>(L3.gR r).map (.inr x::·))=some _ from e);obtain⟨q,hq,rfl⟩:=N_.mp e;obtain⟨c,us,e2,hc,hl⟩:=h1;exact⟨c,rs,by rw[e1,e2],by rw[hc,IsAll.ints hl hx,v9];rfl,IsAll.gR h2 hq⟩
 |.fU::_,_,_,_,e=>by cases e
 |.bl _::_,_,_,_,e=>by cases e
 |.str _::_,_,_,_,e=>by cases e
 |.lst _::_,_,_,_,e=>by cases e
 |.bp _ _::_,_,_,_,e=>by cases e
theorem Is.qY(h:Is H m d v)(e:L3.qY d=some k):∃b,v=.ref b/\KeyN H k b:=by
 cases d with
 |tup ds=>obtain⟨b,vs,rfl,hb,hl⟩:=h;exact⟨b,rfl,vs,hb,IsAll.gR hl e⟩
 |_=>cases e
end
section
variable{X:Cx}{E:XK}
noncomputable def pO(i:Nat):En->Res Fl:=λenv=>if i<env.length then .ok (.nx (env.set i (some (.fD []))))else .stuck
def t5(hN:X.N.Nodup)(hi:X.N[i]?=some x)(hx:CG X.env.scope x)(hs:autoParam (swapsWith (.Dict [] [] pos2) (some (.Name x pos')) pos.line X.env=pure false) RJ)
 (hf:autoParam (X.fn x=true\/X.env.scope.names.lookup x=some .local) RH):lc X E (.Assign [.Name x pos'] (.Dict [] [] pos2) pos) (pO i):=by
 refine⟨_,mM hN hi hx AO hs hf,λg M ρ env σ H D rep p=>λq hq hm=>?_⟩;unfold pO at p;by_cases hl:i<env.length
 .rw[ck hl]at p;have s:Same H (aC H q (.ext (qE q []))):=aK hq;obtain⟨h0,h1,h2⟩:=rep.free hq;exact p _ M _ _ ⟨λ_ z=>z,λa o e _=>s a o e⟩ ((rep.grow s).put (sl:=.fD []) (T:=λb=>b=q) hl ⟨q,[],rfl,ag,λ_=>Iff.rfl,hm,by simp,rfl,λx hx=>nomatch hx⟩ λb e=>by subst e;exact⟨h1,h0,⟨_,ag,True.intro⟩,λj _=>h2 j⟩)
 .rw[cO hl]at p;exact p.elim
def HG(i:Nat)(env:En)(r:R):Res R:=match env[i]?,qY r.d with
 |some (some (.fD ks)),some k=>.ok (.val (.bl (oF ks k)) true [])
 |_,_=>.stuck
def t7(i:Nat)(f:En->Res R):En->Res R:=λenv=>(f env).bind (HG i env)
def Bn(hu:X.A.units+64<cLine):OpR X (compareOp .In) Ko:=by intro aa s σ H x y v u Q I rx ry h;obtain⟨a,b,xs,k,rfl,rfl,e1,e2,e3,e4,q⟩:=h;cases rx;cases ry;exact Kl (by lia) I e1 e2 e3 e4 λs' I'=>⟨.bl _,H,I',rfl,q⟩
def xr(s1:Snd X.mg E t f):Snd X.mg E (uN Ko t (bY i)) (t7 i f):=by
 intro g M ρ env σ H Q rep p;refine s1.fH rep p λr v M1 H1 e1 rep1 is1 p1=>?_;unfold HG at p1;cases q1:env[i]? with
 |none=>rw[q1]at p1;exact p1.elim
 |some o=>
  cases o with
  |none=>rw[q1]at p1;exact p1.elim
  |some sl=>
   rw[q1]at p1;cases sl with
   |fD ks=>
    cases q2:qY r.d with
    |none=>rw[q2]at p1;exact p1.elim
    |some k=>rw[q2]at p1;obtain⟨b,rfl,hk⟩:=is1.qY q2;obtain⟨va,ev,a,xs,rfl,h1,h2,h3,h4,h5,h6⟩:=rep1.slot i _ q1;subst h5;exact⟨_,ev,a,b,xs,k,rfl,rfl,h1,h3,h6,hk,p1 _ M1 H1 (Ext.refl _ _) rep1 rfl⟩
   |_=>exact p1.elim
def HH(hu:X.A.units+64<cLine)(ha:PD X E a f)(hb:PE X b (bY i))(hm:behindInMarks .In b=false):PD X E (.Compare a [.In] [b] pos) (t7 i f):=by obtain⟨t,p1,s1⟩:=ha;exact⟨_,wf (Bn hu) p1 hb hm,xr s1⟩
def HI(hu:X.A.units+64<cLine)(ha:PD X E a f)(hb:PE X b (bY i))(hm:behindInMarks .In b=false):zJ X E (.Compare a [.In] [b] pos) (vB (t7 i f)):=by
 obtain⟨t,p1,s1⟩:=ha;refine⟨_,qf (Bn hu) p1 hb hm,λg M ρ env σ H Q rep p=>(xr s1).wc rep p λr v M' H' e rep' i p'=>?_⟩;cases q:r.d with
 |bl b=>rw[q]at i;simp only[q]at p';cases i;exact⟨b,rfl,p' M' H' (Ext.refl _ _) rep'⟩
 |_=>simp only[q]at p';exact p'.elim
def Bo(i:Nat)(env:En)(ks:List (List K0))(r:R):Res Fl:=match qY r.d with
 |some k=>if ks.length<lim then .ok (.nx (env.set i (some (.fD (yN ks k)))))else .stuck
 |none=>.stuck
def nU(i:Nat)(fk fv:En->Res R):En->Res Fl:=λenv=>match env[i]? with
 |some (some (.fD ks))=>(fv env).bind λ_=>(fk env).bind (Bo i env ks)
 |_=>.stuck
def jK(hu:X.A.units+64<cLine)(ho:PE X o (bY i))(hk:PD X E ki fk)(hv:PD X E value fv)
 (hs:autoParam (swapsWith value (some (.Subscript o ki pos')) pos.line X.env=pure false) RJ):lc X E (.Assign [.Subscript o ki pos'] value pos) (nU i fk fv):=by
 obtain⟨tk,p1,s1⟩:=hk;obtain⟨tv,p2,s2⟩:=hv;refine⟨_,DB (by lia) ho p1 p2 hs,λg M ρ env σ H D rep p=>?_⟩;unfold nU at p;split at p
 .rename_i ks q1;refine s2.iT rep p λr v M1 H1 e1 rep1 ro p1=>?_;obtain⟨M1',x1,x1m,rep1',is1⟩:=ro.is rep1 e1 rep.same;obtain⟨va,ev,_⟩:=rep1'.slot i _ q1;refine⟨va,ev,s1.iT rep1' (PostS.az ⟨x1m,λ_ _ q _=>q⟩ p1) λrk y M2 H2 e2 rep2 rok p2=>?_⟩;obtain⟨M2',x2,x2m,rep2',is2⟩:=rok.is rep2 e2 rep1'.same;unfold Bo at p2;cases q2:qY rk.d with
  |none=>rw[q2]at p2;exact p2.elim
  |some k=>
   rw[q2]at p2;dsimp only at p2;by_cases hl:ks.length<lim
   .rw[ck hl]at p2;obtain⟨b,rfl,hk⟩:=is2.qY q2;obtain⟨va',ev',a,xs,rfl,h1,h2,h3,h4,h5,h6⟩:=rep2'.slot i _ q1;rw[ev]at ev';cases ev';subst h5;have hi:i<env.length:=(bE.mp q1).1;refine⟨a,b,xs,k,rfl,rfl,h1,h4,h6,hk,λr=>?_⟩;have kt:∀c vs,H2 c=some (.tup vs)->aC H2 a (.ext (qE a (kr xs k b r))) c=some (.tup vs):=λc vs e=>by rw[af (rX e h1 λz=>nomatch z)];exact e
    have hz:(kr xs k b r).length<=sizeLine:=by have:=AN xs k b r;rw[cM]at hl;have:=ku hl;lia
    obtain⟨f1,rep3⟩:=rep2'.wa (u':=.ext (qE a (kr xs k b r))) True.intro ((h2 a).mpr rfl) hi ev (sl:=.fD (yN (xs.map (·.1)) k)) ⟨a,_,rfl,ag,h2,h3,hz,(yO xs k b r).symm,AM (λx hx=>(h6 x hx).mono kt) (hk.mono kt)⟩;exact p2 σ M2' ρ _ (g7.trans ⟨x2m,λ_ _ q _=>q⟩ f1) rep3
   .rw[cO hl]at p2;exact p2.elim
 .exact p.elim
end
def dq{K KK:Rx}{mg:Str->Option Rz}{x:Str}{st:Stmt}{ps:List Str}{f:Addr}{oc:Rz}{od an:Option Addr}{osl:Array (Option Rz)}{kV doc pm cdv ct:Rz}(U:wb K KK)
 (l:K.lookup f=some ⟨oc,od,.func (fnOf x x (aY st) (aO st) (ao st) .none kV doc pm an cdv ct),osl⟩) (c:codeIn K cdv x=true) (g:mg x=some (.ref f))
 (h:∀(kV doc pm:Rz)(an:Option Addr)(cdv ct:Rz)(us:List Rz),us.length=ps.length->bindArgs (fnOf x x (aY st) (aO st) (ao st) .none kV doc pm an cdv ct) ⟨us,[]⟩=pure (ps.zip us)) :
 Fn KK mg x st ps f (fnOf x x (aY st) (aO st) (ao st) .none kV doc pm an cdv ct):=
 have F:F_ KK x x st f _:=GM (U.look _ _ l (λ_ _ z=>nomatch z)) (U.code c) (U.keep l)
 ⟨F,F.binds h,g⟩
section
def bf{st:Stmt}(G:cS X.prog X.w X.K X.mg X.base CX k f fd ps (tB X.mg ps.length F))(hr:gC k X.A)(hg:Gl X x)(h:Fn X.K X.mg x st ps f fd)(hx:ke CX X E)
 (ha:AS X E (e::es) fs) (hl:∀env rs,fs env=.ok rs->rs.length=ps.length) (hdb:autoParam (dB x) ab) (he:autoParam (sE X e es) RJ) (hpl:autoParam (bT X pos es) RJ) :
 PD X E (.Call (.Name x p) (e::es) [] pos) (cn F fs):=DG G hr hg h.gl h.fu.kp h.bi hx ha hl hdb he hpl
end
def lY:List DK->List D->Option (List D)
 |[],[]=>some []
 |.inr k::r,x::ds=>(lY r ds).map (.tup [.tup (k.map kD),x]::·)
 |_,_=>none
theorem t8:∀{kvs:List (List bu×V)}{ds xs:List D},lY (kvs.map λp=>.inr p.1) ds=some xs->xs.length=kvs.length/\∀(i:Nat)(x:D),xs[i]?=some x->∃p y,kvs[i]?=some p/\ds[i]?=some y/\x=.tup [.tup (p.1.map kD),y]
 |[],[],_,e=>by cases e;exact⟨rfl,λi x e=>by simp at e⟩
 |[],_::_,_,e=>by cases e
 |_::_,[],_,e=>by cases e
 |p::r,y::ds,xs,e=>by
  rw[fV]at e;unfold lY at e;obtain⟨ys,e1,rfl⟩:=N_.mp e;obtain⟨l,f⟩:=t8 e1;refine⟨by simp[l],λi x ex=>?_⟩;cases i with
  |zero=>simp at ex;subst ex;exact⟨p,y,rfl,rfl,rfl⟩
  |succ i=>obtain⟨p',y',a,b,c⟩:=f i x (by simpa using ex);exact⟨p',y',by simpa using a,by simpa using b,c⟩
theorem Bp:∀(k:List bu),IsAll H m (k.map kD) (k.map kV)
 |[]=>rfl
 |x::k=>⟨_,_,rfl,xj x,Bp k⟩
def lw(hd:H d=some (.az o u))(is:IsAll H m ds (kvs.map Prod.snd))(e0:lY (kvs.map λp=>.inr p.1) ds=some xs):Walk (Ki d o u kvs) m H xs:=by
 obtain⟨l,f⟩:=t8 e0;refine⟨λH' i x k e=>?_,λH' k=>⟨k d _ hd (.inr True.intro),by rw[l];exact cN _⟩⟩;have hi:i<kvs.length:=by rw[<- l];exact(bE.mp e).1
 refine⟨⟨k d _ hd (.inr True.intro),hi⟩,λy H'' z=>?_⟩;obtain⟨p,b,k',v,hp,rfl,hb,rfl,ek⟩:=z;obtain⟨q,w,e1,e2,rfl⟩:=f i x e;rw[ek]at e1;cases e1;have s:Same H' (aC H' p (.tup [.ref b,v])):=aK hp;obtain⟨v',ev,iv⟩:=(is.mono k λ_ _ _ z=>z:IsAll H' m ds (kvs.map Prod.snd)).get e2;rw[ol,ek]at ev;cases ev;exact⟨s,p,_,rfl,ag,_,_,rfl,⟨b,_,rfl,s _ _ hb,Bp k'⟩,_,_,rfl,iv.same s,rfl⟩
def vM(h:Is H m (.bp ks ds) v)(hk:∀k∈ks,∃a,k=.inr a):∃d kvs u,v=.ref d/\m d/\(u=.dT kvs\/(u=.dK []/\kvs=[]))/\Rd H d u/\ks=kvs.map (λp=>.inr p.1)/\IsAll H m ds (kvs.map Prod.snd):=by
 obtain⟨d,vs,rfl,⟨dat,md⟩,hall⟩:=h;rcases dat with⟨kvs,e,rfl,rfl⟩|⟨kvs,e,rfl,rfl⟩
 .cases kvs with
  |nil=>exact⟨d,[],_,rfl,md,.inr ⟨rfl,rfl⟩,e,rfl,hall⟩
  |cons p r=>obtain⟨a,ea⟩:=hk (.inl p.1) (by simp);cases ea
 .exact⟨d,kvs,_,rfl,md,.inl rfl,e,rfl,hall⟩
theorem t9:∀{ks:List DK}{ds xs:List D},lY ks ds=some xs->∀k∈ks,∃a,k=.inr a
 |[],_,_,_,k,h=>by cases h
 |.inr a::r,x::ds,_,e,k,h=>by
  unfold lY at e;obtain⟨y,e1,_⟩:=N_.mp e;rcases j5.mp h with h|h
  .exact⟨a,h⟩
  .exact t9 e1 k h
 |.inr _::_,[],_,e,_,_=>by cases e
 |.inl _::_,_,_,e,_,_=>by simp[lY]at e
end L3
namespace L4
open PySem PySem.Spec PyProof.Rows L2 L3
def Reads(t:TE)(σ:L2.St)(H:Hp)(v:V):Prop:=∀Q:VK,Q v H->t σ H Q
def Makes(t:TE)(σ:L2.St)(H:Hp)(ws:List V):Prop:=∀Q:VK,(∀p,H p=none->Q (.ref p) (aC H p (.tup ws)))->t σ H Q
section
variable{K:Rx}
def Reads.va(h:σ[i]?=some (some v)):Reads (bY i) σ H v:=λ_ q=>⟨_,h,q⟩
def Reads.k:Reads (tC v) σ H v:=λ_ q=>q
def Reads.op(ha:Reads ta σ H x)(hb:Reads tb σ H y)(h:∀Q:VK,Q z H->r x y H Q):Reads (uN r ta tb) σ H z:=λQ q=>ha _ (hb _ (h Q q))
def Reads.ix(h:Reads ta σ H (.ref b))(hs:H b=some (.tup ws))(e:fJ ws n=some v):Reads (uN (C2 K) ta (tC (.int n))) σ H v:=h.op .k λ_ q=>⟨b,ws,n,v,rfl,rfl,SqT.of hs,e,q⟩
def ReadsA(t:TA)(σ:L2.St)(H:Hp)(vs:List V):Prop:=∀Q:List V->Hp->Prop,Q vs H->t σ H Q
def ReadsA.ni:ReadsA kc σ H []:=λ_ q=>q
def ReadsA.c(h:Reads ta σ H v)(k:ReadsA tr σ H vs):ReadsA (cE ta tr) σ H (v::vs):=λ_ q=>h _ (k _ q)
def Makes.t(h:ReadsA tr σ H ws)(l:Nat.ble ws.length 9=true):Makes (zY tr) σ H ws:=λ_ q=>h _ ⟨lN (Nat.le_of_ble_eq_true l) (by decide),q⟩
def NR{Q:L2.St->Hp->Prop}(ht:H b=some (.tup [v,w]))(k:Q ((σ.set i (some v)).set j (some w)) H):CV K 2 (jf (d7 i) (jf (d7 j) CU)) (.ref b) σ H Q:=⟨b,_,rfl,SqT.of ht,rfl,_,_,rfl,_,_,rfl,rfl,k⟩
end
end L4
namespace L3
open PySem PySem.Spec PyProof.Rows L2
def nV(n:Nat)(caps:List Nat)(asg:D->Bool->En->Option En)(ft:En->Res Bool)(fe:En->Res R)(env:En)(r:R):Res R:=match r.d with
 |.bp ks ds=>match lY ks ds with
  |some xs=>if xs.length<=lim/\r.al=[]/\D.ba ds=true then(match cF (λd=>asg d true (dS env n caps)) ft fe xs with
   |.ok full=>if D.ba (full.map R.d)then .ok (.new (full.map R.d) true)else .stuck
   |_=>.stuck)else .stuck
  |none=>.stuck
 |_=>.stuck
def nW(n:Nat)(caps:List Nat)(f:En->Res R)(asg:D->Bool->En->Option En)(ft:En->Res Bool)(fe:En->Res R):En->Res R:=λenv=>(f env).bind (nV n caps asg ft fe env)
section
variable{X:Cx}{E:XK}{scope:Scope}{es:List Expr}{k0:Nat}{iR apos cpos:Pos}{tN:List Str}{capN:List Str}{caps:List Nat}{ix:List Nat}{asg:D->Bool->En->Option En}{elt l:Expr}{pos:Pos}{ifs:List Expr}{f:En->Res R}{ft:En->Res Bool}{fe:En->Res R}
def zg{tl:TE}(s1:Snd X.mg E tl f)(hix:∀j∈ix,j<tN.length)(hg:∀cl C s3 H3 fp,yR (aS X scope (tN++capN) cl C s3 H3 fp) ix (.Tuple es k0 iR) asg)(ht:∀cl C s3 H3 fp,qS (aS X scope (tN++capN) cl C s3 H3 fp) E0 ifs ft)(he:∀cl C s3 H3 fp,PD (aS X scope (tN++capN) cl C s3 H3 fp) E0 elt fe) :
 Snd X.mg E (λσ H Q=>tL X scope (.Tuple es k0 iR) tN capN caps elt ifs (G1 X tl) σ H (MS X Q)) (nW tN.length caps f asg ft fe):=by
 intro g M ρ env σ H Q rep p;refine s1.fH rep p λr v M1 H1 e1 rep1 is q=>?_;unfold nV at q;cases qd:r.d with
 |bp ks ds=>
  rw[qd]at q is;dsimp only at q;cases qk:lY ks ds with
  |none=>rw[qk]at q;exact q.elim
  |some xs=>
   rw[qk]at q;dsimp only at q;by_cases hcon:xs.length<=lim/\r.al=[]/\D.ba ds=true
   .rw[ck hcon]at q;obtain⟨hlim,hal,hfd⟩:=hcon;cases qc:cF (λd=>asg d true (dS env tN.length caps)) ft fe xs with
    |stuck=>rw[qc]at q;exact q.elim
    |exc c=>rw[qc]at q;exact q.elim
    |ok full=>
     rw[qc]at q;dsimp only at q;by_cases hfl:D.ba (full.map R.d)=true
     .rw[ck hfl]at q;obtain⟨d,kvs,u,rfl,md,hu,hrd,rfl,hall⟩:=vM is (t9 qk);have md:M1 d:=by rw[hal]at md;exact md.nil.1
      have gs:fE u:=by rcases hu with rfl|⟨rfl,_⟩<;>exact True.intro
      have mk:gP (full.map R.d) (aR full) ([]++caps.filter (bW env))=.new (full.map R.d) true:=by unfold gP;rw[ck hfl]
      refine⟨d,kvs,u,rfl,hu,?_⟩;rcases hrd with hrd|⟨o,hrd⟩
      .right;refine⟨hrd,λo hnf=>gd (g:=dU g d o u) (E:=E) (s:=⟨xs,true,[]⟩) hix hg ht he (rep1.oh hrd gs md) (lw ag (IsAll.flat (m:=λ_=>True) hfd (IsAll.mH (P:=λ_ _=>True) (λx w=>Is.oh (m':=λ_=>True) hrd gs λ_ _=>True.intro) hall)) qk) hlim qc ?_⟩;rw[mk];intro v M' H' e rep' ro;have hd':H' d=some (.az o u):=e.h _ _ ag;have rep3:=rep'.rM hd' gs (e.m d md) (tY rep1 hrd);refine .inr ⟨d,o,u,hd',gs,hnf,q v M' _ ⟨e.m,pM e.h hrd,λa z=>?_⟩ rep3 ?_⟩
       .refine(e.n a z).imp id λw=>?_;by_cases ha:a=d
        .subst ha;rw[ag]at w;cases w
        .rw[af ha]at w;exact w
       .obtain⟨a,vs,rfl,h1,h2,h3,h4,h5⟩:=ro;have na:a≠d:=λz=>by subst z;rw[hd']at h1;cases h1
        refine⟨a,vs,rfl,by rw[af na];exact h1,h2,by rw[af na]at h3;exact h3,h4,?_⟩;exact IsAll.mH (P:=λ_ _=>True) (λx w=>Is.LO hd' gs λ_ z=>z) (IsAll.flat (m':=dc g M' true) hfl h5)
      .left;refine⟨o,hrd,gd (g:=g) (E:=E) (s:=⟨xs,true,[]⟩) hix hg ht he rep1 (lw hrd (IsAll.flat hfd hall) qk) hlim qc ?_⟩;rw[mk];exact λv M' H' e rep' ro=>.inl (q v M' H' e rep' ro)
     .rw[cO hfl]at q;exact q.elim
   .rw[cO hcon]at q;exact q.elim
 |_=>rw[qd]at q;exact q.elim
def zh{i:Nat}{y:Str}{py spos:Pos}(hc:X.calm=true)(S:bm X scope tN capN caps)(hN:X.N.Nodup)(hi':X.N[i]?=some y)(hy:X.env.scope.names.lookup y=some .local)(hi:PD X E l f)(hix:∀j∈ix,j<tN.length)(hg:∀cl C s3 H3 fp,yR (aS X scope (tN++capN) cl C s3 H3 fp) ix (.Tuple es k0 iR) asg)(ht:∀cl C s3 H3 fp,qS (aS X scope (tN++capN) cl C s3 H3 fp) E0 ifs ft)(he:∀cl C s3 H3 fp,PD (aS X scope (tN++capN) cl C s3 H3 fp) E0 elt fe)
 (hbase:autoParam (attributeBase l "items" X.env (eval l X.env)=eval l X.env) RJ) (hline:autoParam ((apos.endLine==cpos.line)=true) RJ) (hsw:autoParam (swapsWith (.ListComp elt [⟨.Tuple es k0 iR,.Call (.Attribute l "items" apos) [] [] cpos,ifs,0⟩] scope pos) (some (.Name y py)) spos.line X.env=pure true) RJ) (hs:autoParam (∀x,foldedSetIterable (.Call (.Attribute l "items" apos) [] [] cpos) X.env x=pure x) RI) :
 lc X E (.Assign [.Name y py] (.ListComp elt [⟨.Tuple es k0 iR,.Call (.Attribute l "items" apos) [] [] cpos,ifs,0⟩] scope pos) spos) (b_ i (nW tN.length caps f asg ft fe)):=by
 obtain⟨tl,p1,s1⟩:=hi;exact⟨_,HA (t:=λD σ H=>G1 X tl σ H (dH X scope (.Tuple es k0 iR) tN capN caps elt ifs σ λDl _ H'=>D.nx (σ.set i (some (.ref Dl))) H')) λaa s σ H D I h=>nz hc S hN hi' hy hsw I (yI p1 hbase hline) h hs,qP (zg s1 hix hg ht he)⟩
end
end L3
namespace L2
open PySem PySem.Spec PySem.Calls PyProof.Rows
def vN(prog:Ry)(w:World)(d:Addr)(hd:(d==sysModules)=false):MeetsIn prog w (Builtin.«dict.__len__» ⟨[.ref d],[]⟩) (λ_ R s=>∃(o:Obj)(es:Array DictEntry)(ep n:Nat),s.heap.get? d=some o/\o.data=.dict es ep/\es.size=n/\R (.ok (.ret (.int n s.toks))) {s with toks:=s.toks+1}):=by
 apply MeetsIn.of_wp;rintro A R s ⟨o,es,ep,n,h1,h2,rfl,h⟩;show wpAny _ _ (dictSize d >>= _) _ _ s
 delta dictSize
 apply bo;apply bo;apply P6 h1 h2;apply bF;show wpAny _ _ (Builtin.Dict.pendingCount d >>= _) _ _ s;apply bo;apply wpAny_pendingCount_other hd;exact wpAny_ret_mkInt h
section
variable{X:Cx}
def zi:CallR X (.builtin "len") (λxs H Q=>∃(d:Addr)(kvs:List (List bu×V)),xs=[.ref d]/\(Rd H d (.dT kvs)\/(Rd H d (.dK [])/\kvs=[]))/\Q (.int kvs.length) H):=by
 intro aa s σ H xs us Q I r h;obtain⟨d,kvs,rfl,hd,q⟩:=h;obtain⟨w,rfl,rx⟩:=eJ r;cases rx;have key:(d==sysModules)=false/\kvs.length<=sizeLine/\Shared.TypeIs s (.ref d) "dict"/\∃(o:Obj)(es:Array DictEntry)(ep:Nat),s.heap.get? d=some o/\o.data=.dict es ep/\es.size=kvs.length:=by
  rcases hd with hd|⟨hd,rfl⟩
  .obtain⟨z,hs,xs,rel,o,es,ep,h1,h2,h3,h4,_⟩:=k7 I.aG hd;exact⟨hs,z,⟨o,h1,h2.1⟩,o,es,ep,h1,h3,by rw[size_of_entries h4];exact(Pw rel).symm⟩
  .obtain⟨z,hs,vs,rel,dd⟩:=kZ I.aG hd;have hT:=dd.typeIs;obtain⟨o,es,ep,h1,h2,h3,h4,h5,_⟩:=dd;exact⟨hs,N3 _,hT,o,es,ep,h1,h3,by
    have e:es.size=vs.length:=by rw[<- h5.length];simp
    rw[e,<- rel.length];rfl⟩
 obtain⟨hs,z,hT,o,es,ep,h1,h3,h4⟩:=key;rw[Od]at z;refine Calls.call_function_entry PySem.kind_len PySem.plain_len PySem.entry_len (PySem.args_len1 _) ?_
 delta Builtin.«len»
 apply bo (m:=oneArg "len" _);apply bF;apply bo (m:=callSpecial? (.ref d) (Str.ofString "__len__"));apply OM (name:=Str.ofString "__len__") hT PySem.F.slot_dict_len;apply QL PySem.F.slot_dict_len hT PySem.F.entry_dict_len (PySem.F.args_dict_len_1 _) (vN X.prog X.w d hs);refine⟨o,es,ep,kvs.length,h1,h3,h4,?_⟩;show wpAny _ _ _ _ _ {s with toks:=s.toks+1};apply bo;apply On;apply bF;apply bo;apply wpAny_letGo;show wpAny _ _ (if((kvs.length:Nat):Int)<0 then _ else _) _ _ _;rw[cO (by lia)];show wpAny _ _ (if((kvs.length:Nat):Int)>=2^63 then _ else _) _ _ _;rw[cO (by lia)];apply bo;apply wpAny_mkInt;exact bF ⟨_,rfl,.int kvs.length,H,I.tok _,⟨_,rfl⟩,q⟩
end
end L2
namespace L4
open PySem PySem.Spec PyProof.Rows L2 L3
abbrev tJ(K:Rx)(i:Nat)(n:Int):TE:=uN (C2 K) (bY i) (tC (.int n))
def HJ:R2:=CY λi j=>.int (i+j)
def Reads.NE{H:Hp}{ta tb:TE}{σ:L2.St}{i j:Int}(h:Reads ta σ H (.int i))(h':Reads tb σ H (.int j)):Reads (uN HJ ta tb) σ H (.int (i+j)):=h.op h' λ_ q=>⟨i,j,rfl,rfl,q⟩
def HK{α:Type}(x:α)(l:List α):fJ (x::l) 0=some x:=by unfold fJ wo;rw[ck (by lia),ck (by rw[lO];lia)];rfl
noncomputable abbrev Kn:=List ((Int×Int)×Int)
noncomputable def xt(kn:Kn):List (List bu×V):=kn.map λx=>([.inl x.1.1,.inl x.1.2],.int x.2)
noncomputable def CK(kn:Kn)(k:Int×Int):Option Int:=(kn.find? λx=>decide (x.1=k)).map (·.2)
def lz(hb:Int)(x:Int×Kn)(sg:Int):Int×Kn:=match CK x.2 (sg,x.1)with
 |some v=>(v,x.2)
 |none=>(hb+1+x.2.length,x.2++[((sg,x.1),hb+1+x.2.length)])
def sf(hb:Int)(st:List Int)(kn:Kn):Int×Kn:=st.reverse.foldl (lz hb) (hb,kn)
def KAt(H:Hp)(a:Addr)(kn:Kn):Prop:=H a=some (.dT (xt kn))\/(H a=some (.dK [])/\kn=[])
def KAt.keep{H H':Hp}{a:Addr}{kn:Kn}(h:KAt H a kn)(k:∀o,H a=some o->H' a=some o):KAt H' a kn:=h.imp (k _) λz=>⟨k _ z.1,z.2⟩
def KAt.any{H:Hp}{a:Addr}{kn:Kn}(h:KAt H a kn):H a≠none:=by rcases h with h|h;rw[h];simp;rw[h.1];simp
theorem qZ(a b:Int):∀kn:Kn,dQ (xt kn) [.inl a,.inl b]=(CK kn (a,b)).map V.int
 |[]=>rfl
 |x::kn=>by
  have ih:=qZ a b kn;unfold dQ CK xt at ih ⊢;rw[fV,Pa,Pa];by_cases h:x.1=(a,b)
  .have e:decide ((([.inl x.1.1,.inl x.1.2]:List bu),V.int x.2).1=[.inl a,.inl b])=true:=db (by rw[h]);rw[e,db h];rfl
  .have e:decide ((([.inl x.1.1,.inl x.1.2]:List bu),V.int x.2).1=[.inl a,.inl b])=false:=iA λz=>h (by have z:([.inl x.1.1,.inl x.1.2]:List bu)=[.inl a,.inl b]:=z;injection z with z1 z2;injection z2 with z2;exact Q7 (PB z1) (PB z2));rw[e,iA h];exact ih
def FI:List V->Hp->VK->Prop:=λxs H Q=>∃(d:Addr)(kvs:List (List bu×V)),xs=[.ref d]/\(Rd H d (.dT kvs)\/(Rd H d (.dK [])/\kvs=[]))/\Q (.int kvs.length) H
def nZ{X:Cx}:CallR X (.builtin "len") FI:=zi
inductive CA:Sp
 |mk {p l a:Addr} {hb:Int} {ws:List V} {st:List Int} {kn:Kn} {H:Hp} {Q:VK} {E:XK} (hp:H p=some (.tup (.int hb::ws))) (hl:Rd H l (.lst (st.map .int))) (ha:KAt H a kn) (hz:kn.length+st.length<16000000)
  (k:∀H',(∀b o,H b=some o->b≠a->H' b=some o)->KAt H' a (sf hb st kn).2->Q (.int (sf hb st kn).1) H'):CA [.ref p,.ref l,.ref a] H Q E
def Bq{vs:List V}{H:Hp}{Q:VK}{E:XK}(h:CA vs H Q E):vs.length=3:=by cases h;rfl
section
variable{K:Rx}{H:Hp}
def KF(K:Rx):TS:=yg (LY K "dict" vq (bY 2) (cE (zY (cE (bY 4) (cE (bY 3) kc))) (cE (uN HJ (uN HJ (tJ K 0 0) (tC (.int 1))) (LX FI (cE (bY 2) kc))) kc))) (d7 3)
def NS(K:Rx):TS:=Gn (yg (tJ K 0 0) (d7 3)) (Gn (JL (J3 K (cE (bY 1) kc)) (d7 4) (KF K)) (JD (bY 3)))
theorem q0(hb:Int):∀(l:List Int)(x:Int×Kn),(l.foldl (lz hb) x).2.length<=x.2.length+l.length
 |[],x=>cN _
 |a::l,x=>by
  have:=q0 hb l (lz hb x a);have h:(lz hb x a).2.length<=x.2.length+1:=by unfold lz;split<;>simp
  rw[O2,lO];lia
def NT{p l a:Addr}{hb sg stt:Int}{ws:List V}{kn:Kn}{σ:L2.St}{D:Ends}(hp:H p=some (.tup (.int hb::ws)))(ha:KAt H a kn)(hz:kn.length<16000000)(hs:∃u,σ=[some (.ref p),some (.ref l),some (.ref a),some (.int stt),u])
 (k:∀σ' H',(∃u,σ'=[some (.ref p),some (.ref l),some (.ref a),some (.int (lz hb (stt,kn) sg).1),u])->(∀b o,H b=some o->b≠a->H' b=some o)->KAt H' a (lz hb (stt,kn) sg).2->D.nx σ' H'):d7 4 (.int sg) σ H λσ2 H2=>KF K D σ2 H2:=by
 obtain⟨u,rfl⟩:=hs;have hl:(xt kn).length=kn.length:=by unfold xt;rw[cM]
 have npa:∀q,H q=none->q≠a:=λq hq e=>ha.any (e▸hq);refine⟨_,rfl,?_,Makes.t (.c (.va rfl) (.c (.va rfl) .ni)) rfl _ λq hq=>?_⟩
 .rcases ha with ha|ha
  .exact .inr (.inr (.inl ⟨rfl,.inr ⟨_,ha⟩⟩))
  .exact .inr (.inr (.inl ⟨rfl,.inl ⟨_,ha.1⟩⟩))
 have s1:Same H (aC H q (.tup [.int sg,.int stt])):=aK hq;have ha1:KAt (aC H q (.tup [.int sg,.int stt])) a kn:=ha.keep λo e=>s1 _ _ e;refine Reads.NE (.NE (.ix (.va rfl) (s1 _ _ hp) (HK _ _)) .k) (j:=((xt kn).length:Nat)) (λQ qq=>⟨_,rfl,a,xt kn,rfl,ha1.imp .inl λz=>⟨.inl z.1,by rw[z.2];rfl⟩,qq⟩) _ ⟨a,q,[.inl sg,.inl stt],_,xt kn,rfl,rfl,ag,ha1.imp id λz=>⟨z.1,by rw[z.2];rfl⟩,by rw[hl,Od];lia,?_⟩;rw[qZ,hl];have es:lz hb (stt,kn) sg=match CK kn (sg,stt)with|some v=>(v,kn)|none=>(hb+1+kn.length,kn++[((sg,stt),hb+1+kn.length)]):=rfl
 cases hg:CK kn (sg,stt)with
 |some v=>rw[hg]at es;exact .inl ⟨_,rfl,k _ _ ⟨_,by rw[es];rfl⟩ (λb o e _=>s1 _ _ e) (by rw[es];exact ha1)⟩
 |none=>
  rw[hg]at es;have hv:dQ (xt kn) [.inl sg,.inl stt]=none:=by rw[qZ,hg];rfl
  refine .inr ⟨rfl,k _ _ ⟨_,by rw[es];rfl⟩ (λb o e hn=>by rw[af hn];exact s1 _ _ e) ?_⟩;rw[es,sq _ hv];refine .inl (by rw[ag];unfold xt;rw[N4];rfl)
def D7{vs:List V}{Q:VK}{E:XK}(h:CA vs H Q E):NS K {nx:=λ_ H'=>Q .fU H',rt:=Q} (fZ ["house","stack","known","state","sign"] vs) H:=by
 obtain @⟨p,l,a,hb,ws,st,kn,_,_,_,hp,hl,ha,hz,k⟩:=h;refine Reads.ix (.va rfl) hp (v:=.int hb) (HK _ _) _ ?_;have hsl:∀H':Hp,(∀b o,H b=some o->b≠a->H' b=some o)->Rd H' l (.lst (st.map .int)):=λH' kp=>by
  rcases hl with hl|⟨o,hl⟩
  .exact .inl (kp _ _ hl λe=>by rw[e]at hl;rcases ha with ha|ha;rw[ha]at hl;cases hl;rw[ha.1]at hl;cases hl)
  .exact .inr ⟨o,kp _ _ hl λe=>by rw[e]at hl;rcases ha with ha|ha;rw[ha]at hl;cases hl;rw[ha.1]at hl;cases hl⟩
 have hpk:∀H':Hp,(∀b o,H b=some o->b≠a->H' b=some o)->H' p=some (.tup (.int hb::ws)):=λH' kp=>kp _ _ hp λe=>by rw[e]at hp;rcases ha with ha|ha;rw[ha]at hp;cases hp;rw[ha.1]at hp;cases hp
 refine⟨_,rfl,l,st.map .int,rfl,.inl (hl),?_⟩;refine⟨λi m σ H'=>m=st.length-i/\i<=st.length/\(∀b o,H b=some o->b≠a->H' b=some o)/\KAt H' a ((st.reverse.take i).foldl (lz hb) (hb,kn)).2/\∃u,σ=[some (.ref p),some (.ref l),some (.ref a),some (.int ((st.reverse.take i).foldl (lz hb) (hb,kn)).1),u],⟨st.length,by simp,N3 _,λ_ _ e _=>e,ha,none,rfl⟩,?_⟩;rintro i m σ H' ⟨rfl,hi,kp,ka,hs⟩;by_cases hlt:i<st.length
 .refine .inr ⟨⟨st.map .int,.inl (hsl H' kp),by simp,by simpa using hlt⟩,λσ' H2=>(∀b o,H b=some o->b≠a->H2 b=some o)/\KAt H2 a ((st.reverse.take (i+1)).foldl (lz hb) (hb,kn)).2/\∃u,σ'=[some (.ref p),some (.ref l),some (.ref a),some (.int ((st.reverse.take (i+1)).foldl (lz hb) (hb,kn)).1),u],λσ' H2 z=>⟨st.length-(i+1),by lia,rfl,hlt,z⟩,?_⟩;rintro x H2 ⟨e2,hx⟩;subst e2;have hx:=hx _ (.inl (hsl _ kp));have er:st.reverse[i]?=some (st.reverse[i]'(by simpa using hlt)):=Ol _;generalize st.reverse[i]'(by simpa using hlt)=sg at er;have e1:(st.map V.int)[(st.map V.int).length-1-i]?=some (.int sg):=by rw[cM,ol,<- QN hlt,er];rfl
  rw[e1]at hx;cases hx;have et:(st.reverse.take (i+1)).foldl (lz hb) (hb,kn)=lz hb ((st.reverse.take i).foldl (lz hb) (hb,kn)) sg:=by rw[QC,er,P7];rfl
  have gr:=q0 hb (st.reverse.take i) (hb,kn);have tl:=List.length_take_le' i st.reverse;rw[PC]at tl;rw[et];have gz:((st.reverse.take i).foldl (lz hb) (hb,kn)).2.length<16000000:=by simp only[]at gr;lia
  exact NT (hpk _ kp) ka gz hs λσ' H3 s3 k3 a3=>⟨λb o e hn=>k3 b o (kp b o e hn) hn,a3,s3⟩
 .refine .inl ⟨by show(st.map V.int).length<=i;rw[cM];lia,?_⟩;have et:st.reverse.take i=st.reverse:=Oe (by rw[PC];lia);rw[et]at ka hs;obtain⟨u,rfl⟩:=hs;exact⟨_,rfl,k H' kp ka⟩
end
noncomputable abbrev bG:=Int×List Int
def fj(hb:Int)(x:List (Int×Int×Int)×Kn)(s:bG):List (Int×Int×Int)×Kn:=match s.2 with
 |[]=>x
 |g::r=>(x.1++[(s.1,g,(sf hb r x.2).1)],(sf hb r x.2).2)
def fm(hb:Int)(sts:List bG):List (Int×Int×Int)×Kn:=sts.foldl (fj hb) ([],[])
def xu(H:Hp)(s:bG)(v:V):Prop:=∃q l,v=.ref q/\H q=some (.tup [.int s.1,.ref l])/\Rd H l (.lst (s.2.map .int))
def t_(H:Hp)(t:Int×Int×Int)(v:V):Prop:=∃q,v=.ref q/\H q=some (.tup [.int t.1,.int t.2.1,.int t.2.2])
inductive AllB{α:Type} (R:α->V->Prop):List α->List V->Prop
 |nil:AllB R [] []
 |cons {x:α} {v:V} {xs:List α} {vs:List V} (h:R x v) (r:AllB R xs vs):AllB R (x::xs) (v::vs)
def AllB.len{α:Type}{R:α->V->Prop}{xs:List α}{vs:List V}(h:AllB R xs vs):xs.length=vs.length:=by induction h<;>simp_all
def AllB.get{α:Type}{R:α->V->Prop}{xs:List α}{vs:List V}(h:AllB R xs vs):∀{i:Nat}{x:α},xs[i]?=some x->∃v,vs[i]?=some v/\R x v:=by
 induction h with
 |nil=>intro i x e;cases e
 |cons h _ ih=>
  intro i x e;cases i with
  |zero=>cases e;exact⟨_,rfl,h⟩
  |succ i=>exact ih e
def AllB.imp{α:Type}{R S:α->V->Prop}(f:∀x v,R x v->S x v){xs:List α}{vs:List V}(h:AllB R xs vs):AllB S xs vs:=by
 induction h with
 |nil=>exact .nil
 |cons h _ ih=>exact .cons (f _ _ h) ih
def AllB.snoc{α:Type}{R:α->V->Prop}{xs:List α}{vs:List V}{x:α}{v:V}(h:AllB R xs vs)(g:R x v):AllB R (xs++[x]) (vs++[v]):=by
 induction h with
 |nil=>exact .cons g .nil
 |cons h _ ih=>exact .cons h ih
noncomputable def FJ(K:Rx):List V->Hp->VK->Prop:=λxs H Q=>∃p ys,xs=[.ref p]/\(SqL K H p ys\/SqT K H p ys)/\Q (.int ys.length) H
def zk{X:Cx}:CallR X (.builtin "len") (FJ X.K):=call_len_seq
def MU:R2:=CY λi j=>.bl (decide (j<i))
section
variable{K:Rx}
def Mj(K:Rx):TG:=CV K 2 (jf (d7 0) (jf (d7 1) CU))
def D8(K:Rx):TT:=zU (uN MU (LX (FJ K) (cE (bY 1) kc)) (tC (.int 0)))
def D9(K:Rx)(ih ik:Nat):TE:=zY (cE (bY 0) (cE (uN (C1 K) (bY 1) (tC (.int 0))) (cE (z4 CA [] E0 (cE (bY ih) (cE (Nv (JW K) (bY 1) (Fd (tC (.int 1))) wl) (cE (bY ik) kc)))) kc)))
def KG(x:V)(l:List V):oq (x::l) (some 1) none=l:=by
 unfold oq;have h1:HT.sIx (x::l).length 0 (some 1)=1:=by have:=HT.sIx_nat (x::l).length 0 1;rw[show((1:Nat):Int)=1 from rfl]at this;rw[this,lO];lia
 have h2:HT.sIx (x::l).length (x::l).length none=(x::l).length:=rfl;rw[h1,h2];show((x::l).drop 1).take _=l;rw[List.drop_succ_cons,O8,lO];exact Oe (by lia)
def D_{H:Hp}{a p Dl q l:Addr}{hb:Int}{ws:List V}{s:bG}{kn:Kn}{o σc:L2.St}{ih ik:Nat}{acc:List V}{C:List V->Hp->Prop}(lo:o.length=2)(hih:(o++σc)[ih]?=some (some (.ref p)))(hik:(o++σc)[ik]?=some (some (.ref a)))(h2h:2<=ih)(h2k:2<=ik)
 (hp:H p=some (.tup (.int hb::ws))) (ha:KAt H a kn) (hz:kn.length+s.2.length<16000000) (hq:H q=some (.tup [.int s.1,.ref l])) (hl:Rd H l (.lst (s.2.map .int))) (hD:H Dl=some (.lst acc)) (hal:acc.length<sizeLine)
 (k0:s.2=[]->C acc H)
 (k1:∀g r y H',s.2=g::r->(∀b o,H b=some o->b≠a->b≠Dl->H' b=some o)->H' Dl=some (.lst (acc++[y]))->KAt H' a (sf hb r kn).2->t_ H' (s.1,g,(sf hb r kn).1) y->C (acc++[y]) H') :
 Mj K (.ref q) (o++σc) H λσ2 H1=>(∀j:Nat,2<=j->σ2[j]?=(o++σc)[j]?)/\D8 K σ2 H1 λb H2=>if b=true then D9 K ih ik σ2 H2 λy H5=>H5 Dl=some (.lst acc)/\acc.length<sizeLine/\C (acc++[y]) (aC H5 Dl (.lst (acc++[y])))else C acc H2:=by
 obtain⟨o0,o1,rfl⟩ : ∃o0 o1,o=[o0,o1]:=by rcases o with _|⟨o0,_|⟨o1,_|⟨_,_⟩⟩⟩<;>first|(simp at lo;done)|exact⟨_,_,rfl⟩
 refine NR hq ⟨λj hj=>?_,?_⟩
 .rw[eG (by lia),eG (by lia)]
 have e2:∀j,2<=j->((([o0,o1]++σc).set 0 (some (V.int s.1))).set 1 (some (.ref l)))[j]?=([o0,o1]++σc)[j]?:=λj hj=>by rw[eG (by lia),eG (by lia)]
 refine⟨_,rfl,l,s.2.map .int,rfl,.inl (.inl hl),_,_,rfl,rfl,?_⟩;cases hs:s.2 with
 |nil=>refine⟨_,rfl,?_⟩;have:decide ((0:Int)<(((([]:List Int).map V.int).length:Nat):Int))=false:=rfl;rw[this];exact uU (k0 hs)
 |cons g r=>
  refine⟨_,rfl,?_⟩;have:decide ((0:Int)<((((g::r).map V.int).length:Nat):Int))=true:=db (by rw[cM,lO];lia);rw[this];rw[hs]at hl hz;refine uV ?_;refine⟨_,rfl,_,rfl,l,(g::r).map .int,0,.int g,rfl,rfl,.inl hl,HK _ _,?_⟩;have hih':=(e2 ih h2h).trans hih;have hik':=(e2 ik h2k).trans hik;refine⟨_,hih',_,rfl,_,rfl,l,(g::r).map .int,rfl,.inl hl,λl2 hl2=>?_⟩;rw[fV,KG];have s1:Same H (aC H l2 (.lst (r.map .int))):=aK hl2;refine⟨_,hik',.mk (s1 _ _ hp) (.inl ag) (ha.keep λo e=>s1 _ _ e) (by simp at hz;lia) λH' kp ka=>⟨by show 3<=sizeLine;decide,λt ht=>?_⟩⟩;have hDa:Dl≠a:=λe=>by rw[e]at hD;rcases ha with ha|ha;rw[ha]at hD;cases hD;rw[ha.1]at hD;cases hD
  have hD':H' Dl=some (.lst acc):=kp _ _ (s1 _ _ hD) hDa;have ntD:t≠Dl:=λe=>by rw[e,hD']at ht;cases ht
  have nta:t≠a:=λe=>ka.any (e▸ht);have s2:Same H' (aC H' t (.tup [.int s.1,.int g,.int (sf hb r kn).1])):=aK ht;refine⟨s2 _ _ hD',hal,k1 g r (.ref t) _ hs (λb o e n1 n2=>?_) ag (ka.keep λo e=>?_) ⟨t,rfl,?_⟩⟩
  .rw[af n2];exact s2 _ _ (kp _ _ (s1 _ _ e) n1)
  .rw[af (Oz hDa)];exact s2 _ _ e
  .rw[af ntD,ag]
def Br(hb:Int)(x:List (Int×Int×Int)×Kn)(s:bG):(fj hb x s).2.length<=x.2.length+s.2.length:=by
 obtain⟨r0,st⟩:=s;cases st with
 |nil=>exact Nat.le_add_right _ _
 |cons g r=>have:=q0 hb r.reverse (hb,x.2);rw[PC]at this;show(sf hb r x.2).2.length<=_;unfold sf;simp only[lO]at this ⊢;lia
def zl{X:Cx}{scope:Scope}{tg elt:Expr}{ifs:List Expr}{tN capN:List Str}{caps:List Nat}{σ:L2.St}{Fin:Addr->List V->Hp->Prop}{H1:Hp}{a p l:Addr}{hb:Int}{ws vs:List V}{sts:List bG}{ih ik n:Nat}(htN:tN.length=2)
 (hg:∀cl C s3 H3 fp,PG (aS X scope (tN++capN) cl C s3 H3 fp) tg (Mj X.K)) (ht:∀cl C s3 H3 fp,Hk (aS X scope (tN++capN) cl C s3 H3 fp) ifs (D8 X.K)) (he:∀cl C s3 H3 fp,PE (aS X scope (tN++capN) cl C s3 H3 fp) elt (D9 X.K ih ik))
 (h2h:2<=ih) (h2k:2<=ik) (hih:(gJ σ caps)[ih-2]?=some (some (.ref p))) (hik:(gJ σ caps)[ik-2]?=some (some (.ref a)))
 (hp:H1 p=some (.tup (.int hb::ws))) (ha:KAt H1 a []) (hl:Rd H1 l (.lst vs)) (al:AllB (xu H1) sts vs) (hn:∀s∈sts,s.2.length<=n) (hz:sts.length*n<16000000) (hs:sts.length<=1000000)
 (fin:∀Dl acc H',H1 Dl=none->(∀b o,H1 b=some o->b≠a->H' b=some o)->H' Dl=some (.lst acc)->KAt H' a (fm hb sts).2->AllB (t_ H') (fm hb sts).1 acc->Fin Dl acc H') :
 dH X scope tg tN capN caps elt ifs σ Fin (Fb X.K l) H1:=by
 intro Dl hDl cl C s3 fp;have nDa:Dl≠a:=λe=>ha.any (e▸hDl);have na:∀b o,H1 b=some o->(∀kvs,o≠.dT kvs)->(∀kvs,o≠.dK kvs)->b≠a:=λb o e z1 z2 n=>by
  rw[n]at e;rcases ha with h|h
  .rw[h]at e;cases e;exact z1 _ rfl
  .rw[h.1]at e;cases e;exact z2 _ rfl
 have rdk:∀{b:Addr}{us:List V}{H':Hp},(∀b o,H1 b=some o->b≠a->H' b=some o)->Rd H1 b (.lst us)->Rd H' b (.lst us):=λkp h=>h.imp (λh=>kp _ _ h (na _ _ h (λ_ z=>by cases z) λ_ z=>by cases z)) λ⟨o,h⟩=>⟨o,kp _ _ h (na _ _ h (λ_ z=>by cases z) λ_ z=>by cases z)⟩;have Jh:∀{H':Hp},(∀b o,H1 b=some o->b≠a->H' b=some o)->∀(s:bG)(v:V),xu H1 s v->xu H' s v:=λkp s v ⟨q,l,e,hq,hl⟩=>⟨q,l,e,kp _ _ hq (na _ _ hq (λ_ z=>by cases z) λ_ z=>by cases z),rdk kp hl⟩;have grow:∀i,i<=sts.length->((sts.take i).foldl (fj hb) ([],[])).2.length<=i*n:=λi=>by
  induction i with
  |zero=>intro _;simp
  |succ i ihh=>
   intro hi;have er:sts[i]?=some sts[i]:=by simp
   rw[QC,er,P7];have h0:=ihh (by lia);have hx:=hn sts[i] (Qe _);have h1:=Br hb ((sts.take i).foldl (fj hb) ([],[])) sts[i];rw[Nat.succ_mul];exact lN h1 (by lia)
 refine⟨Mj X.K,D8 X.K,D9 X.K ih ik,λi m acc H'=>m=sts.length-i/\i<=sts.length/\(∀b o,H1 b=some o->b≠a->H' b=some o)/\H' Dl=some (.lst acc)/\KAt H' a ((sts.take i).foldl (fj hb) ([],[])).2/\AllB (t_ H') ((sts.take i).foldl (fj hb) ([],[])).1 acc/\acc.length<=i,
  hg cl C s3 _ fp,ht cl C s3 _ fp,he cl C s3 _ fp,⟨_,rfl,N3 _,λb o e _=>aK hDl b o e,ag,ha.keep λo e=>aK hDl _ _ e,.nil,cN _⟩,?_⟩
 rintro i m acc H' ⟨rfl,hi,kp,hD,ka,at',hacc⟩;refine⟨hD,?_⟩;by_cases hlt:i<sts.length
 .right;have er:sts[i]?=some sts[i]:=by simp
  obtain⟨v,ev,iv⟩:=al.get er;refine⟨⟨vs,v,.inl (rdk kp hl),ev⟩,?_⟩;rintro xv H3 o ⟨rfl,hx⟩ lo;have hx:=hx vs (.inl (rdk kp hl));rw[ev]at hx;cases hx;have iv':=Jh kp _ _ iv;obtain⟨q,l',rfl,hq,hl'⟩:=iv';have ap:∀(j:Nat)(w:Option V),2<=j->(gJ σ caps)[j-2]?=some w->(o++gJ σ caps)[j]?=some w:=λj w hj e=>by rw[cP (by lia),lo,htN];exact e
  have hpp:H3 p=some (.tup (.int hb::ws)):=kp _ _ hp (na _ _ hp (λ_ z=>by cases z) λ_ z=>by cases z);have et:(sts.take (i+1)).foldl (fj hb) ([],[])=fj hb ((sts.take i).foldl (fj hb) ([],[])) sts[i]:=by rw[QC,er,P7];rfl
  have g0:=grow i (by lia);have hx:=hn sts[i] (Qe _);have hm:i*n+n<=sts.length*n:=by rw[<- Nat.succ_mul];exact Nat.mul_le_mul_right _ hlt
  rw[htN]at *;refine D_ (C:=λacc' H'=>∃m',m'<sts.length-i/\m'=sts.length-(i+1)/\i+1<=sts.length/\(∀b o,H1 b=some o->b≠a->H' b=some o)/\H' Dl=some (.lst acc')/\KAt H' a ((sts.take (i+1)).foldl (fj hb) ([],[])).2/\AllB (t_ H') ((sts.take (i+1)).foldl (fj hb) ([],[])).1 acc'/\acc'.length<=i+1) (by lia) (ap ih _ h2h hih) (ap ik _ h2k hik) h2h h2k hpp ka (by lia) hq hl' hD (by rw[Od];lia) (λe=>?_) λg r y H5 e k5 hD5 ka5 it5=>?_
  .have:fj hb ((sts.take i).foldl (fj hb) ([],[])) sts[i]=(sts.take i).foldl (fj hb) ([],[]):=by unfold fj;rw[e]
   rw[et,this];exact⟨_,by lia,rfl,hlt,kp,hD,ka,at',by lia⟩
  .have:fj hb ((sts.take i).foldl (fj hb) ([],[])) sts[i]=(((sts.take i).foldl (fj hb) ([],[])).1++[(sts[i].1,g,(sf hb r ((sts.take i).foldl (fj hb) ([],[])).2).1)],(sf hb r ((sts.take i).foldl (fj hb) ([],[])).2).2):=by unfold fj;rw[e]
   rw[et,this];refine⟨_,by lia,rfl,hlt,λb o e n=>k5 b o (kp b o e n) n (λz=>by rw[z,hDl]at e;cases e),hD5,ka5,(at'.imp λt w z=>?_).snoc it5,by simp;lia⟩;obtain⟨q',rfl,hq'⟩:=z;refine⟨q',rfl,k5 _ _ hq' (λz=>?_) λz=>?_⟩
   .rw[z]at hq';rcases ka with h|h;rw[h]at hq';cases hq';rw[h.1]at hq';cases hq'
   .rw[z,hD]at hq';cases hq'
 .left;have hi':i=sts.length:=by lia
  subst hi';rw[Ru]at ka at';refine⟨⟨vs,.inl (rdk kp hl),by rw[<- al.len];exact cN _⟩,fin Dl acc H' hDl kp hD ka at'⟩
end
noncomputable def qX(t:Int×Int×Int):D:=.tup [.int t.1,.int t.2.1,.int t.2.2]
noncomputable def aA(s:bG):D:=.tup [.int s.1,.lst (s.2.map .int)]
noncomputable def rR(kn:Kn):D:=.bp (kn.map λx=>.inr [.inl x.1.1,.inl x.1.2]) (kn.map λx=>.int x.2)
def TopsIn(hd ld:D)(x:Int×List bG):Prop:=(∃ds,hd=.tup (.int x.1::ds))/\ld=.lst (x.2.map aA)/\x.2.length<=1000/\∀s∈x.2,s.2.length<=1000
open Classical in
def xw(i j:Nat)(env:En)(hd ld:D):Res Fl:=if c:(i<env.length/\i≠j)/\∃x,TopsIn hd ld x then .ok (.nx ((env.set j (some (.val (rR (fm (Classical.choose c.2).1 (Classical.choose c.2).2).2) true))).set i (some (.own ((fm (Classical.choose c.2).1 (Classical.choose c.2).2).1.map qX) true))))else .stuck
def xx(i j h l:Nat):En->Res Fl:=λenv=>match env[h]?,env[l]?,env[j]? with
 |some (some (.val hd _)),some (some (.val ld _)),some (some (.cw (.bp [] [])))=>xw i j env hd ld
 |_,_,_=>.stuck
theorem ua:∀{l m:List Int},l.map D.int=m.map D.int->l=m
 |[],[],_=>rfl
 |[],_::_,e=>nomatch e
 |_::_,[],e=>nomatch e
 |x::l,y::m,e=>by rw[fV,fV]at e;injection e with e1 e2;injection e1 with e1;rw[e1,ua e2]
theorem ub:∀{l m:List bG},l.map aA=m.map aA->l=m
 |[],[],_=>rfl
 |[],_::_,e=>nomatch e
 |_::_,[],e=>nomatch e
 |x::l,y::m,e=>by rw[fV,fV]at e;injection e with e1 e2;unfold aA at e1;injection e1 with e1;injection e1 with a1 e1;injection e1 with a2 _;injection a1 with a1;injection a2 with a2;rw[Q7 a1 (ua a2),ub e2]
def TopsIn.eq{hd ld:D}{x y:Int×List bG}(h:TopsIn hd ld x)(g:TopsIn hd ld y):x=y:=by obtain⟨⟨ds,rfl⟩,rfl,_⟩:=h;obtain⟨⟨es,e⟩,e2,_⟩:=g;injection e with e;injection e with e _;injection e with e;injection e2 with e2;exact Q7 e (ub e2)
def Bs{i j:Nat}{env:En}{hd ld:D}{x:Int×List bG}(hi:i<env.length)(hj:i≠j)(h:TopsIn hd ld x):xw i j env hd ld=.ok (.nx ((env.set j (some (.val (rR (fm x.1 x.2).2) true))).set i (some (.own ((fm x.1 x.2).1.map qX) true)))):=by have c:(i<env.length/\i≠j)/\∃x,TopsIn hd ld x:=⟨⟨hi,hj⟩,x,h⟩;unfold xw;rw[dif_pos c,<- (h.eq (QQ c.2))]
def HL{H:Hp}{m:Addr->Prop}{ts:List (Int×Int×Int)}{vs:List V}(h:AllB (t_ H) ts vs):IsAll H m (ts.map qX) vs:=by
 induction h with
 |nil=>exact rfl
 |cons h _ ih=>obtain⟨q,rfl,hq⟩:=h;exact⟨_,_,rfl,⟨q,_,rfl,hq,_,_,rfl,rfl,_,_,rfl,rfl,_,_,rfl,rfl,rfl⟩,ih⟩
theorem xy{H:Hp}{m:Addr->Prop}:∀{ns:List Int}{vs:List V},IsAll H m (ns.map .int) vs->vs=ns.map .int
 |[],vs,h=>h
 |n::ns,vs,h=>by obtain⟨v,r,rfl,h1,h2⟩:=h;rw[xy h2,show v=.int n from h1];rfl
theorem Bt{H:Hp}{m:Addr->Prop}:∀{ss:List bG}{vs:List V},IsAll H m (ss.map aA) vs->AllB (xu H) ss vs
 |[],vs,h=>by cases(show vs=[]from h);exact .nil
 |s::ss,vs,h=>by obtain⟨v,r,rfl,h1,h2⟩:=h;refine .cons ?_ (Bt h2);obtain⟨a,ws,rfl,ha,v0,r0,rfl,e0,v1,r1,rfl,⟨l,us,rfl,hl,hu⟩,rfl⟩:=h1;obtain rfl:v0=.int s.1:=e0;rw[xy hu]at hl;exact⟨a,l,rfl,ha,hl.imp And.left λ⟨o,e,_⟩=>⟨o,e⟩⟩
section
variable{X:Cx}{E:XK}{scope:Scope}{tg elt iter:Expr}{ifs:List Expr}{tN capN:List Str}{caps:List Nat}{pos:Pos}{ih ik i j h l:Nat}{y:Str}{py spos:Pos}
def Bu(hc:X.calm=true)(S:bm X scope tN capN caps)(hN:X.N.Nodup)(hi':X.N[i]?=some y)(hy:X.env.scope.names.lookup y=some .local)(hl:PI X tg iter (zQ X.K (bY l)))(htN:tN.length=2)
 (hg:∀cl C s3 H3 fp,PG (aS X scope (tN++capN) cl C s3 H3 fp) tg (Mj X.K)) (ht:∀cl C s3 H3 fp,Hk (aS X scope (tN++capN) cl C s3 H3 fp) ifs (D8 X.K)) (he:∀cl C s3 H3 fp,PE (aS X scope (tN++capN) cl C s3 H3 fp) elt (D9 X.K ih ik))
 (h2h:2<=ih) (h2k:2<=ik) (hih:caps[ih-2]?=some h) (hik:caps[ik-2]?=some j)
 (hsw:autoParam (swapsWith (.ListComp elt [⟨tg,iter,ifs,0⟩] scope pos) (some (.Name y py)) spos.line X.env=pure true) RJ) (hs:autoParam (∀x,foldedSetIterable iter X.env x=pure x) RI) :
 lc X E (.Assign [.Name y py] (.ListComp elt [⟨tg,iter,ifs,0⟩] scope pos) spos) (xx i j h l):=by
 refine⟨λD σ H=>zQ X.K (bY l) σ H (dH X scope tg tN capN caps elt ifs σ λDl _ H'=>D.nx (σ.set i (some (.ref Dl))) H'),λaa s σ H D I hh=>nz hc S hN hi' hy hsw I hl hh hs,λg M ρ env σ H D rep p=>?_⟩;unfold xx at p;split at p
 .rename_i hd f1 ld f2 q1 q2 q3;unfold xw at p;split at p
  .rename_i c;have hch:=QQ c.2;generalize Classical.choose c.2=x at p hch;obtain⟨⟨hil,hij⟩,-⟩:=c;obtain⟨hb,sts⟩:=x;obtain⟨⟨ds,rfl⟩,rfl,hn,hm⟩:=hch;obtain⟨vh,evh,ivh⟩:=rep.slot h _ q1;obtain⟨vl,evl,ivl⟩:=rep.slot l _ q2;obtain⟨vk,evk,ivk⟩:=rep.slot j _ q3;obtain⟨pp,ws,rfl,hp,w0,wr,rfl,e0,_⟩:=ivh;obtain rfl:w0=.int hb:=e0;obtain⟨al,vs,rfl,hal,hall⟩:=ivl;obtain⟨a,kvs,rfl,⟨dat,pa⟩,_⟩:=ivk;have nofz:∀o u,H a≠some (.az o u):=λo u z=>by obtain⟨_,_,uo,q,qm⟩:=rep.aT j a pa;rw[z]at q;cases q;exact qm
   have hka:KAt H a []:=by
    rcases dat with⟨kv,hr,e1,e2⟩|⟨kv,hr,e1,e2⟩
    .obtain rfl:kv=[]:=by simpa using e1.symm
     exact .inr ⟨hr.elim id λ⟨o,z⟩=>(nofz _ _ z).elim,rfl⟩
    .obtain rfl:kv=[]:=by simpa using e1.symm
     exact .inl (hr.elim id λ⟨o,z⟩=>(nofz _ _ z).elim)
   have hjl:j<env.length:=(bE.mp q3).1;have cs:∀(k n:Nat)(v:V),caps[k]?=some n->σ[n]?=some (some v)->(gJ σ caps)[k]?=some (some v):=λk n v e1 e2=>by unfold gJ;rw[ol,e1];show some (σ[n]?).join=_;rw[e2];rfl
   refine⟨_,evl,al,rfl,⟨vs,.inl (hal.imp And.left λ⟨o,e,_⟩=>⟨o,e⟩)⟩,?_⟩;refine zl (n:=1000) htN hg ht he h2h h2k (cs _ _ _ hih evh) (cs _ _ _ hik evk) hp hka (hal.imp And.left λ⟨o,e,_⟩=>⟨o,e⟩) (Bt hall) hm (by lia) (by lia) λDl acc H' hDl kp hD ka at'=>?_;have hkV:∀kn:Kn,(kn.map λx=>(Sum.inr [.inl x.1.1,.inl x.1.2]:DK))=(xt kn).map λp=>.inr p.1:=λkn=>by unfold xt;rw[v9];rfl
   have ik':Is H' (λb=>b=a) (rR (fm hb sts).2) (.ref a):=by
    generalize(fm hb sts).2=kn at ka;have iv:IsAll H' (λb=>b=a) (kn.map λx=>L3.D.int x.2) (kn.map λx=>V.int x.2):=by
     clear ka;induction kn with
     |nil=>exact rfl
     |cons x kn ih=>exact⟨_,_,rfl,rfl,ih⟩
    refine⟨a,kn.map λx=>V.int x.2,rfl,⟨?_,rfl⟩,iv⟩;rcases ka with ka|⟨ka,rfl⟩
    .exact .inr ⟨xt kn,.inl ka,hkV kn,by unfold xt;rw[v9];rfl⟩
    .exact .inl ⟨[],.inl ka,rfl,rfl⟩
   have mu:Mu H' a:=by
    rcases ka with ka|⟨ka,_⟩
    .exact⟨_,ka,True.intro⟩
    .exact⟨_,ka,True.intro⟩
   obtain⟨f1,rep2⟩:=rep.change (x:=rR (fm hb sts).2) (T':=λb=>b=a) hjl evk (λb o e nb=>kp b o e λz=>nb (z▸pa)) (λb z=>by subst z;exact⟨.inl pa,mu⟩) (λb z=>by
    by_cases hb:b=a
    .subst hb;exact ka.any
    .obtain⟨_,_,uo,q,_⟩:=rep.aT j b z;rw[kp b uo q hb];simp) ik'
   obtain⟨d0,dm,dow⟩:=rep.free hDl;have nDa:Dl≠a:=λe=>hka.any (e▸hDl);have ef:L3.dj (env.set j (some (.cw (rR (fm hb sts).2)))) j=env.set j (some (.val (rR (fm hb sts).2) true)):=by unfold L3.dj;rw[i7 hjl];exact List.set_set ..
   have rep2:=rep2.dj j;rw[ef]at rep2;have rep3:=rep2.put (i:=i) (sl:=.own ((fm hb sts).1.map qX) true) (v:=.ref Dl) (T:=λb=>b=Dl) (by rw[OQ];exact hil) ⟨Dl,acc,rfl,hD,λ_=>Iff.rfl,HL at'⟩ (λb z=>by
    subst z;have nw:∀k,¬nv ρ j (λb=>b=a) k b:=λk w=>by
     by_cases hkj:k=j
     .subst hkj;rw[b9]at w;exact nDa w
     .rw[bh hkj]at w;exact dow k w
    exact⟨λz=>z.elim dm (nw j),d0,Mu.lst hD,λk hk w=>nw k (kz w).2⟩)
   exact p _ _ _ H' (f1.trans ⟨λ_ z=>.inl z,λ_ _ q _=>q⟩) rep3
  .exact p.elim
 .exact p.elim
end
def uc:List R->Res R
 |[r]=>match r.d with
  |.bp ks _=>if ks.all (λk=>k.isRight)=true then .ok (.val (.int ks.length) true [])else .stuck
  |_=>.stuck
 |_=>.stuck
def Ea{X:Cx}{E:XK}:iV X E (.builtin "len") uc:=by
 refine⟨_,nZ,λg M ρ env σ H Q rs vs rep i p=>?_⟩;rcases rs with _|⟨r,_|⟨r',rs⟩⟩
 .exact p.elim
 .unfold uc at p;dsimp only at p;split at p
  .rename_i ks ds q;split at p
   .rename_i hk;obtain⟨v,w,rfl,i1,i2⟩:=i;cases i2;have i1:Is H (vmsk g M (aR [r]) ρ (bK [r])) r.d v:=i1;rw[q]at i1;obtain⟨a,us,rfl,⟨dat,_⟩,_⟩:=i1;rcases dat with⟨kvs,hr,e1,_⟩|⟨kvs,hr,e1,_⟩
    .cases kvs with
     |nil=>subst e1;exact⟨a,[],rfl,.inr ⟨hr,rfl⟩,p _ M H (Ext.refl _ _) rep rfl⟩
     |cons x kvs=>rw[e1]at hk;cases hk
    .refine⟨a,kvs,rfl,.inl hr,?_⟩;have:kvs.length=ks.length:=by rw[e1,cM]
     rw[this];exact p _ M H (Ext.refl _ _) rep rfl
   .exact p.elim
  .exact p.elim
 .exact p.elim
section
variable{X:Cx}{E:XK}
noncomputable def KH(K:Rx):R2:=λx y H Q=>∃a b ys,x=.ref a/\y=.ref b/\SqT K H a []/\SqT K H b ys/\Q (.ref b) H
def op_catE:OpR X (binaryOp .Add) (KH X.K):=by
 intro aa s σ H x y v u Q I rx ry h;obtain⟨a,b,ys,rfl,rfl,ha,hb,q⟩:=h;cases rx;cases ry;obtain⟨its,r1,p1,_⟩:=I.tuple ha;obtain⟨its2,r2,p2,_⟩:=I.tuple hb;obtain rfl:=r1.mG.mpr rfl;obtain⟨⟨cls,dd,data,sl⟩,ho,hc,n,hd⟩:=id p1;obtain⟨⟨cls2,dd2,data2,sl2⟩,ho2,hc2,n2,hd2⟩:=id p2;simp only at hc hd hc2 hd2;subst hc hd hc2 hd2;exact concat_meets ⟨_,ho,rfl⟩ ⟨_,ho2,rfl⟩ noFill_tuple_add seq_tuple_add Qw Ql (Qh _ _)
  (tuple_addW0 _ _ _ _ n n2 dd dd2 sl sl2 (by simp)) ⟨ho,ho2,.ref b,H,I,rfl,q⟩
def lB(a b:R):Res R:=match a.d,b.d with
 |.tup [],.tup ys=>.ok (hI (.tup ys) b.fr b.al)
 |_,_=>dF a b
def xA:oG X E (binaryOp .Add) lB:=by
 obtain⟨r,o,s⟩:=bU (X:=X) (E:=E);refine⟨_,op_catE.or o,λg M ρ env σ H Q ra rb x y rep i1 i2 p=>?_⟩;unfold lB at p;split at p
 .rename_i ys e1 e2;rw[e1]at i1;rw[e2]at i2;obtain⟨a,vs,rfl,h1,h2⟩:=i1;obtain⟨b,ws,rfl,h3,h4⟩:=i2;obtain rfl:vs=[]:=PP h2.length;exact .inl ⟨a,b,ws,rfl,rfl,SqT.of h1,SqT.of h3,p.val rep ⟨b,ws,rfl,h3,h4⟩⟩
 .exact .inr (s g M ρ env σ H Q ra rb x y rep i1 i2 p)
end
end L4
namespace L3
open PySem L2
section
variable{env aB:En}{i j:Nat}{d:D}{ds es:List D}{f g:Bool}{al bl:List Nat}{x y:Int}
noncomputable def kS(k:En->Res Fl):Fl->Res Fl
 |.nx aB=>k aB
 |r=>.ok r
def fO(f k:En->Res Fl)(env:En):aM f k env=(f env).bind (kS k):=by rfl
def jL(k:En->Res Fl)(e:En):kS k (.nx e)=k e:=(rfl)
def MV(k:En->Res Fl)(r:R):kS k (.rt r)=.ok (.rt r):=(rfl)
noncomputable def MW(a b:En->Res Fl)(env:En)(k:Bool):Res Fl:=if k then a env else b env
def HM(c:En->Res Bool)(a b:En->Res Fl)(env:En):tG c a b env=(c env).bind (MW a b env):=(rfl)
def KJ(a b:En->Res Fl)(env:En):MW a b env true=a env:=(rfl)
def FK(a b:En->Res Fl)(env:En):MW a b env false=b env:=(rfl)
def FL(env:En):iO env=.ok (.nx env):=(rfl)
def KL(r:R):Res Fl:=.ok (.rt r)
def KM(a:En->Res R)(env:En):dR a env=(a env).bind KL:=(rfl)
def HN(r:R):KL r=.ok (.rt r):=(rfl)
def KN(i:Nat)(env:En)(r:R):Res Fl:=if i<env.length then .ok (.nx (put env i r))else .stuck
def FM(i:Nat)(a:En->Res R)(env:En):b_ i a env=(a env).bind (KN i env):=(rfl)
def HP(r:R)(h:i<env.length):KN i env r=.ok (.nx (put env i r)):=ck h
def HQ:put env i (.val d f [])=env.set i (some (.val d f)):=(rfl)
def HR:put env i (.new ds f)=env.set i (some (.own ds f)):=(rfl)
def HS:put env i (.iS d)=env.set i (some (.cw d)):=(rfl)
def KO(i:Nat):Option (Option Sl)->Res R
 |some (some (.val d fr))=>.ok (hI d fr [])
 |some (some (.own ds fr))=>.ok (.val (.lst ds) fr [i])
 |some (some (.cw d))=>.ok (.val d true [i])
 |_=>.stuck
def KP(i:Nat)(env:En):ah i env=KO i env[i]?:=by unfold ah KO;rfl
def KQ:KO i (some (some (.val d f)))=.ok (hI d f []):=(rfl)
def KR:KO i (some (some (.own ds f)))=.ok (.val (.lst ds) f [i]):=(rfl)
def KS:KO i (some (some (.cw d)))=.ok (.val d true [i]):=(rfl)
def MX(d:D)(env:En):vC d env=.ok (.val d true []):=(rfl)
def HU(h:d.flat=true):hI d f al=.val d true []:=by unfold hI;rw[ck h]
def HV(h:d.flat=false):hI d f al=.val d f al:=by unfold hI;rw[cO (by rw[h];simp)]
def vO(h:D.ba ds=true):gP ds f al=.new ds true:=by unfold gP;rw[ck h]
def xB:gP ds true []=.new ds true:=by unfold gP;split<;>rfl
def NA(op:R->R->Res R)(fb:En->Res R)(env:En)(ra:R):Res R:=(fb env).bind (op ra)
def MY(op:R->R->Res R)(fa fb:En->Res R)(env:En):v2 op fa fb env=(fa env).bind (NA op fb env):=(rfl)
def KU(op:R->R->Res R)(fb:En->Res R)(env:En)(ra:R):NA op fb env ra=(fb env).bind (op ra):=(rfl)
def KW:dF (.val (.int x) f al) (.val (.int y) g bl)=.ok (.val (.int (x+y)) true []):=(rfl)
def HW(h1:-18446744073709551616<y)(h2:y<18446744073709551616):vA (.val (.int x) f al) (.val (.int y) g bl)=.ok (.val (.int (x*y)) true []):=by
 have:AU x y=true:=by unfold AU;rw[Bool.or_eq_true,Of,Of];exact .inr ⟨db (by lia),db (by lia)⟩
 show(if AU x y=true then _ else _)=_;rw[ck this]
def KY(h:0<y):gc (.val (.int x) f al) (.val (.int y) g bl)=.ok (.val (.int (x%y)) true []):=by show(if decide (0<y)=true then _ else _)=_;rw[ck (db h)]
def KZ(h:0<y)(h2:y<1073741824):nt (.val (.int x) f al) (.val (.int y) g bl)=.ok (.val (.int (x/y)) true []):=by show(if(decide (0<y)&&decide (y<1073741824))=true then _ else _)=_;rw[ck (by rw[db h,db h2];rfl)]
def MZ:wW (.val (.int x) f al) (.val (.int y) g bl)=.ok (.val (.bl (decide (x<y))) true []):=(rfl)
def M7:Jn (.val (.int x) f al) (.val (.int y) g bl)=.ok (.val (.bl (decide (x<=y))) true []):=(rfl)
def zn(h:a.d.dep<=50)(h2:b.d.dep<=50):DF a b=.ok (.val (.bl (fF a.d b.d)) true []):=by unfold DF;rw[ck ⟨h,h2⟩]
def Bv(h:a.d.dep<=50)(h2:b.d.dep<=50):yQ a b=.ok (.val (.bl (!fF a.d b.d)) true []):=by unfold yQ;rw[ck ⟨h,h2⟩]
def FN:fF (.int x) (.int y)=(x==y):=(rfl)
def Eb(xs ys:List D)(f:Bool)(al:List Nat):Res R:=if xs.length+ys.length<=lim then .ok (gP (xs++ys) f al)else .stuck
def Ec:dF (.val (.lst ds) f al) (.val (.lst es) g bl)=Eb ds es (f&&g) (al++bl):=(rfl)
def Ed:dF (.val (.lst ds) f al) (.new es g)=Eb ds es (f&&g) (al++[]):=(rfl)
def Ee:dF (.new ds f) (.val (.lst es) g bl)=Eb ds es (f&&g) ([]++bl):=(rfl)
def vP(h:ds.length+es.length<=1000000):Eb ds es f al=.ok (gP (ds++es) f al):=ck h
def FO(fs:En->Res (List R))(env:En)(r:R):Res (List R):=(fs env).bind (λrs=>.ok (r::rs))
def Bw(r:R)(rs:List R):Res (List R):=.ok (r::rs)
def HX(env:En):ay env=.ok []:=(rfl)
def Ef(a:En->Res R)(fs:En->Res (List R))(env:En):ak a fs env=(a env).bind (FO fs env):=(rfl)
def Eg(fs:En->Res (List R))(env:En)(r:R):FO fs env r=(fs env).bind (Bw r):=(rfl)
def Bx(r:R)(rs:List R):Bw r rs=.ok (r::rs):=(rfl)
def K3(rs:List R):Res R:=if rs.length<=lim then .ok (hI (.tup (rs.map R.d)) (aR rs) (bK rs))else .stuck
def K4(fs:En->Res (List R))(env:En):cV fs env=(fs env).bind K3:=(rfl)
def HY(rs:List R)(h:rs.length<=1000000):K3 rs=.ok (hI (.tup (rs.map R.d)) (aR rs) (bK rs)):=ck h
def K5(rs:List R):Res R:=if rs.length<=lim then .ok (gP (rs.map R.d) (aR rs) (bK rs))else .stuck
def K6(fs:En->Res (List R))(env:En):lV fs env=(fs env).bind K5:=(rfl)
def HZ(rs:List R)(h:rs.length<=1000000):K5 rs=.ok (gP (rs.map R.d) (aR rs) (bK rs)):=ck h
def By:aR []=true:=(rfl)
def zp(r:R)(rs:List R):aR (r::rs)=(r.fr&&aR rs):=(rfl)
def Bz:bK []=[]:=(rfl)
def zq(r:R)(rs:List R):bK (r::rs)=r.al++bK rs:=(rfl)
def FP(F:List D->Res R)(rs:List R):Res R:=(F (rs.map R.d)).bind (λr=>.ok (hW rs r))
def BA(rs:List R)(r:R):Res R:=.ok (hW rs r)
def H_(F:List D->Res R)(fs:En->Res (List R))(env:En):cn F fs env=(fs env).bind (FP F):=(rfl)
def Eh(F:List D->Res R)(rs:List R):FP F rs=(F (rs.map R.d)).bind (BA rs):=(rfl)
def BB(rs:List R)(r:R):BA rs r=.ok (hW rs r):=(rfl)
def BC(rs:List R)(h:d.flat=true):hW rs (.val d f al)=.val d true []:=ck h
def BD(rs:List R)(h:d.flat=false):hW rs (.val d true al)=.iS d:=by show FE d true rs=_;unfold FE;rw[cO (by rw[h];simp),ck rfl]
def BE(rs:List R)(h:D.ba ds=true):hW rs (.new ds f)=.new ds true:=by show(if D.ba ds=true then _ else _)=_;rw[ck h]
def M8(k:List R->Res R)(fs:En->Res (List R))(env:En):j9 k fs env=(fs env).bind k:=(rfl)
def Ia:D->Res R
 |.lst ds=>.ok (.val (.int ds.length) true [])
 |.tup ds=>.ok (.val (.int ds.length) true [])
 |.str z=>if z.length<=lim then .ok (.val (.int z.length) true [])else .stuck
 |_=>.stuck
def K7(r:R):AX [r]=Ia r.d:=by unfold AX Ia;rfl
def xC(f:Bool)(al:List Nat):D->Res R
 |.lst ds=>.ok (gP ds f al)
 |.tup ds=>.ok (gP ds f al)
 |_=>.stuck
def Ib(r:R):tE [r]=xC r.fr r.al r.d:=by unfold tE xC;rfl
def Ei:xC f al (.lst ds)=.ok (gP ds f al):=(rfl)
def kB(ra:R):Res Bool:=match ra.d with
 |.bl b=>.ok b
 |_=>.stuck
def K8(a:En->Res R)(env:En):vB a env=(a env).bind kB:=(rfl)
def M9(b:Bool):kB (.val (.bl b) f al)=.ok b:=(rfl)
def K9(ra:R):Res Bool:=FC ra.d
def Ic(a:En->Res R)(env:En):lU a env=(a env).bind K9:=(rfl)
def Ie(b:Bool):K9 (.val (.bl b) f al)=.ok b:=(rfl)
noncomputable def FQ(b:Bool):Res Bool:=.ok (!b)
def Ig(a:En->Res Bool)(env:En):jy a env=(a env).bind FQ:=(rfl)
def Ej(b:Bool):FQ b=.ok (!b):=(rfl)
noncomputable def K_(b:En->Res Bool)(env:En)(k:Bool):Res Bool:=if k then .ok true else b env
def La(a b:En->Res Bool)(env:En):zK a b env=(a env).bind (K_ b env):=(rfl)
def Lb(b:En->Res Bool)(env:En):K_ b env false=b env:=(rfl)
def FR(b:En->Res R)(env:En)(ra:R):Res R:=match ra.d with
 |.bl true=>b env
 |.bl false=>.ok (.val (.bl false) true [])
 |_=>.stuck
def Ih(a b:En->Res R)(env:En):He a b env=(a env).bind (FR b env):=(rfl)
def Ek(b:En->Res R)(env:En):FR b env (.val (.bl true) f al)=b env:=(rfl)
def FS(ra:R):Res R:=match ra.d with
 |.bl b=>.ok (.val (.bl (!b)) true [])
 |_=>.stuck
def Ii(a:En->Res R)(env:En):Hd a env=(a env).bind FS:=(rfl)
def Ij(b:Bool):FS (.val (.bl b) f al)=.ok (.val (.bl (!b)) true []):=(rfl)
def FT(f:Bool)(al:List Nat):Option D->Res R
 |some d=>.ok (hI d f al)
 |none=>.stuck
def El(a b:D)(f:Bool)(al:List Nat):Res R:=match a,b with
 |.lst xs,.int i=>FT f al (fJ xs i)
 |.tup xs,.int i=>FT f al (fJ xs i)
 |.str z,.int i=>if z.length<=lim then(match fJ z.cps.toList i with
  |some c=>.ok (.val (.str ⟨#[c]⟩) true [])
  |none=>.stuck)else .stuck
 |_,_=>.stuck
def M_(a b:R):FD a b=El a.d b.d a.fr a.al:=by unfold FD El FT;rfl
def Lc:El (.lst ds) (.int k) f al=FT f al (fJ ds k):=(rfl)
def Ld:El (.tup ds) (.int k) f al=FT f al (fJ ds k):=(rfl)
def Le:FT f al (some d)=.ok (hI d f al):=(rfl)
def Em(ds:List D)(fr:Bool)(rb:R):Res R:=match rb.d with
 |.int k=>match fJ ds k with
  |some d=>.ok (hI d fr [])
  |none=>.stuck
 |_=>.stuck
def Eo(i:Nat)(fb:En->Res R)(env:En):Option (Option Sl)->Res R
 |some (some (.own ds fr))=>(fb env).bind (Em ds fr)
 |_=>v2 FD (ah i) fb env
def Lf(i:Nat)(fb:En->Res R)(env:En):qL i fb env=Eo i fb env env[i]?:=by unfold qL Eo;rfl
def Ik(fb:En->Res R):Eo i fb env (some (some (.own ds f)))=(fb env).bind (Em ds f):=(rfl)
def Il(fb:En->Res R):Eo i fb env (some (some (.val d f)))=v2 FD (ah i) fb env:=(rfl)
def Im:Em ds f (.val (.int k) g al)=FT f [] (fJ ds k):=by unfold Em FT;rfl
def b7{α:Type}(a:α)(l:List α):fJ (a::l) 0=some a:=by unfold fJ wo;rw[ck (by lia),ck (by simp)];rfl
def NU{α:Type}(a b:α)(l:List α):fJ (a::b::l) 1=some b:=by unfold fJ wo;rw[ck (by lia),ck (by simp;lia)];rfl
def NV{α:Type}(a b c:α)(l:List α):fJ (a::b::c::l) 2=some c:=by unfold fJ wo;rw[ck (by lia),ck (by simp;lia)];rfl
def kO(r:R):Res (Option Int):=match r.d with
 |.int i=>.ok (some i)
 |_=>.stuck
def Ep(env:En):w8 env=.ok none:=(rfl)
def Er(a:En->Res R)(env:En):pF a env=(a env).bind kO:=(rfl)
def Na:kO (.val (.int x) f al)=.ok (some x):=(rfl)
def Lg(T:String)(r:R):Res R:=.ok (.val (.bl (FG T r.d)) true [])
def Lh(T:String)(a:En->Res R)(env:En):tP T a env=(a env).bind (Lg T):=(rfl)
def Ip(T:String)(r:R):Lg T r=.ok (.val (.bl (FG T r.d)) true []):=(rfl)
def Iq:FG "int" (.int x)=true:=(rfl)
def Ir:FG "bool" (.int x)=false:=(rfl)
def Iu:FG "list" (.lst ds)=true:=(rfl)
def Iv:FG "tuple" (.tup ds)=true:=(rfl)
def Li(asg:D->Bool->En->Option En)(body:En->Res Fl)(env:En)(s:Src):Res Fl:=de asg s.fr body s.xs (az env s.al)
def xD(src:En->Res Src)(asg:D->Bool->En->Option En)(body:En->Res Fl)(env:En):iP src asg body env=(src env).bind (Li asg body env):=(rfl)
def vQ(asg:D->Bool->En->Option En)(body:En->Res Fl)(env:En)(xs:List D):Li asg body env ⟨xs,f,al⟩=de asg f body xs (az env al):=(rfl)
def Es(r:R):Res Src:=match r.d with
 |.lst ds=>.ok ⟨ds,r.fr,r.al⟩
 |.tup ds=>.ok ⟨ds,r.fr,r.al⟩
 |_=>.stuck
def kN(a:En->Res R)(env:En):g5 a env=(a env).bind Es:=(rfl)
def ij:Es (.val (.lst ds) f al)=.ok ⟨ds,f,al⟩:=(rfl)
def BF:Es (.val (.tup ds) f al)=.ok ⟨ds,f,al⟩:=(rfl)
def Et:Es (.new ds f)=.ok ⟨ds,f,[]⟩:=(rfl)
def NB(rs:List R):Res Src:=match rs.map R.d with
 |[.int j]=>if cR j then .ok ⟨eV 0 j.toNat,true,[]⟩else .stuck
 |_=>.stuck
def Lj(fs:En->Res (List R))(env:En):CJ fs env=(fs env).bind NB:=(rfl)
def Lk(h1:-4611686018427387904<=x)(h2:x<4611686018427387904):cR x=true:=by unfold cR;rw[Of];exact⟨db (by lia),db (by lia)⟩
def ud(h1:-4611686018427387904<=x)(h2:x<4611686018427387904):NB [.val (.int x) f al]=.ok ⟨eV 0 x.toNat,true,[]⟩:=ck (Lk h1 h2)
def vR:az env []=env:=(rfl)
def n6(n:Nat)(caps:List Nat)(asg:D->Bool->En->Option En)(test:En->Res Bool)(elt:En->Res R)(env:En)(s:Src):Res R:=if s.xs.length<=lim then
 (cF (λd=>asg d s.fr (dS env n caps)) test elt s.xs).NC.bind λrs=>.ok (gP (rs.map R.d) (aR rs) (s.al++caps.filter (bW env)))else .stuck
def fq(n:Nat)(caps:List Nat)(src:En->Res Src)(asg:D->Bool->En->Option En)(test:En->Res Bool)(elt:En->Res R)(env:En) :
 d8 n caps src asg test elt env=(src env).bind (n6 n caps asg test elt env):=(rfl)
def iF(hl:xs.length<=1000000)
 (h:cF (λd=>asg d f (dS env n caps)) test elt xs=.ok rs):n6 n caps asg test elt env ⟨xs,f,al⟩=.ok (gP (rs.map R.d) (aR rs) (al++caps.filter (bW env))):=by
 unfold n6;dsimp only;rw[ck (show xs.length<=lim from hl),h];rfl
theorem dt{α:Type}{mk:D->Option En}{test:En->Res Bool}{elt:En->Res R}(g:α->D)(k:α->R):∀(xs:List α),(∀a∈xs,∃e,mk (g a)=some e/\test e=.ok true/\elt e=.ok (k a))->cF mk test elt (xs.map g)=.ok (xs.map k)
 |[],_=>rfl
 |a::r,h=>by obtain⟨e,h1,h2,h3⟩:=h a (by simp);rw[fV,fV];unfold cF;rw[h1];dsimp only;rw[h2];dsimp only[Res.bind];rw[ck rfl,h3,dt g k r λb hb=>h b (by simp[hb])]
theorem jM{α:Type}{mk:D->Option En}{test:En->Res Bool}{elt:En->Res R}(g:α->D)(p:α->Bool)(k:α->R):∀(xs:List α),(∀a∈xs,∃e,mk (g a)=some e/\test e=.ok (p a)/\(p a=true->elt e=.ok (k a)))->cF mk test elt (xs.map g)=.ok ((xs.filter p).map k)
 |[],_=>rfl
 |a::r,h=>by
  obtain⟨e,h1,h2,h3⟩:=h a (by simp);rw[fV];unfold cF;rw[h1];dsimp only;rw[h2];dsimp only[Res.bind];have ih:=jM g p k r λb hb=>h b (by simp[hb]);cases hp:p a with
  |true=>rw[ck rfl,h3 hp,O5,ck hp,ih];rfl
  |false=>rw[cO (by simp),O5,cO (by rw[hp];simp),ih]
def BG(i:Nat)(env:En)(ds:List D)(fr:Bool)(r:R):Res Fl:=if ds.length<lim/\¬i∈r.al then .ok (.nx ((az env r.al).set i (some (.own (ds++[r.d]) (fr&&r.fr)))))else .stuck
def BH(i:Nat)(a:En->Res R)(env:En):Option (Option Sl)->Res Fl
 |some (some (.own ds fr))=>(a env).bind (BG i env ds fr)
 |some (some (.cw (.lst ds)))=>(a env).bind (BG i env ds true)
 |_=>.stuck
def Ll(a:En->Res R)(env:En):tH i a env=BH i a env env[i]?:=by
 unfold tH h7 BH;cases env[i]? with
 |none=>rfl
 |some o=>cases o with
  |none=>rfl
  |some s=>cases s with
   |cw d=>cases d<;>rfl
   |_=>rfl
def Iw(a:En->Res R):BH i a env (some (some (.own ds f)))=(a env).bind (BG i env ds f):=(rfl)
def vS(h:ds.length<1000000)(hr:r.al=[]):BG i env ds f r=.ok (.nx (env.set i (some (.own (ds++[r.d]) (f&&r.fr))))):=by unfold BG;rw[hr];rw[ck ⟨h,by simp⟩];rfl
end
def jN(x:Int):(D.int x).flat=true:=(rfl)
def Eu(x:Bool):(D.bl x).flat=true:=(rfl)
def jO(ds:List D):(D.tup ds).flat=D.ba ds:=(rfl)
def n8(ds:List D):(D.lst ds).flat=false:=(rfl)
def zr:D.ba []=true:=(rfl)
def cD(d:D)(ds:List D):D.ba (d::ds)=(d.flat&&D.ba ds):=(rfl)
def Ew(x:Int):(D.int x).dep=0:=(rfl)
def vT(x:Bool):(D.bl x).dep=0:=(rfl)
def q_(ds:List D):(D.lst ds).dep=D.fA ds+1:=(rfl)
def ue:D.fA []=0:=(rfl)
def pP(d:D)(ds:List D):D.fA (d::ds)=max d.dep (D.fA ds):=(rfl)
def Iy(r:R):pE (.ok (.rt r))=.ok r:=(rfl)
def aL(d:D)(f:Bool)(al:List Nat):(R.val d f al).d=d:=(rfl)
def jP(ds:List D)(f:Bool):(R.new ds f).d=.lst ds:=(rfl)
def Ex(d:D):(R.iS d).d=d:=(rfl)
def BI(d:D)(f:Bool)(al:List Nat):(R.val d f al).fr=f:=(rfl)
def BJ(ds:List D)(f:Bool):(R.new ds f).fr=f:=(rfl)
def BK(d:D):(R.iS d).fr=true:=(rfl)
def n9(d:D)(f:Bool)(al:List Nat):(R.val d f al).al=al:=(rfl)
def BL(ds:List D)(f:Bool):(R.new ds f).al=[]:=(rfl)
def BM(d:D):(R.iS d).al=[]:=(rfl)
def bj{α β:Type}(a:α)(k:α->Res β):(Res.ok a).bind k=k a:=(rfl)
def FU(asg:D->Bool->En->Option En)(fr:Bool)(body:En->Res Fl)(xs:List D):Fl->Res Fl
 |.nx e=>de asg fr body xs e
 |.ct e=>de asg fr body xs e
 |.bk e=>.ok (.nx e)
 |.rt r=>.ok (.rt r)
 |.rm r e=>.ok (.rm r e)
def rf(h:asg x fr env=some env1):de asg fr body (x::xs) env=(body env1).bind (FU asg fr body xs):=by unfold de;rw[h];rfl
def iG(asg:D->Bool->En->Option En)(fr:Bool)(body:En->Res Fl)(xs:List D)(e:En):FU asg fr body xs (.nx e)=de asg fr body xs e:=(rfl)
def Lm:D->Res R
 |.lst ds=>match df ds with
  |some bs=>.ok (.val (.bl (bs.all id)) true [])
  |none=>.stuck
 |_=>.stuck
def Ln(r:R):DQ [r]=Lm r.d:=by rcases r with⟨d,f,al⟩|⟨ds,f⟩|⟨d⟩<;>first|rfl|(cases d<;>rfl)
def NW:((0:Nat):Int)=0:=(rfl)
def NY:((3:Nat):Int)=3:=(rfl)
noncomputable def Nb:D->Res R
 |.int i=>.ok (.val (.int (-i)) true [])
 |_=>.stuck
def Lo(r:R):Res R:=Nb r.d
def Lp(fa:En->Res R)(env:En):DR fa env=(fa env).bind Lo:=by unfold DR;congr 1
def Iz:Lo (.val (.int x) f al)=.ok (.val (.int (-x)) true []):=(rfl)
def Nc(asg:D->Bool->En->Option En)(env:En)(r:R):Res Fl:=match asg r.d r.fr (az env r.al)with
 |some aB=>.ok (.nx aB)
 |none=>.stuck
def Lq(f:En->Res R)(asg:D->Bool->En->Option En)(env:En):DL f asg env=(f env).bind (Nc asg env):=(rfl)
def vU(neg:Bool)(a b:D):Res R:=match b with
 |.bp ks _=>tQ neg a ks
 |.lst ds=>Jp neg a ds
 |.tup ds=>Jp neg a ds
 |_=>.stuck
def Lr(neg:Bool)(a b:R):A6 neg a b=vU neg a.d b.d:=by unfold A6 yZ vU;cases b.d<;>rfl
def Nd(a b:R):A7 a b=vU false a.d b.d:=Lr false a b
def Ls(h:D.fA ds<=50)(h2:a.dep<=50):vU neg a (.lst ds)=.ok (.val (.bl (if neg then !(ds.any λe=>fF e a)else ds.any λe=>fF e a)) true []):=ck ⟨h,h2⟩
def Lu(h:gf a=some k)(hk:ks.all (kH k)=true):vU neg a (.bp ks ds)=.ok (.val (.bl (if neg then !jd ks k else jd ks k)) true []):=by show tQ neg a ks=_;unfold tQ;rw[h];exact ck hk
def putAt(i:Nat)(fk fv:En->Res R)(env:En):Option (Option Sl)->Res Fl
 |some (some (.cw (.bp ks ds)))=>(fv env).bind (xg i fk env ks ds)
 |_=>.stuck
def BN(i:Nat)(fk fv:En->Res R)(env:En):nE i fk fv env=putAt i fk fv env env[i]?:=by unfold nE putAt;rfl
def xE:putAt i fk fv env (some (some (.cw (.bp ks ds))))=(fv env).bind (xg i fk env ks ds):=(rfl)
def Ey(h:r.d.flat=true):xg i fk env ks ds r=(fk env).bind (xf i env ks ds r.d):=ck h
def Ez(h:gf k.d=some x)(h2:ks.all (kH x)=true)(h3:ks.length<1000000):xf i env ks ds d k=.ok (.nx (env.set i (some (.cw (h_ ks ds x d))))):=by unfold xf;rw[h];exact ck ⟨h2,h3⟩
def zt(h:d.flat=false):hW rs (.iS d)=.iS d:=by show FE d true rs=_;unfold FE;rw[cO (by rw[h];simp),ck rfl]
def BO(i:Nat)(fk fv:En->Res R)(env:En):lj i fk fv env=nG i fk fv env env[i]?:=(rfl)
def xF:nG i fk fv env (some (some (.cw (.bp ks ds))))=nE i fk fv env:=(rfl)
def Lw(i:Nat)(fb:En->Res R)(env:En):cB i fb env=pJ i fb env env[i]?:=(rfl)
def BP(fa fk fx:En->Res R)(env:En):tS fa fk fx env=(fa env).bind (KC fk fx env):=(rfl)
def Lx(h:ra.d=.bp ks ds):KC fk fx env ra=(fk env).bind (MR fx env ra ks ds):=by unfold KC;rw[h]
def FV(fx:En->Res R)(env:En)(ra:R)(ks:List DK)(ds:List D)(rk:R):MR fx env ra ks ds rk=(fx env).bind (Mi ra ks ds rk):=(rfl)
def IA:pJ i fb env (some (some (.own ds f)))=qL i fb env:=(rfl)
def EA:pJ i fb env (some (some (.val (.tup ds) f)))=qL i fb env:=(rfl)
def EB:pJ i fb env (some (some (.val (.lst ds) f)))=qL i fb env:=(rfl)
def IB:D->Res R
 |.lst ds=>match df ds with
  |some bs=>.ok (.val (.bl (bs.any id)) true [])
  |none=>.stuck
 |_=>.stuck
def Ly(r:R):vG [r]=IB r.d:=by rcases r with⟨d,f,al⟩|⟨ds,f⟩|⟨d⟩<;>first|rfl|(cases d<;>rfl)
theorem pQ{α:Type}(p:α->Bool):∀xs:List α,df (xs.map λa=>D.bl (p a))=some (xs.map p)
 |[]=>rfl
 |a::r=>by rw[fV];unfold df;rw[pQ p r];rfl
def BQ{α:Type}(p:α->Bool)(xs:List α):IB (.lst (xs.map λa=>D.bl (p a)))=.ok (.val (.bl (xs.any p)) true []):=by show(match df (xs.map λa=>D.bl (p a))with|some bs=>Res.ok (R.val (D.bl (bs.any id)) true [])|none=>Res.stuck)=_;rw[pQ];dsimp only;rw[Ra];rfl
theorem iH:∀k:List Int,ia (k.map .int)=some k
 |[]=>rfl
 |a::r=>by rw[fV];unfold ia;rw[iH r];rfl
theorem pR:∀ks:List (List Int),ib (ks.map tU)=some ks
 |[]=>rfl
 |k::r=>by rw[fV];unfold ib;rw[pR r,show Hx (tU k)=some k from iH k]
def Lz(f:En->Res R)(env:En):DW f env=(f env).bind y_:=(rfl)
def IC(hr:r.d=.lst (ks.map tU))(h:ks.length<=300)(hn:ks.all (λk=>!k.isEmpty)=true):y_ r=.ok (.new ((dg ks).map tU) true):=by unfold y_ DV;rw[hr];dsimp only;rw[pR];dsimp only;rw[ck (by rw[cM,db h,hn];rfl)]
def LA(f:En->Res R)(env:En):D0 f env=(f env).bind zb:=(rfl)
def BR(hr:r.d=.lst (is.map .int))(h:is.length<=63):zb r=.ok (.new ((di is).map .int) true):=by unfold zb;rw[hr];dsimp only;rw[iH];dsimp only;rw[ck h]
def xG:D->Res R
 |.bp ks _=>match gh ks with
  |some _=>if ks.length<=lim then .ok (.val (.int ks.length) true [])else .stuck
  |none=>.stuck
 |d=>Ia d
def BS(r:R):cX [r]=xG r.d:=by unfold cX;dsimp only;rw[K7];cases h:r.d<;>rfl
def EC:xG (.lst ds)=.ok (.val (.int ds.length) true []):=(rfl)
def ED:xG (.tup ds)=.ok (.val (.int ds.length) true []):=(rfl)
def EE{is:List Int}{ds:List D}(hr:r.d=.bp (is.map ik) ds)(h:is.length<=lim):cX [r]=.ok (.val (.int is.length) true []):=by
 have hk:∃xs,gh (is.map ik)=some xs:=by
  clear hr h;induction is with
  |nil=>exact⟨_,rfl⟩
  |cons a r ih=>obtain⟨xs,e⟩:=ih;exact⟨kD (.inl a)::xs,by rw[fV];show(gh (r.map ik)).map (kD (.inl a)::·)=_;rw[e];rfl⟩
 obtain⟨xs,e⟩:=hk;unfold cX;dsimp only;rw[hr];dsimp only;rw[e];dsimp only;rw[ck (by rw[cM];exact h),cM]
def BU(i:Nat)(f:En->Res R)(env:En):Option (Option Sl)->Res Fl
 |some (some (.val (.int n) _))=>(f env).bind (Bm i n env)
 |_=>.stuck
def LB(i:Nat)(f:En->Res R)(env:En):zf i f env=BU i f env env[i]?:=by unfold zf BU;rfl
def ID:BU i f env (some (some (.val (.int n) fr)))=(f env).bind (Bm i n env):=(rfl)
def IE:Bm i n env (.val (.int m) f al)=if i<env.length then .ok (.nx (put env i (.val (.int (n+m)) true [])))else .stuck:=(rfl)
def BV(i r1 r2 r3:Nat)(f:En->Res R)(env:En):Option (Option Sl)->Res Fl
 |some (some (.cw (.bp [] [])))=>(f env).bind (ze i r1 r2 r3 env)
 |_=>.stuck
def LC(i r1 r2 r3:Nat)(f:En->Res R)(env:En):Bk i r1 r2 r3 f env=BV i r1 r2 r3 f env env[i]?:=by unfold Bk BV;rfl
def IF:BV i r1 r2 r3 f env (some (some (.cw (.bp [] []))))=(f env).bind (ze i r1 r2 r3 env):=(rfl)
def IG(fs:En->Res (List R))(env:En):Hy fs env=(fs env).bind DY:=(rfl)
def EF:DY [.val (.lst ds) f al]=.ok ⟨ds.reverse,f,al⟩:=(rfl)
theorem xH:∀ks:List Int,gh (ks.map ik)=some (ks.map .int)
 |[]=>rfl
 |k::r=>by rw[fV];show(gh (r.map ik)).map _=_;rw[xH r];rfl
def bD(ks:List Int):D:=.bp (ks.map ik) (ks.map λ_=>.bl true)
def xI(x:Int)(ks:List Int):(ks.map ik).all (kH (.inl (.inl x)))=true:=by rw[QR,Om];intro k _;rfl
def xJ(ks:List Int)(x:Int):jd (ks.map ik) (.inl (.inl x))=decide (x∈ks):=by
 unfold jd;rw[Ra,Pb,PN,Rb];constructor
 .rintro⟨k,hk,e⟩;have:k=x:=by have:=P5 e;exact PB (PB this)
  exact this▸hk
 .intro h;exact⟨x,h,by simp[ik]⟩
def FW(x:Int)(ks:List Int)(neg:Bool):vU neg (.int x) (bD ks)=.ok (.val (.bl (if neg then !decide (x∈ks)else decide (x∈ks))) true []):=by unfold bD;rw[Lu (k:=.inl (.inl x)) rfl (xI x ks),xJ]
def BW(ks:List Int)(x:Int):h_ (ks.map ik) (ks.map λ_=>D.bl true) (.inl (.inl x)) (.bl true)=bD (dd ks x):=by
 unfold h_;rw[xJ];have hr:∀ks:List Int,xb (ks.map ik) (ks.map λ_=>D.bl true) (.inl (.inl x)) (.bl true)=ks.map λ_=>D.bl true:=by
  intro ks;induction ks with
  |nil=>rfl
  |cons a r ih=>rw[fV,fV];unfold xb;rw[ih];split<;>rfl
 unfold dd;by_cases h:x∈ks
 .rw[ck (db h),ck h,hr];rfl
 .rw[cO (by rw[iA h];simp),cO h];unfold bD;rw[N4,N4];rfl
theorem xK:∀(xs l:List Int),(xs.foldl dd l).length<=l.length+xs.length
 |[],l=>by simp
 |x::r,l=>by have h1:=xK r (dd l x);have h2:=nN l x;simp only[O2,lO];lia
def FX(i:Nat)(env:En)(r:R):Res Fl:=if i<env.length then .ok (.nx ((az env r.al).set i (some (.val r.d r.fr))))else .stuck
def IH(i:Nat)(a:En->Res R)(env:En):ie i a env=(a env).bind (FX i env):=(rfl)
def EG(h:i<env.length):FX i env r=.ok (.nx ((az env r.al).set i (some (.val r.d r.fr)))):=ck h
def rh(f:Bool)(al:List Nat):D->Res R
 |.bp ks _=>match gh ks with
  |some xs=>if xs.length<=lim then .ok (.new xs true)else .stuck
  |none=>.stuck
 |d=>xC f al d
def xL(r:R):kJ [r]=rh r.fr r.al r.d:=by unfold kJ rh;dsimp only;cases h:r.d<;>first|rfl|(dsimp only;rw[Ib,h])
def BX(h:ks.length<=1000000):rh f al (bD ks)=.ok (.new (ks.map .int) true):=by show(match gh (ks.map ik)with|some xs=>if xs.length<=lim then Res.ok (R.new xs true)else .stuck|none=>.stuck)=_;rw[xH];dsimp only;rw[ck (by rw[cM];exact h)]
def uf(h:f env=.ok (.val (.lst ds) fr al)):dW n caps f asg ft fe env=d8 n caps (g5 f) asg ft fe env:=by unfold dW;rw[h];rfl
def BY(h:f env=.ok (.val (.tup ds) fr al)):dW n caps f asg ft fe env=d8 n caps (g5 f) asg ft fe env:=by unfold dW;rw[h];rfl
def FY(fl fh:En->Res (Option Int))(env:En)(r:R):Res R:=(fl env).bind λlo=>(fh env).bind λhi=>lu r lo hi
def FZ(fh:En->Res (Option Int))(env:En)(r:R)(lo:Option Int):Res R:=(fh env).bind λhi=>lu r lo hi
def BZ(fa:En->Res R)(fl fh:En->Res (Option Int))(env:En):jI fa fl fh env=(fa env).bind (FY fl fh env):=(rfl)
def EH(fl fh:En->Res (Option Int))(env:En)(r:R):FY fl fh env r=(fl env).bind (FZ fh env r):=(rfl)
def EI(fh:En->Res (Option Int))(env:En)(r:R)(lo:Option Int):FZ fh env r lo=(fh env).bind (lu r lo):=(rfl)
def EJ(lo hi:Option Int):lu (.val (.lst ds) f al) lo hi=.ok (gP (e_ ds lo hi) f al):=(rfl)
end L3
local macro_rules|`(tactic| simp_arith[$as,*] $[$l:location]?)=>do
 let ls←("L3.iQ L3.h9 L3.Lz L3.LA L3.LB L3.ID L3.IE L3.LC L3.IF L3.BS L3.EC L3.ED L3.BZ L3.EH L3.EI L3.EJ L3.IH L3.EG L3.xL decide_true decide_false List.map_cons List.map_nil List.length_cons List.length_nil List.replicate List.cons_append List.nil_append List.append_nil Nat.reduceAdd Nat.max_self Nat.zero_max Nat.max_zero Nat.zero_add Nat.reduceSub L3.fO L3.FM L3.MY L3.KU L3.KP L3.KQ L3.KR L3.KS L3.HU L3.HV L3.jN L3.Eu L3.jO L3.n8 L3.zr L3.cD L3.Ew L3.vT L3.q_ L3.ue L3.pP L3.MX L3.bj List.getElem?_cons_zero List.getElem?_cons_succ L3.KY L3.KZ L3.KW L3.HW Int.reduceLT Int.reduceLE Int.reduceNeg L3.HP L3.HQ L3.HR L3.HS L3.jL L3.MV List.set_cons_zero List.set_cons_succ Nat.reduceLT Nat.reduceLeDiff L3.HM L3.KJ L3.FK L3.FL L3.KM L3.HN L3.MZ L3.M7 L3.FN L3.Ec L3.Ed L3.Ee L3.HX L3.Ef L3.Eg L3.Bx L3.K4 L3.HY L3.K6 L3.HZ L3.By L3.zp L3.Bz L3.zq L3.H_ L3.Eh L3.BB L3.BC L3.BD L3.BE L3.M8 L3.K8 L3.M9 L3.Ic L3.Ie L3.Ig L3.Ej L3.La L3.Lb L3.Ih L3.Ek L3.Ii L3.Ij L3.M_ L3.Lc L3.Ld L3.Le L3.Lf L3.Ik L3.Il L3.Im L3.b7 L3.NU L3.NV L3.Ep L3.Er L3.Na L3.Lh L3.Ip L3.Iq L3.Ir L3.Iu L3.Iv L3.xD L3.vQ L3.kN L3.ij L3.BF L3.Et L3.Lj L3.vR L3.Lp L3.Iz L3.Lq L3.NW L3.NY Int.reduceBEq L3.Ln Bool.not_not Nat.reduceEqDiff L3.fq L3.Ll L3.Iw L3.aL L3.jP L3.Ex L3.BI L3.BJ L3.BK L3.n9 L3.BL L3.BM L3.iG Bool.and_true Bool.true_and Bool.and_false Bool.false_and Bool.and_self Bool.not_true Bool.not_false L3.Iy L3.vO L3.xB L3.Nd L3.BO L3.xF L3.BN L3.xE L3.Lw L3.IA L3.EA L3.EB L3.Ly L3.IG L3.EF L3.BP L3.FV L3.zt".splitOn " ").toArray.mapM λs=>`(Lean.Parser.Tactic.simpLemma| $(Lean.mkIdent s.toName):ident)
 `(tactic| simp only[$[$ls:simpLemma],*,$as,*] $[$l]?)
local macro_rules|`(tactic| simp_arith $[$l:location]?)=>`(tactic| simp_arith[L3.bj] $[$l]?)
namespace L3
open PySem L2
def ug{α β:Type}(g:α->β)(xs:List α)(lo hi:Option Int):e_ (xs.map g) lo hi=(e_ xs lo hi).map g:=by unfold e_;rw[cM,List.map_take,List.map_drop]
def B0:(∀d∈ds,d.flat=true)->D.ba ds=true:=by
 induction ds with
 |nil=>intro _;rfl
 |cons d r ih=>intro h;rw[cD,h d (by simp),ih λx hx=>h x (by simp[hx])];rfl
def cG{α:Type}(g:α->D)(xs:List α)(h:∀a,(g a).flat=true):D.ba (xs.map g)=true:=B0 λd hd=>by obtain⟨a,_,rfl⟩:=j3.mp hd;exact h a
def bg(xs:List Int):D.ba (xs.map D.int)=true:=cG _ _ jN
def EK:(∀d∈ds,d.dep<=n)->D.fA ds<=n:=by
 induction ds with
 |nil=>intro _;rw[ue];lia
 |cons d r ih=>intro h;have h1:=h d (by simp);have h2:=ih λx hx=>h x (by simp[hx]);rw[pP];lia
def n_{α:Type}{g:α->D}{xs:List α}{n:Nat}(h:∀a,(g a).dep<=n):D.fA (xs.map g)<=n:=EK λd hd=>by obtain⟨a,_,rfl⟩:=j3.mp hd;exact h a
def kP(xs:List Int):D.fA (xs.map D.int)<=0:=n_ λ_=>cN 0
def B5{α:Type}(g:α->D)(xs:List α):aR (xs.map λa=>.val (g a) true [])=true:=by unfold aR;rw[Om];intro r h;obtain⟨a,_,rfl⟩:=j3.mp h;rfl
def pS{α:Type}(g:α->D)(fr:Bool)(al:List Nat)(xs:List α):(xs.map λa=>R.val (g a) fr al).map R.d=xs.map g:=by rw[v9];rfl
def jQ(n:Nat):eV 0 n=(List.range n).map λk=>.int (k:Nat):=by unfold eV;congr 1;funext k;simp
theorem il{α:Type}(g:α->D){asg:D->Bool->En->Option En}{fr:Bool}{body:En->Res Fl}(P:List α->En->Prop):∀(xs pre:List α)(env:En),P pre env->
 (∀(pre post:List α)(a:α)(env:En),(∀b∈pre,b∈pre)->P pre env->a∈xs->∃env1 env2,asg (g a) fr env=some env1/\body env1=.ok (.nx env2)/\P (pre++[a]) env2)->
 ∃aB,de asg fr body (xs.map g) env=.ok (.nx aB)/\P (pre++xs) aB
 |[],pre,env,h,_=>⟨env,rfl,by rw[Oo];exact h⟩
 |a::r,pre,env,h,st=>by obtain⟨env1,env2,h1,h2,h3⟩:=st pre [] a env (λ_ z=>z) h (by simp);obtain⟨aB,e1,e2⟩:=il g P r (pre++[a]) env2 h3 λp q b e z hp hb=>st p q b e z hp (by simp[hb]);refine⟨aB,?_,by rw[fC]at e2;exact e2⟩;rw[fV];unfold de;rw[h1];dsimp only;rw[h2];exact e1
def cell(ns:List Int)(k:Int):Int:=if k<ns.length then((fJ ns k).getD 0%2147483647+11+k*k)*48271%2147483647 else 0
def EL(ns:List Int)(k:Int):0<=cell ns k:=by unfold cell;split<;>lia
def xM{α β:Type}(g:α->β)(xs:List α)(k:Int):fJ (xs.map g) k=(fJ xs k).map g:=by
 unfold fJ;rw[cM];cases wo xs.length k with
 |none=>rfl
 |some j=>simp
def B6{α:Type}{xs:List α}{k:Int}(h0:0<=k)(h:k<xs.length):∃a,fJ xs k=some a/\xs[k.toNat]?=some a:=by
 unfold fJ wo;rw[ck h0,ck h];have:k.toNat<xs.length:=by lia
 exact⟨xs[k.toNat],by simp[this],by simp[this]⟩
end L3
namespace W
open PySem PySem.Spec PyProof.Rows L2 L3
def top(i:Nat):Stmt:=PySem.Challenge.pw_callwalk_k12_listing.main.body.getD i (.Pass ⟨0,0,0,0⟩)
abbrev bA:Stmt:=top 5
noncomputable abbrev im:List Str:=["_law_script","_law_k"]
noncomputable abbrev b0:List Str:=["_law_script","_law_k"]
def l0:bt im b0 (ao bA):=⟨rfl,rfl,rfl,by decide +kernel,rfl,by decide +kernel,by decide +kernel⟩
def fw:En->Res Fl:=
 (aM (tG (vB (v2 wW (ah 1) (j9 cX (ak (ah 0) ay)))) (dR (v2 gc (v2 vA (v2 dF (v2 dF (v2 gc (cB 0 (ah 1)) (vC (.int 2147483647))) (vC (.int 11))) (v2 vA (ah 1) (ah 1))) (vC (.int 48271))) (vC (.int 2147483647)))) iO)
 (dR (vC (.int 0))))
def aU:List D->Res R:=iQ im fw
abbrev bn:Stmt:=top 7
noncomputable abbrev gS:List Str:=["_law_cell","_law_rooms","_law_signs","_law_room","_law_many","_law_stack","_law_k"]
noncomputable abbrev bL:List Str:=["_law_cell","_law_rooms","_law_signs"]
def sc__law_standing:bt gS bL (ao bn):=⟨rfl,rfl,rfl,by decide +kernel,rfl,by decide +kernel,by decide +kernel⟩
def bX:En->Res Fl:=λenv=>
 (aM (tH 5 (v2 gc (ah 0) (ah 2)))
 (b_ 0 (v2 nt (ah 0) (ah 2)))) env
def gU:En->Res Fl:=
 (aM (b_ 0 (v2 gc (v2 vA (v2 dF (v2 gc (ah 0) (vC (.int 2147483629))) (vC (.int 5))) (vC (.int 69621))) (vC (.int 2147483629))))
 (aM (b_ 3 (v2 gc (ah 0) (ah 1)))
 (aM (b_ 0 (v2 nt (ah 0) (ah 1)))
 (aM (b_ 4 (v2 gc (ah 0) (vC (.int 5))))
 (aM (b_ 0 (v2 nt (ah 0) (vC (.int 5))))
 (aM (b_ 5 (lV ay))
 (aM (iP (CJ (ak (ah 4) ay)) (gN 6) bX)
 (dR (cV (ak (ah 3) (ak (ah 5) ay)))))))))))
def bM:List D->Res R:=iQ gS gU
abbrev cH:Stmt:=top 8
noncomputable abbrev lC:List Str:=["_law_cell","_law_rooms","_law_signs","_law_number","_law_stack","_law_k"]
noncomputable abbrev dI:List Str:=["_law_cell","_law_rooms","_law_signs"]
def sc__law_long:bt lC dI (ao cH):=⟨rfl,rfl,rfl,by decide +kernel,rfl,by decide +kernel,by decide +kernel⟩
def dv:En->Res Fl:=λenv=>
 (aM (b_ 3 (v2 gc (v2 dF (v2 dF (v2 vA (ah 3) (vC (.int 48271))) (v2 vA (ah 5) (ah 5))) (vC (.int 11))) (vC (.int 2147483647))))
 (tH 4 (v2 gc (v2 nt (ah 3) (vC (.int 7))) (ah 2)))) env
def lD:En->Res Fl:=
 (aM (b_ 3 (v2 gc (ah 0) (vC (.int 2147483647))))
 (aM (b_ 4 (lV ay))
 (aM (iP (CJ (ak (v2 dF (vC (.int 60)) (v2 gc (ah 0) (vC (.int 40)))) ay)) (gN 5) dv)
 (dR (cV (ak (v2 gc (ah 3) (ah 1)) (ak (ah 4) ay)))))))
def fP:List D->Res R:=iQ lC lD
abbrev cI:Stmt:=top 2
noncomputable abbrev uh:List Str:=["house","stack","known","state","sign"]
noncomputable abbrev dJ:List Str:=["house","stack","known"]
def sc_state_for:bt uh dJ (ao cI):=⟨rfl,rfl,rfl,by decide +kernel,rfl,by decide +kernel,by decide +kernel⟩
abbrev gn:Stmt:=top 1
noncomputable abbrev ui:List Str:=["states","arrows","ends"]
noncomputable abbrev io:List Str:=["states","arrows","ends"]
def zu:bt ui io (ao gn):=⟨rfl,rfl,rfl,by decide +kernel,rfl,by decide +kernel,by decide +kernel⟩
def uj:En->Res Fl:=(dR (cV (ak (ah 0) (ak (DW (ah 1)) (ak (D0 (ah 2)) ay)))))
def jR:List D->Res R:=iQ ui uj
abbrev ce:Stmt:=top 3
noncomputable abbrev gp:List Str:=["house","standings","known","tops","beneath","ended"]
noncomputable abbrev gq:List Str:=["house","standings"]
def sc_listing:bt gp gq (ao ce):=⟨rfl,rfl,rfl,by decide +kernel,rfl,by decide +kernel,by decide +kernel⟩
def iY:((["room","stack"]:List Str)++(["house","known"]:List Str)).Nodup:=by decide +kernel
def iZ:((["top","state"]:List Str)++([]:List Str)).Nodup:=by decide +kernel
def i0:((["room","stack"]:List Str)++([]:List Str)).Nodup:=by decide +kernel
def fQ:En->Res R:=λenv=>(cV (ak (ah 1) (ak (cB 0 (vC (.int 0))) (ak (cB 0 (vC (.int 1))) ay)))) env
def fR:En->Res Bool:=λenv=>(vB (v2 DF (j9 cX (ak (ah 1) ay)) (vC (.int 0)))) env
def fS:En->Res R:=λenv=>(ah 0) env
def pT:En->Res Fl:=
 (aM (b_ 2 (λ_=>.ok (.iS (.bp [] []))))
 (aM (L4.xx 3 2 0 1)
 (aM (b_ 4 (nW 2 [] (ah 2) (gT 2 (aF (gN 0) (aF (gN 1) dG))) (λ_=>.ok true) fQ))
 (aM (b_ 5 (d8 2 [] (g5 (ah 1)) (gT 2 (aF (gN 0) (aF (gN 1) dG))) fR fS))
 (dR (cn jR (ak (v2 dF (v2 dF (cB 0 (vC (.int 0))) (vC (.int 1))) (j9 L4.uc (ak (ah 2) ay))) (ak (v2 dF (ah 3) (ah 4)) (ak (v2 dF (ah 5) (lV (ak (cB 0 (vC (.int 0))) ay))) ay)))))))))
def iI:List D->Res R:=iQ gp pT
abbrev cf:Stmt:=top 6
noncomputable abbrev jS:List Str:=["_law_found"]
noncomputable abbrev cY:List Str:=["_law_found"]
def oM:bt jS cY (ao cf):=⟨rfl,rfl,rfl,by decide +kernel,rfl,by decide +kernel,by decide +kernel⟩
def jT:En->Res Fl:=(dR (He (tP "int" (ah 0)) (Hd (tP "bool" (ah 0)))))
def cg:List D->Res R:=iQ jS jT
abbrev aV:Stmt:=top 9
noncomputable abbrev cZ:List Str:=["_law_found","_law_rooms","_law_signs","_law_arrow","_law_state"]
noncomputable abbrev b6:List Str:=["_law_found","_law_rooms","_law_signs"]
def sc__law_machine:bt cZ b6 (ao aV):=⟨rfl,rfl,rfl,by decide +kernel,rfl,by decide +kernel,by decide +kernel⟩
def fy:((["_law_part"]:List Str)++([]:List Str)).Nodup:=by decide +kernel
def bb:En->Res R:=λenv=>(cn cg (ak (ah 0) ay)) env
def bB:En->Res Fl:=λenv=>
 (aM (tG (zK (jy (lU (tP "tuple" (ah 3)))) (zK (vB (v2 yQ (j9 cX (ak (ah 3) ay)) (vC (.int 3)))) (jy (lU (j9 DQ (ak (dW 1 [] (ah 3) (gN 0) (λ_=>.ok true) bb) ay)))))) (dR (vC (.bl false))) iO)
 (tG (zK (jy (vB (je Jn wW (vC (.int 0)) (cB 3 (vC (.int 0))) (cB 0 (vC (.int 0)))))) (zK (jy (vB (je Jn wW (vC (.int 0)) (cB 3 (vC (.int 1))) (ah 2)))) (jy (vB (je Jn wW (ah 1) (cB 3 (vC (.int 2))) (cB 0 (vC (.int 0)))))))) (dR (vC (.bl false))) iO)) env
def bC:En->Res Fl:=λenv=>(tG (zK (jy (lU (cn cg (ak (ah 4) ay)))) (jy (vB (je Jn wW (vC (.int 0)) (ah 4) (cB 0 (vC (.int 0))))))) (dR (vC (.bl false))) iO) env
def ip:En->Res Fl:=
 (aM (tG (zK (jy (lU (tP "tuple" (ah 0)))) (zK (vB (v2 yQ (j9 cX (ak (ah 0) ay)) (vC (.int 3)))) (zK (jy (lU (cn cg (ak (cB 0 (vC (.int 0))) ay)))) (vB (v2 wW (cB 0 (vC (.int 0))) (ah 1)))))) (dR (vC (.bl false))) iO)
 (aM (tG (zK (jy (lU (tP "list" (cB 0 (vC (.int 1)))))) (jy (lU (tP "list" (cB 0 (vC (.int 2))))))) (dR (vC (.bl false))) iO)
 (aM (iP (g5 (cB 0 (vC (.int 1)))) (gN 3) bB)
 (aM (iP (g5 (cB 0 (vC (.int 2)))) (gN 4) bC)
 (aM (tG (vB (v2 yQ (cB 0 (vC (.int 1))) (DW (cB 0 (vC (.int 1)))))) (dR (vC (.bl false))) iO)
 (dR (v2 DF (cB 0 (vC (.int 2))) (D0 (cB 0 (vC (.int 2)))))))))))
def c6:List D->Res R:=iQ cZ ip
abbrev cJ:Stmt:=top 10
noncomputable abbrev lF:List Str:=["_law_machine_here","_law_outs_here","_law_state","_law_sign","_law_far"]
noncomputable abbrev dL:List Str:=["_law_machine_here"]
def sc__law_outs:bt lF dL (ao cJ):=⟨rfl,rfl,rfl,by decide +kernel,rfl,by decide +kernel,by decide +kernel⟩
def lG:En->Res Fl:=
 (aM (b_ 1 (λ_=>.ok (.iS (.bp [] []))))
 (aM (Bk 1 2 3 4 (cB 0 (vC (.int 1))))
 (dR (ah 1))))
def dM:List D->Res R:=iQ lF lG
abbrev cK:Stmt:=top 11
noncomputable abbrev lH:List Str:=["_law_machine_here","_law_live_here","_law_state","_law_size","_law_sign","_law_far"]
noncomputable abbrev dN:List Str:=["_law_machine_here"]
def sc__law_live:bt lH dN (ao cK):=⟨rfl,rfl,rfl,by decide +kernel,rfl,by decide +kernel,by decide +kernel⟩
def fY:En->Res Fl:=λenv=>(lj 1 (ah 2) (vC (.bl true))) env
def bP:En->Res Fl:=λenv=>(tG (vB (v2 A7 (ah 5) (ah 1))) (lj 1 (ah 2) (vC (.bl true))) iO) env
def dw:En->Res Fl:=λenv=>
 (aM (b_ 3 (j9 cX (ak (ah 1) ay)))
 (iP (Hy (ak (cB 0 (vC (.int 1))) ay)) (gT 3 (aF (gN 2) (aF (gN 4) (aF (gN 5) dG)))) bP)) env
def lI:En->Res Fl:=
 (aM (b_ 1 (λ_=>.ok (.iS (.bp [] []))))
 (aM (iP (g5 (cB 0 (vC (.int 2)))) (gN 2) fY)
 (aM (b_ 3 (DR (vC (.int 1))))
 (aM (cq (vB (v2 wW (ah 3) (j9 cX (ak (ah 1) ay)))) dw 100000)
 (dR (ah 1))))))
def dO:List D->Res R:=iQ lH lI
abbrev ci:Stmt:=top 12
noncomputable abbrev jU:List Str:=["_law_outs_here","_law_here","_law_sign","_law_there_here","_law_state","_law_far"]
noncomputable abbrev c7:List Str:=["_law_outs_here","_law_here","_law_sign"]
def sc__law_there:bt jU c7 (ao ci):=⟨rfl,rfl,rfl,by decide +kernel,rfl,by decide +kernel,by decide +kernel⟩
def c8:En->Res Fl:=λenv=>(lj 3 (ah 5) (vC (.bl true))) env
def c9:En->Res Fl:=λenv=>(iP (g5 (tS (ah 0) (cV (ak (ah 4) (ak (ah 2) ay))) (lV ay))) (gN 5) c8) env
def jV:En->Res Fl:=
 (aM (b_ 3 (λ_=>.ok (.iS (.bp [] []))))
 (aM (lr (ah 1) (gN 4) c9)
 (dR (j9 kJ (ak (ah 3) ay)))))
def c_:List D->Res R:=iQ jU jV
abbrev aW:Stmt:=top 13
noncomputable abbrev bH:List Str:=["_law_machine_here","_law_rooms","_law_signs","_law_standings","_law_listed","_law_begun","_law_room","_law_stack","_law_k","_law_outs_here","_law_live_here","_law_rows","_law_at","_law_done","_law_here","_law_sign","_law_there_here"]
noncomputable abbrev dP:List Str:=["_law_machine_here","_law_rooms","_law_signs","_law_standings"]
def sc__law_just:bt bH dP (ao aW):=⟨rfl,rfl,rfl,by decide +kernel,rfl,by decide +kernel,by decide +kernel⟩
def l6:((["_law_room"]:List Str)++([]:List Str)).Nodup:=by decide +kernel
def gV:((["_law_state"]:List Str)++(["_law_machine_here"]:List Str)).Nodup:=by decide +kernel
def gW:((["_law_state"]:List Str)++(["_law_live_here"]:List Str)).Nodup:=by decide +kernel
def dy:En->Res Fl:=λenv=>(nU 5 (cV (ak (ah 6) (ak (j9 gK (ak (jI (ah 7) w8 (pF (v2 dF (ah 8) (vC (.int 1))))) ay)) ay))) (vC (.bl true))) env
def cu:En->Res Fl:=λenv=>
 (aM (nU 4 (cV (ak (ah 6) (ak (j9 gK (ak (ah 7) ay)) ay))) (vC (.bl true)))
 (iP (CJ (ak (j9 cX (ak (ah 7) ay)) ay)) (gN 8) dy)) env
def cv:En->Res R:=λenv=>(cV (ak (ah 0) (ak (cV ay) (ak (lV (ak (ah 0) ay)) ay)))) env
def bv:En->Res R:=λenv=>(v2 A7 (ah 0) (cB 1 (vC (.int 2)))) env
def dz:En->Res R:=λenv=>(v2 A7 (ah 0) (ah 1)) env
def dA:En->Res Fl:=λenv=>
 (aM (ie 16 (cn c_ (ak (ah 9) (ak (ah 14) (ak (ah 15) ay)))))
 (tG (vB (t7 5 (cV (ak (ah 6) (ak (v2 L4.lB (ah 13) (cV (ak (ah 15) ay))) ay))))) (tH 11 (cV (ak (ah 6) (ak (v2 L4.lB (ah 13) (cV (ak (ah 15) ay))) (ak (ah 16) ay))))) (tG (lU (j9 vG (ak (dW 1 [10] (ah 16) (gN 0) (λ_=>.ok true) dz) ay))) (dR (vC (.bl false))) iO))) env
def dC:En->Res Fl:=λenv=>
 (aM (DL (cB 11 (ah 12)) (gT 3 (aF (gN 6) (aF (gN 13) (aF (gN 14) dG)))))
 (aM (zf 12 (vC (.int 1)))
 (aM (tG (vB (v2 yQ (j9 vG (ak (dW 1 [0] (ah 14) (gN 0) (λ_=>.ok true) bv) ay)) (t7 4 (cV (ak (ah 6) (ak (ah 13) ay)))))) (dR (vC (.bl false))) iO)
 (iP (CJ (ak (ah 2) ay)) (gN 15) dA)))) env
def lJ:En->Res Fl:=
 (aM (pO 4)
 (aM (pO 5)
 (aM (lr (ah 3) (gT 2 (aF (gN 6) (aF (gN 7) dG))) cu)
 (aM (ie 9 (cn dM (ak (ah 0) ay)))
 (aM (ie 10 (cn dO (ak (ah 0) ay)))
 (aM (b_ 11 (d8 1 [] (CJ (ak (ah 1) ay)) (gN 0) (λ_=>.ok true) cv))
 (aM (b_ 12 (vC (.int 0)))
 (aM (cq (vB (v2 wW (ah 12) (j9 cX (ak (ah 11) ay)))) dC 100000)
 (dR (vC (.bl true)))))))))))
def fT:List D->Res R:=iQ bH lJ
abbrev lK:Stmt:=top 14
noncomputable abbrev xN:List Str:=["_law_script","_law_size","_law_rooms","_law_signs","_law_standings","_law_far","_law_handed","_law_found"]
noncomputable abbrev uk:List Str:=["_law_script"]
def sc_law:bt xN uk (ao lK):=⟨rfl,rfl,rfl,by decide +kernel,rfl,by decide +kernel,by decide +kernel⟩
def zw:((["_law_cell"]:List Str)++(["_law_rooms","_law_signs"]:List Str)).Nodup:=by decide +kernel
def pU:((["_law_room","_law_stack"]:List Str)++([]:List Str)).Nodup:=by decide +kernel
def jW:En->Res R:=λenv=>(cn bM (ak (ah 0) (ak (ah 1) (ak (ah 2) ay)))) env
def mE:En->Res R:=λenv=>(cV (ak (ah 0) (ak (j9 kJ (ak (ah 1) ay)) ay))) env
def ul:En->Res Fl:=λenv=>(dR (cn fT (ak (ah 7) (ak (ah 2) (ak (ah 3) (ak (ah 4) ay)))))) env
def um:En->Res Fl:=λenv=>
 (aM (tG (zK (jy (lU (cn c6 (ak (ah 7) (ak (ah 2) (ak (ah 3) ay)))))) (vB (v2 yQ (ah 6) (ah 4)))) (dR (vC (.bl false))) iO)
 ul) env
def rj:En->Res Fl:=λenv=>
 (aM (ie 7 (cn iI (ak (cV (ak (ah 2) (ak (ah 3) (ak (lV ay) ay)))) (ak (ah 6) ay))))
 um) env
def jX:En->Res Fl:=λenv=>
 (aM (b_ 6 (d8 2 [] (g5 (ah 4)) (gT 2 (aF (gN 0) (aF (gN 1) dG))) (λ_=>.ok true) mE))
 rj) env
def mF:En->Res Fl:=λenv=>
 (aM (tG (vB (v2 DF (v2 gc (ah 5) (vC (.int 6))) (vC (.int 1)))) (b_ 4 (v2 dF (lV (ak (cn fP (ak (v2 nt (ah 5) (vC (.int 6))) (ak (ah 2) (ak (ah 3) ay)))) ay)) (ah 4))) iO)
 jX) env
def xO:En->Res Fl:=λenv=>
 (aM (ie 5 (cn aU (ak (ah 0) (ak (vC (.int 1)) ay))))
 mF) env
def rn:En->Res Fl:=λenv=>
 (aM (b_ 4 (d8 1 [2,3] (g5 (jI (ah 0) (pF (vC (.int 2))) (pF (vC (.int 26))))) (gN 0) (λ_=>.ok true) jW))
 xO) env
def rp:En->Res Fl:=λenv=>
 (aM (tG (vB (v2 DF (v2 gc (v2 nt (ah 1) (vC (.int 12))) (vC (.int 4))) (vC (.int 1)))) (aM (b_ 2 (v2 dF (vC (.int 1)) (v2 gc (v2 nt (ah 1) (vC (.int 48))) (vC (.int 8)))))
 (b_ 3 (v2 dF (vC (.int 1)) (v2 gc (v2 nt (ah 1) (vC (.int 384))) (vC (.int 40)))))) iO)
 rn) env
def rq:En->Res Fl:=λenv=>
 (aM (b_ 3 (v2 dF (vC (.int 1)) (v2 gc (v2 nt (ah 1) (vC (.int 3))) (vC (.int 4)))))
 rp) env
def rA:En->Res Fl:=λenv=>
 (aM (b_ 2 (v2 dF (vC (.int 1)) (v2 gc (ah 1) (vC (.int 3)))))
 rq) env
def B7:En->Res Fl:=
 (aM (ie 1 (cn aU (ak (ah 0) (ak (vC (.int 0)) ay))))
 rA)
def pV:List D->Res R:=iQ xN B7
set_option genInjectivity false in
structure Tx(K:Rx) (mg:Str->Option Rz) where
 f_a:Addr
 fd_a:FuncData
 h_a:Fn K mg "_law_cell_at" bA b0 f_a fd_a
 f_b:Addr
 fd_b:FuncData
 h_b:Fn K mg "_law_standing" bn bL f_b fd_b
 f_c:Addr
 fd_c:FuncData
 h_c:Fn K mg "_law_long" cH dI f_c fd_c
 f_d:Addr
 fd_d:FuncData
 h_d:Fn K mg "state_for" cI dJ f_d fd_d
 f_e:Addr
 fd_e:FuncData
 h_e:Fn K mg "formed" gn io f_e fd_e
 f_f:Addr
 fd_f:FuncData
 h_f:Fn K mg "listing" ce gq f_f fd_f
 f_g:Addr
 fd_g:FuncData
 h_g:Fn K mg "_law_whole" cf cY f_g fd_g
 f_h:Addr
 fd_h:FuncData
 h_h:Fn K mg "_law_machine" aV b6 f_h fd_h
 f_i:Addr
 fd_i:FuncData
 h_i:Fn K mg "_law_outs" cJ dL f_i fd_i
 f_j:Addr
 fd_j:FuncData
 h_j:Fn K mg "_law_live" cK dN f_j fd_j
 f_k:Addr
 fd_k:FuncData
 h_k:Fn K mg "_law_there" ci c7 f_k fd_k
 f_l:Addr
 fd_l:FuncData
 h_l:Fn K mg "_law_just" aW dP f_l fd_l
 f_m:Addr
 fd_m:FuncData
 h_m:Fn K mg "law" lK uk f_m fd_m
 Jc:mg "all"=none
 Cz:mg "any"=none
 E_:mg "bool"=none
 Ji:mg "int"=none
 bQ:mg "isinstance"=none
 dZ:mg "len"=none
 mI:mg "list"=none
 gv:mg "range"=none
 lM:mg "reversed"=none
 rO:mg "set"=none
 iJ:mg "sorted"=none
 gx:mg "tuple"=none
section
variable{P:Ry}{w:World}{K:Rx}{mg:Str->Option Rz}{base:Heap}
def gX(t:Tx K mg):cS P w K mg base oz 1 t.f_a t.fd_a b0 (tB mg 2 aU):=
 gQ t.h_a.fu l0 λcdv A outer s H E hr=>
  have hu:=hr.units
  (aj (cW (b8 (k_) (qv 1) (bx eh (by rfl) t.dZ (by decide +kernel) (ac (qv 0) am)) (cT _)) (ar (aP (aE bS (aE nu (aE bU (aE bU (aE bS (vH (vD (pv 0) (qv 1) (λ_ _=>rfl)) (qU hu (qK (pv 0)) (qv 1) (λ_ _=>rfl))) aw) aw) (aE nu (qv 1) (qv 1))) aw) aw))) bz)
    (ar (aP aw)))
def kQ(t:Tx K mg):cS P w K mg base oz 1 t.f_b t.fd_b bL (tB mg 3 bM):=
 gQ t.h_b.fu sc__law_standing λcdv A outer s H E hr=>
  have hu:=hr.units
  (aj (aQ sc__law_standing.nd rfl (.inl rfl) (aE bS (aE nu (aE bU (aE bS (qv 0) aw) aw) aw) aw))
    (aj (aQ sc__law_standing.nd rfl (.inl rfl) (aE bS (qv 0) (qv 1)))
    (aj (aQ sc__law_standing.nd rfl (.inl rfl) (aE gF (qv 0) (qv 1)))
    (aj (aQ sc__law_standing.nd rfl (.inl rfl) (aE bS (qv 0) aw))
    (aj (aQ sc__law_standing.nd rfl (.inl rfl) (aE gF (qv 0) aw))
    (aj (aQ sc__law_standing.nd rfl (.inl rfl) (hV am))
    (aj (cc Oa rfl (dk (by rfl) t.gv (ac (qv 4) am)) (av sc__law_standing.nd rfl (.inl rfl)) (aj (qQ (pv 5) (aE bS (qv 0) (qv 2)))
    (ar (aQ sc__law_standing.nd rfl (.inl rfl) (aE gF (qv 0) (qv 2))))))
    (ar (aP (bI (ac (qv 3) (ac (qv 5) am))))))))))))
def rB(t:Tx K mg):cS P w K mg base oz 1 t.f_c t.fd_c dI (tB mg 3 fP):=
 gQ t.h_c.fu sc__law_long λcdv A outer s H E hr=>
  have hu:=hr.units
  (aj (aQ sc__law_long.nd rfl (.inl rfl) (aE bS (qv 0) aw))
    (aj (aQ sc__law_long.nd rfl (.inl rfl) (hV am))
    (aj (cc Oa rfl (dk (by rfl) t.gv (ac (aE bU aw (aE bS (qv 0) aw)) am)) (av sc__law_long.nd rfl (.inl rfl)) (aj (aQ sc__law_long.nd rfl (.inl rfl) (aE bS (aE bU (aE bU (aE nu (qv 3) aw) (aE nu (qv 5) (qv 5))) aw) aw))
    (ar (qQ (pv 4) (aE bS (aE gF (qv 3) aw) (qv 2))))))
    (ar (aP (bI (ac (aE bS (qv 3) (qv 1)) (ac (qv 4) am))))))))
def rC(t:Tx K mg):cS P w K mg base oz 1 t.f_d t.fd_d dJ L4.CA:=
 t.h_d.fu.ok sc_state_for (λ_ _ _ _ h=>L4.Bq h) λcdv A outer s H vs Q E hr h=>
  ⟨_,mL (mM (i:=3) sc_state_for.nd rfl (Or.inl rfl) (wu ix_tup (pv 0) i8 (λ_ _=>rfl)))
    (mL (p_ Oa rfl (Ae rfl t.lM (aI (pv 1) bR)) (gD (i:=4) sc_state_for.nd rfl (Or.inl rfl))
      (mh (mM (i:=3) sc_state_for.nd rfl (Or.inl rfl) (wv Pz PU Q0 (sU hr.units) (pv 2)
        (aI (qg (aI (pv 4) (aI (pv 3) bR))) (aI (zT op_add (zT op_add (wu ix_tup (pv 0) i8 (λ_ _=>rfl)) i8) (f6 L4.nZ (by rfl) t.dZ PySem.boot_len (aI (pv 2) bR))) bR))))))
    (mh (zN (pv 3)))),L4.D7 h⟩
def zx(t:Tx K mg):cS P w K mg base oz 1 t.f_e t.fd_e io (tB mg 3 jR):=
 gQ t.h_e.fu zu λcdv A outer s H E hr=>
  have hu:=hr.units
  (ar (aP (bI (ac (qv 0) (ac (iW (by rfl) hu (qv 1) (by rfl) t.iJ (by decide +kernel) (by rfl) t.rO (by decide +kernel)) (ac (iX (by rfl) (qv 2) (by rfl) t.iJ (by decide +kernel) (by rfl) t.rO (by decide +kernel)) am))))))
def vV(t:Tx K mg):cS P w K mg base oz 2 t.f_f t.fd_f gq (tB mg 2 iI):=
 gQ t.h_f.fu sc_listing λcdv A outer s H E hr=>
  have hu:=hr.units
  (aj (aQ sc_listing.nd rfl (.inr rfl) mz)
    (aj (L4.Bu (ih:=2) (ik:=3) (h:=0) (j:=2) (l:=1) rfl (bm.of (osc:=ao ce) (N:=gp) (tN:=["room","stack"]) (capN:=["house","known"]) (caps:=[0,2]) rfl rfl (by decide +kernel)) sc_listing.nd rfl rfl (CW (pv 1)) rfl (λcl C s3 H3 fp=>(uK rfl (aJ (gD (i:=0) iY rfl (.inl rfl)) (aJ (gD (i:=1) iY rfl (.inl rfl)) p9)))) (λcl C s3 H3 fp=>(w6 (qf JQ (f6 L4.zk (by rfl) t.dZ PySem.boot_len (aI (pv 1) bR)) i8 (cT _)))) (λcl C s3 H3 fp=>(qg (aI (pv 0) (aI (wu ix_list (pv 1) i8 (λ_ _=>rfl)) (aI (wg (rC t) (hr.mono (by decide)) (by rfl) t.h_d.gl t.h_d.fu.kp t.h_d.bi .nil JZ (aI (pv 2) (aI (sk sl_list (pv 1) (wn i8) wm) (aI (pv 3) bR)))) bR))))) (by decide) (by decide) rfl rfl)
    (aj (zh rfl (bm.of (osc:=ao ce) (N:=gp) (tN:=["top","state"]) (capN:=[]) (caps:=[]) rfl rfl (by decide +kernel)) sc_listing.nd rfl rfl (qv 2) (by decide) (λcl C s3 H3 fp=>(gH rfl (aN (av iZ rfl (.inl rfl)) (aN (av iZ rfl (.inl rfl)) eU (λ_ a _ b=>aJ a b)) (λ_ a _ b=>aJ a b)))) (λcl C s3 H3 fp=>cr) (λcl C s3 H3 fp=>(bI (ac (qv 1) (ac (a_ hu (pv 0)) (ac (a_ hu (pv 0)) am))))))
    (aj (jz rfl (bm.of (osc:=ao ce) (N:=gp) (tN:=["room","stack"]) (capN:=[]) (caps:=[]) rfl rfl (by decide +kernel)) sc_listing.nd rfl rfl (cb (qv 1)) (by decide) (λcl C s3 H3 fp=>(gH rfl (aN (av i0 rfl (.inl rfl)) (aN (av i0 rfl (.inl rfl)) eU (λ_ a _ b=>aJ a b)) (λ_ a _ b=>aJ a b)))) (λcl C s3 H3 fp=>(A2 (b8 (wZ hu) (bx eh (by rfl) t.dZ (by decide +kernel) (ac (qv 1) am)) aw (cT _)))) (λcl C s3 H3 fp=>(qv 0)))
    (ar (aP (bf (zx t) (hr.mono (by decide)) (by rfl) t.h_e e9 (ac (aE bU (aE bU (a_ hu (pv 0)) aw) (bx L4.Ea (by rfl) t.dZ (by decide +kernel) (ac (qv 2) am))) (ac (aE bU (qv 3) (qv 4)) (ac (aE bU (qv 5) (hV (ac (a_ hu (pv 0)) am))) am))) (au (au (au be))))))))))
def dD(t:Tx K mg):cS P w K mg base oz 1 t.f_g t.fd_g cY (tB mg 1 cg):=
 gQ t.h_g.fu oM λcdv A outer s H E hr=>
  have hu:=hr.units
  (ar (aP (Hh (kA A4 (by rfl) t.bQ (by rfl) t.Ji (by decide +kernel) (qv 0)) (Hg (Hf (kA yX (by rfl) t.bQ (by rfl) t.E_ (by decide +kernel) (qv 0)))))))
def l7(t:Tx K mg):cS P w K mg base oz 2 t.f_h t.fd_h b6 (tB mg 3 c6):=
 gQ t.h_h.fu sc__law_machine λcdv A outer s H E hr=>
  have hu:=hr.units
  (aj (cW (PWD.pt (fW (cy (gG (kA nA (by rfl) t.bQ (by rfl) t.gx (by decide +kernel) (qv 0)))) (fW (b8 (tz hu) (bx eh (by rfl) t.dZ (by decide +kernel) (ac (qv 0) am)) aw (cT _)) (fW (cy (gG (bf (dD t) (hr.mono (by decide)) (by rfl) t.h_g e9 (ac (a_ hu (pv 0)) am) (au be)))) (iD (b8 (k_) (a_ hu (pv 0)) (qv 1) (cT _))))))) (ar (aP cm)) bz)
    (aj (cW (PWD.pt (fW (cy (gG (kA pG (by rfl) t.bQ (by rfl) t.mI (by decide +kernel) (a_ hu (pv 0))))) (iD (cy (gG (kA pG (by rfl) t.bQ (by rfl) t.mI (by decide +kernel) (a_ hu (pv 0)))))))) (ar (aP cm)) bz)
    (aj (cc Oa rfl (cb (a_ hu (pv 0))) (av sc__law_machine.nd rfl (.inl rfl)) (aj (cW (PWD.pt (fW (cy (gG (kA nA (by rfl) t.bQ (by rfl) t.gx (by decide +kernel) (qv 3)))) (fW (b8 (tz hu) (bx eh (by rfl) t.dZ (by decide +kernel) (ac (qv 3) am)) aw (cT _)) (iD (cy (gG (bx (Hl (by rfl)) (by rfl) t.Jc (by decide +kernel) (ac (nQ (qT rfl (bm.of (osc:=ao aV) (N:=cZ) (tN:=["_law_part"]) (capN:=[]) (caps:=[]) rfl rfl (by decide +kernel)) (cb (qv 3)) (by decide) (λcl C s3 H3 fp=>(av fy rfl (.inl rfl))) (λcl C s3 H3 fp=>cr) (λcl C s3 H3 fp=>(bf (dD t) (hr.mono (by decide)) (by rfl) t.h_g e9 (ac (qv 0) am) (au be)))) (nP rfl (bm.of (osc:=ao aV) (N:=cZ) (tN:=["_law_part"]) (capN:=[]) (caps:=[]) rfl rfl (by decide +kernel)) (qv 3) (by decide) (λcl C s3 H3 fp=>(av fy rfl (.inl rfl))) (λcl C s3 H3 fp=>cr) (λcl C s3 H3 fp=>(bf (dD t) (hr.mono (by decide)) (by rfl) t.h_g e9 (ac (qv 0) am) (au be))))) am)))))))) (ar (aP cm)) bz)
    (ar (cW (PWD.pt (fW (cy (iE (wY) (k_) aw (a_ hu (pv 3)) (a_ hu (pv 0)))) (fW (cy (iE (wY) (k_) aw (a_ hu (pv 3)) (qv 2))) (iD (cy (iE (wY) (k_) (qv 1) (a_ hu (pv 3)) (a_ hu (pv 0)))))))) (ar (aP cm)) bz))))
    (aj (cc Oa rfl (cb (a_ hu (pv 0))) (av sc__law_machine.nd rfl (.inl rfl)) (ar (cW (PWD.pt (fW (cy (gG (bf (dD t) (hr.mono (by decide)) (by rfl) t.h_g e9 (ac (qv 4) am) (au be)))) (iD (cy (iE (wY) (k_) aw (qv 4) (a_ hu (pv 0))))))) (ar (aP cm)) bz)))
    (aj (cW (b8 (tz hu) (a_ hu (pv 0)) (iW (by rfl) hu (a_ hu (pv 0)) (by rfl) t.iJ (by decide +kernel) (by rfl) t.rO (by decide +kernel)) (cT _)) (ar (aP cm)) bz)
    (ar (aP (nr (wZ hu) (a_ hu (pv 0)) (iX (by rfl) (a_ hu (pv 0)) (by rfl) t.iJ (by decide +kernel) (by rfl) t.rO (by decide +kernel)) (cT _)))))))))
def rD(t:Tx K mg):cS P w K mg base oz 1 t.f_i t.fd_i dL (tB mg 1 dM):=
 gQ t.h_i.fu sc__law_outs λcdv A outer s H E hr=>
  have hu:=hr.units
  (aj (aQ sc__law_outs.nd rfl (.inl rfl) mz)
    (aj (D2 Oa rfl (a_ hu (pv 0)) (uK rfl (aJ (gD sc__law_outs.nd rfl (.inl rfl)) (aJ (gD sc__law_outs.nd rfl (.inl rfl)) (aJ (gD sc__law_outs.nd rfl (.inl rfl)) p9)))) (mh (we (wv PySem.F.plainAttrs_list PySem.F.slot_list_append PySem.F.type_list_append kg (wv Pz PU Q0 (sU hu) (pv 1) (aI (qg (aI (pv 2) (aI (pv 3) bR))) (aI (zZ bR) bR))) (aI (pv 4) bR)))))
    (ar (aP (qv 1)))))
def rE(t:Tx K mg):cS P w K mg base oz 1 t.f_j t.fd_j dN (tB mg 1 dO):=
 gQ t.h_j.fu sc__law_live λcdv A outer s H E hr=>
  have hu:=hr.units
  (aj (aQ sc__law_live.nd rfl (.inl rfl) mz)
    (aj (cc Oa rfl (cb (a_ hu (pv 0))) (av sc__law_live.nd rfl (.inl rfl)) (ar (jF (jD (pv 1) (qv 2) cm) (mB hu (pv 1) (qv 2) cm))))
    (aj (aQ sc__law_live.nd rfl (.inl rfl) (Ho aw))
    (aj (pI 100000 Oa (b8 (k_) (qv 3) (bx eh (by rfl) t.dZ (by decide +kernel) (ac (qv 1) am)) (cT _)) (aj (aQ sc__law_live.nd rfl (.inl rfl) (bx eh (by rfl) t.dZ (by decide +kernel) (ac (qv 1) am)))
    (ar (cc Oa rfl (DZ (by rfl) t.lM (ac (a_ hu (pv 0)) am)) (gH rfl (aN (av sc__law_live.nd rfl (.inl rfl)) (aN (av sc__law_live.nd rfl (.inl rfl)) (aN (av sc__law_live.nd rfl (.inl rfl)) eU (λ_ a _ b=>aJ a b)) (λ_ a _ b=>aJ a b)) (λ_ a _ b=>aJ a b))) (ar (cW (b8 (nC hu) (qv 5) (qv 1) (by rfl)) (ar (jF (jD (pv 1) (qv 2) cm) (mB hu (pv 1) (qv 2) cm))) bz))))))
    (ar (aP (qv 1)))))))
def oN(t:Tx K mg):cS P w K mg base oz 1 t.f_k t.fd_k c7 (tB mg 3 c_):=
 gQ t.h_k.fu sc__law_there λcdv A outer s H E hr=>
  have hu:=hr.units
  (aj (aQ sc__law_there.nd rfl (.inl rfl) mz)
    (aj (tX (cc Oa rfl (cb (qv 1)) (av sc__law_there.nd rfl (.inl rfl)) (ar (cc Oa rfl (cb (xi hu (qv 0) (bI (ac (qv 4) (ac (qv 2) am))) (hV am) ⟨rfl,rfl,rfl,rfl⟩)) (av sc__law_there.nd rfl (.inl rfl)) (ar (jF (jD (pv 3) (qv 5) cm) (mB hu (pv 3) (qv 5) cm)))))) (tV Oa rfl (qv 1) (av sc__law_there.nd rfl (.inl rfl)) (ar (cc Oa rfl (cb (xi hu (qv 0) (bI (ac (qv 4) (ac (qv 2) am))) (hV am) ⟨rfl,rfl,rfl,rfl⟩)) (av sc__law_there.nd rfl (.inl rfl)) (ar (jF (jD (pv 3) (qv 5) cm) (mB hu (pv 3) (qv 5) cm)))))))
    (ar (aP (eF (t4 (by rfl)) (by rfl) t.mI (by decide +kernel) (ac (qv 3) am))))))
def rF(t:Tx K mg):cS P w K mg base oz 2 t.f_l t.fd_l dP (tB mg 4 fT):=
 gQ t.h_l.fu sc__law_just λcdv A outer s H E hr=>
  have hu:=hr.units
  (aj (t5 sc__law_just.nd rfl (.inl rfl))
    (aj (t5 sc__law_just.nd rfl (.inl rfl))
    (aj (tX (cc Oa rfl (cb (qv 3)) (gH rfl (aN (av sc__law_just.nd rfl (.inl rfl)) (aN (av sc__law_just.nd rfl (.inl rfl)) eU (λ_ a _ b=>aJ a b)) (λ_ a _ b=>aJ a b))) (aj (jK hu (pv 4) (bI (ac (qv 6) (ac (eF jE (by rfl) t.gx (by decide +kernel) (ac (qv 7) am)) am))) cm)
    (ar (cc Oa rfl (dk (by rfl) t.gv (ac (bx eh (by rfl) t.dZ (by decide +kernel) (ac (qv 7) am)) am)) (av sc__law_just.nd rfl (.inl rfl)) (ar (jK hu (pv 5) (bI (ac (qv 6) (ac (eF jE (by rfl) t.gx (by decide +kernel) (ac (kK (qv 7) tO (jC (aE bU (qv 8) aw))) am)) am))) cm)))))) (tV Oa rfl (qv 3) (gH rfl (aN (av sc__law_just.nd rfl (.inl rfl)) (aN (av sc__law_just.nd rfl (.inl rfl)) eU (λ_ a _ b=>aJ a b)) (λ_ a _ b=>aJ a b))) (aj (jK hu (pv 4) (bI (ac (qv 6) (ac (eF jE (by rfl) t.gx (by decide +kernel) (ac (qv 7) am)) am))) cm)
    (ar (cc Oa rfl (dk (by rfl) t.gv (ac (bx eh (by rfl) t.dZ (by decide +kernel) (ac (qv 7) am)) am)) (av sc__law_just.nd rfl (.inl rfl)) (ar (jK hu (pv 5) (bI (ac (qv 6) (ac (eF jE (by rfl) t.gx (by decide +kernel) (ac (kK (qv 7) tO (jC (aE bU (qv 8) aw))) am)) am))) cm)))))))
    (aj (gk sc__law_just.nd rfl (.inl rfl) (bf (rD t) (hr.mono (by decide)) (by rfl) t.h_i e9 (ac (qv 0) am) (au be)))
    (aj (gk sc__law_just.nd rfl (.inr rfl) (bf (rE t) (hr.mono (by decide)) (by rfl) t.h_j e9 (ac (qv 0) am) (au be)))
    (aj (jz rfl (bm.of (osc:=ao aW) (N:=bH) (tN:=["_law_room"]) (capN:=[]) (caps:=[]) rfl rfl (by decide +kernel)) sc__law_just.nd rfl rfl (dk (by rfl) t.gv (ac (qv 1) am)) (by decide) (λcl C s3 H3 fp=>(av l6 rfl (.inl rfl))) (λcl C s3 H3 fp=>cr) (λcl C s3 H3 fp=>(bI (ac (qv 0) (ac (bI am) (ac (hV (ac (qv 0) am)) am))))))
    (aj (aQ sc__law_just.nd rfl (.inl rfl) aw)
    (aj (pI 100000 Oa (b8 (k_) (qv 12) (bx eh (by rfl) t.dZ (by decide +kernel) (ac (qv 11) am)) (cT _)) (aj (DM (vH (vD (pv 11) (qv 12) (λ_ _=>rfl)) (qU hu (qK (pv 11)) (qv 12) (λ_ _=>rfl))) (gH rfl (aN (av sc__law_just.nd rfl (.inl rfl)) (aN (av sc__law_just.nd rfl (.inl rfl)) (aN (av sc__law_just.nd rfl (.inl rfl)) eU (λ_ a _ b=>aJ a b)) (λ_ a _ b=>aJ a b)) (λ_ a _ b=>aJ a b))))
    (aj (D6 sc__law_just.nd rfl (.inl rfl) aw)
    (aj (cW (b8 (tz hu) (bx (Ba (by rfl)) (by rfl) t.Cz (by decide +kernel) (ac (nQ (qT rfl (bm.of (osc:=ao aW) (N:=bH) (tN:=["_law_state"]) (capN:=["_law_machine_here"]) (caps:=[0]) rfl rfl (by decide +kernel)) (cb (qv 14)) (by decide) (λcl C s3 H3 fp=>(av gV rfl (.inl rfl))) (λcl C s3 H3 fp=>cr) (λcl C s3 H3 fp=>(nr (nC hu) (qv 0) (a_ hu (pv 1)) (by rfl)))) (nP rfl (bm.of (osc:=ao aW) (N:=bH) (tN:=["_law_state"]) (capN:=["_law_machine_here"]) (caps:=[0]) rfl rfl (by decide +kernel)) (qv 14) (by decide) (λcl C s3 H3 fp=>(av gV rfl (.inl rfl))) (λcl C s3 H3 fp=>cr) (λcl C s3 H3 fp=>(nr (nC hu) (qv 0) (a_ hu (pv 1)) (by rfl))))) am)) (HH hu (bI (ac (qv 6) (ac (qv 13) am))) (pv 4) (by rfl)) (cT _)) (ar (aP cm)) bz)
    (ar (cc Oa rfl (dk (by rfl) t.gv (ac (qv 2) am)) (av sc__law_just.nd rfl (.inl rfl)) (aj (gk sc__law_just.nd rfl (.inl rfl) (bf (oN t) (hr.mono (by decide)) (by rfl) t.h_k e9 (ac (qv 9) (ac (qv 14) (ac (qv 15) am))) (au (au (au be)))))
    (ar (cW (HI hu (bI (ac (qv 6) (ac (aE L4.xA (qv 13) (bI (ac (qv 15) am))) am))) (pv 5) (by rfl)) (ar (qQ (pv 11) (bI (ac (qv 6) (ac (aE L4.xA (qv 13) (bI (ac (qv 15) am))) (ac (qv 16) am)))))) (ar (cW (gG (bx (Ba (by rfl)) (by rfl) t.Cz (by decide +kernel) (ac (nQ (qT rfl (bm.of (osc:=ao aW) (N:=bH) (tN:=["_law_state"]) (capN:=["_law_live_here"]) (caps:=[10]) rfl rfl (by decide +kernel)) (cb (qv 16)) (by decide) (λcl C s3 H3 fp=>(av gW rfl (.inl rfl))) (λcl C s3 H3 fp=>cr) (λcl C s3 H3 fp=>(nr (nC hu) (qv 0) (qv 1) (by rfl)))) (nP rfl (bm.of (osc:=ao aW) (N:=bH) (tN:=["_law_state"]) (capN:=["_law_live_here"]) (caps:=[10]) rfl rfl (by decide +kernel)) (qv 16) (by decide) (λcl C s3 H3 fp=>(av gW rfl (.inl rfl))) (λcl C s3 H3 fp=>cr) (λcl C s3 H3 fp=>(nr (nC hu) (qv 0) (qv 1) (by rfl))))) am))) (ar (aP cm)) bz)))))))))))
    (ar (aP cm))))))))))
def II(t:Tx K mg):cS P w K mg base oz 3 t.f_m t.fd_m uk (tB mg 1 pV):=
 gQ t.h_m.fu sc_law λcdv A outer s H E hr=>
  have hu:=hr.units
  (aj (gk sc_law.nd rfl (.inl rfl) (bf (gX t) (hr.mono (by decide)) (by rfl) t.h_a e9 (ac (qv 0) (ac aw am)) (au (au be))))
    (aj (aQ sc_law.nd rfl (.inr rfl) (aE bU aw (aE bS (qv 1) aw)))
    (aj (aQ sc_law.nd rfl (.inr rfl) (aE bU aw (aE bS (aE gF (qv 1) aw) aw)))
    (aj (cW (b8 (wZ hu) (aE bS (aE gF (qv 1) aw) aw) aw (cT _)) (aj (aQ sc_law.nd rfl (.inr rfl) (aE bU aw (aE bS (aE gF (qv 1) aw) aw)))
    (ar (aQ sc_law.nd rfl (.inr rfl) (aE bU aw (aE bS (aE gF (qv 1) aw) aw))))) bz)
    (aj (jz rfl (bm.of (osc:=ao lK) (N:=xN) (tN:=["_law_cell"]) (capN:=["_law_rooms","_law_signs"]) (caps:=[2,3]) rfl rfl (by decide +kernel)) sc_law.nd rfl rfl (cb (kK (qv 0) (jC aw) (jC aw))) (by decide) (λcl C s3 H3 fp=>(av zw rfl (.inl rfl))) (λcl C s3 H3 fp=>cr) (λcl C s3 H3 fp=>(bf (kQ t) (hr.mono (by decide)) (by rfl) t.h_b e9 (ac (qv 0) (ac (qv 1) (ac (qv 2) am))) (au (au (au be))))))
    (aj (gk sc_law.nd rfl (.inl rfl) (bf (gX t) (hr.mono (by decide)) (by rfl) t.h_a e9 (ac (qv 0) (ac aw am)) (au (au be))))
    (aj (cW (b8 (wZ hu) (aE bS (qv 5) aw) aw (cT _)) (ar (aQ sc_law.nd rfl (.inl rfl) (aE bU (hV (ac (bf (rB t) (hr.mono (by decide)) (by rfl) t.h_c e9 (ac (aE gF (qv 5) aw) (ac (qv 2) (ac (qv 3) am))) (au (au (au be)))) am)) (qv 4)))) bz)
    (aj (jz rfl (bm.of (osc:=ao lK) (N:=xN) (tN:=["_law_room","_law_stack"]) (capN:=[]) (caps:=[]) rfl rfl (by decide +kernel)) sc_law.nd rfl rfl (cb (qv 4)) (by decide) (λcl C s3 H3 fp=>(gH rfl (aN (av pU rfl (.inl rfl)) (aN (av pU rfl (.inl rfl)) eU (λ_ a _ b=>aJ a b)) (λ_ a _ b=>aJ a b)))) (λcl C s3 H3 fp=>cr) (λcl C s3 H3 fp=>(bI (ac (qv 0) (ac (eF (t4 (by rfl)) (by rfl) t.mI (by decide +kernel) (ac (qv 1) am)) am)))))
    (aj (gk sc_law.nd rfl (.inl rfl) (bf (vV t) (hr.mono (by decide)) (by rfl) t.h_f e9 (ac (bI (ac (qv 2) (ac (qv 3) (ac (hV am) am)))) (ac (qv 6) am)) (au (au be))))
    (aj (cW (PWD.pt (fW (cy (gG (bf (l7 t) (hr.mono (by decide)) (by rfl) t.h_h e9 (ac (qv 7) (ac (qv 2) (ac (qv 3) am))) (au (au (au be)))))) (iD (b8 (tz hu) (qv 6) (qv 4) (cT _))))) (ar (aP cm)) bz)
    (ar (aP (bf (rF t) (hr.mono (by decide)) (by rfl) t.h_l e9 (ac (qv 7) (ac (qv 2) (ac (qv 3) (ac (qv 4) am)))) (au (au (au (au be)))))))))))))))))
end
def Nf{Q:List Rz->Prop}{us:List Rz}(hl:us.length=0)(h:Q []):Q us:=by
 cases us with
 |nil=>exact h
 |cons a r=>cases hl
def EM{Q:List Rz->Prop}{us:List Rz}{n:Nat}(hl:us.length=n+1)(h:∀(a:Rz)(r:List Rz),r.length=n->Q (a::r)):Q us:=by
 cases us with
 |nil=>cases hl
 |cons a r=>exact h a r (Nat.succ.inj hl)
def B8{Q:List Rz->Prop}{us:List Rz}(hl:us.length=1)(h:∀a0:Rz,Q [a0]):Q us:=EM hl λa r q=>Nf (Q:=λr=>Q (a::r)) q (h a)
def IJ{Q:List Rz->Prop}{us:List Rz}(hl:us.length=2)(h:∀a0 a1:Rz,Q [a0,a1]):Q us:=EM hl λa r q=>B8 (Q:=λr=>Q (a::r)) q (h a)
def vW{Q:List Rz->Prop}{us:List Rz}(hl:us.length=3)(h:∀a0 a1 a2:Rz,Q [a0,a1,a2]):Q us:=EM hl λa r q=>IJ (Q:=λr=>Q (a::r)) q (h a)
def Ng{Q:List Rz->Prop}{us:List Rz}(hl:us.length=4)(h:∀a0 a1 a2 a3:Rz,Q [a0,a1,a2,a3]):Q us:=EM hl λa r q=>vW (Q:=λr=>Q (a::r)) q (h a)
def LD{K KK:Rx}{mg:Str->Option Rz}{h:Heap}(X:K.In h)(G:h.Ns mainGlobals mg)(U:wb K KK)
 {f_a:Addr} {od_a an_a:Option Addr} {sl_a:Array (Option Rz)} {oc_a kV_a dc_a pm_a cd_a ct_a:Rz}
 (a_a:nsIn K mainGlobals "_law_cell_at"=some (some (.ref f_a))) (l_a:K.lookup f_a=some ⟨oc_a,od_a,.func (fnOf "_law_cell_at" "_law_cell_at" (aY bA) (aO bA) (ao bA) .none kV_a dc_a pm_a an_a cd_a ct_a),sl_a⟩) (c_a:codeIn K cd_a "_law_cell_at"=true)
 {f_b:Addr} {od_b an_b:Option Addr} {sl_b:Array (Option Rz)} {oc_b kV_b dc_b pm_b cd_b ct_b:Rz}
 (a_b:nsIn K mainGlobals "_law_standing"=some (some (.ref f_b))) (l_b:K.lookup f_b=some ⟨oc_b,od_b,.func (fnOf "_law_standing" "_law_standing" (aY bn) (aO bn) (ao bn) .none kV_b dc_b pm_b an_b cd_b ct_b),sl_b⟩) (c_b:codeIn K cd_b "_law_standing"=true)
 {f_c:Addr} {od_c an_c:Option Addr} {sl_c:Array (Option Rz)} {oc_c kV_c dc_c pm_c cd_c ct_c:Rz}
 (a_c:nsIn K mainGlobals "_law_long"=some (some (.ref f_c))) (l_c:K.lookup f_c=some ⟨oc_c,od_c,.func (fnOf "_law_long" "_law_long" (aY cH) (aO cH) (ao cH) .none kV_c dc_c pm_c an_c cd_c ct_c),sl_c⟩) (c_c:codeIn K cd_c "_law_long"=true)
 {f_d:Addr} {od_d an_d:Option Addr} {sl_d:Array (Option Rz)} {oc_d kV_d dc_d pm_d cd_d ct_d:Rz}
 (a_d:nsIn K mainGlobals "state_for"=some (some (.ref f_d))) (l_d:K.lookup f_d=some ⟨oc_d,od_d,.func (fnOf "state_for" "state_for" (aY cI) (aO cI) (ao cI) .none kV_d dc_d pm_d an_d cd_d ct_d),sl_d⟩) (c_d:codeIn K cd_d "state_for"=true)
 {f_e:Addr} {od_e an_e:Option Addr} {sl_e:Array (Option Rz)} {oc_e kV_e dc_e pm_e cd_e ct_e:Rz}
 (a_e:nsIn K mainGlobals "formed"=some (some (.ref f_e))) (l_e:K.lookup f_e=some ⟨oc_e,od_e,.func (fnOf "formed" "formed" (aY gn) (aO gn) (ao gn) .none kV_e dc_e pm_e an_e cd_e ct_e),sl_e⟩) (c_e:codeIn K cd_e "formed"=true)
 {f_f:Addr} {od_f an_f:Option Addr} {sl_f:Array (Option Rz)} {oc_f kV_f dc_f pm_f cd_f ct_f:Rz}
 (a_f:nsIn K mainGlobals "listing"=some (some (.ref f_f))) (l_f:K.lookup f_f=some ⟨oc_f,od_f,.func (fnOf "listing" "listing" (aY ce) (aO ce) (ao ce) .none kV_f dc_f pm_f an_f cd_f ct_f),sl_f⟩) (c_f:codeIn K cd_f "listing"=true)
 {f_g:Addr} {od_g an_g:Option Addr} {sl_g:Array (Option Rz)} {oc_g kV_g dc_g pm_g cd_g ct_g:Rz}
 (a_g:nsIn K mainGlobals "_law_whole"=some (some (.ref f_g))) (l_g:K.lookup f_g=some ⟨oc_g,od_g,.func (fnOf "_law_whole" "_law_whole" (aY cf) (aO cf) (ao cf) .none kV_g dc_g pm_g an_g cd_g ct_g),sl_g⟩) (c_g:codeIn K cd_g "_law_whole"=true)
 {f_h:Addr} {od_h an_h:Option Addr} {sl_h:Array (Option Rz)} {oc_h kV_h dc_h pm_h cd_h ct_h:Rz}
 (a_h:nsIn K mainGlobals "_law_machine"=some (some (.ref f_h))) (l_h:K.lookup f_h=some ⟨oc_h,od_h,.func (fnOf "_law_machine" "_law_machine" (aY aV) (aO aV) (ao aV) .none kV_h dc_h pm_h an_h cd_h ct_h),sl_h⟩) (c_h:codeIn K cd_h "_law_machine"=true)
 {f_i:Addr} {od_i an_i:Option Addr} {sl_i:Array (Option Rz)} {oc_i kV_i dc_i pm_i cd_i ct_i:Rz}
 (a_i:nsIn K mainGlobals "_law_outs"=some (some (.ref f_i))) (l_i:K.lookup f_i=some ⟨oc_i,od_i,.func (fnOf "_law_outs" "_law_outs" (aY cJ) (aO cJ) (ao cJ) .none kV_i dc_i pm_i an_i cd_i ct_i),sl_i⟩) (c_i:codeIn K cd_i "_law_outs"=true)
 {f_j:Addr} {od_j an_j:Option Addr} {sl_j:Array (Option Rz)} {oc_j kV_j dc_j pm_j cd_j ct_j:Rz}
 (a_j:nsIn K mainGlobals "_law_live"=some (some (.ref f_j))) (l_j:K.lookup f_j=some ⟨oc_j,od_j,.func (fnOf "_law_live" "_law_live" (aY cK) (aO cK) (ao cK) .none kV_j dc_j pm_j an_j cd_j ct_j),sl_j⟩) (c_j:codeIn K cd_j "_law_live"=true)
 {f_k:Addr} {od_k an_k:Option Addr} {sl_k:Array (Option Rz)} {oc_k kV_k dc_k pm_k cd_k ct_k:Rz}
 (a_k:nsIn K mainGlobals "_law_there"=some (some (.ref f_k))) (l_k:K.lookup f_k=some ⟨oc_k,od_k,.func (fnOf "_law_there" "_law_there" (aY ci) (aO ci) (ao ci) .none kV_k dc_k pm_k an_k cd_k ct_k),sl_k⟩) (c_k:codeIn K cd_k "_law_there"=true)
 {f_l:Addr} {od_l an_l:Option Addr} {sl_l:Array (Option Rz)} {oc_l kV_l dc_l pm_l cd_l ct_l:Rz}
 (a_l:nsIn K mainGlobals "_law_just"=some (some (.ref f_l))) (l_l:K.lookup f_l=some ⟨oc_l,od_l,.func (fnOf "_law_just" "_law_just" (aY aW) (aO aW) (ao aW) .none kV_l dc_l pm_l an_l cd_l ct_l),sl_l⟩) (c_l:codeIn K cd_l "_law_just"=true)
 {f_m:Addr} {od_m an_m:Option Addr} {sl_m:Array (Option Rz)} {oc_m kV_m dc_m pm_m cd_m ct_m:Rz}
 (a_m:nsIn K mainGlobals "law"=some (some (.ref f_m))) (l_m:K.lookup f_m=some ⟨oc_m,od_m,.func (fnOf "law" "law" (aY lK) (aO lK) (ao lK) .none kV_m dc_m pm_m an_m cd_m ct_m),sl_m⟩) (c_m:codeIn K cd_m "law"=true)
 (z_all:nsIn K mainGlobals "all"=some none)
 (z_any:nsIn K mainGlobals "any"=some none)
 (z_bool:nsIn K mainGlobals "bool"=some none)
 (z_int:nsIn K mainGlobals "int"=some none)
 (z_isinstance:nsIn K mainGlobals "isinstance"=some none)
 (z_len:nsIn K mainGlobals "len"=some none)
 (z_list:nsIn K mainGlobals "list"=some none)
 (z_range:nsIn K mainGlobals "range"=some none)
 (z_reversed:nsIn K mainGlobals "reversed"=some none)
 (z_set:nsIn K mainGlobals "set"=some none)
 (z_sorted:nsIn K mainGlobals "sorted"=some none)
 (z_tuple:nsIn K mainGlobals "tuple"=some none)
 : ∃t:Tx KK mg,t.f_m=f_m:=
 ⟨⟨f_a,_,dq (st:=bA) (ps:=b0) U l_a c_a (OS X G a_a) λ_ _ _ _ _ _ us hl=>IJ (Q:=λus=>bindArgs _ ⟨us,[]⟩=pure (List.zip b0 us)) hl λ_ _=>rfl,
   f_b,_,dq (st:=bn) (ps:=bL) U l_b c_b (OS X G a_b) λ_ _ _ _ _ _ us hl=>vW (Q:=λus=>bindArgs _ ⟨us,[]⟩=pure (List.zip bL us)) hl λ_ _ _=>rfl,
   f_c,_,dq (st:=cH) (ps:=dI) U l_c c_c (OS X G a_c) λ_ _ _ _ _ _ us hl=>vW (Q:=λus=>bindArgs _ ⟨us,[]⟩=pure (List.zip dI us)) hl λ_ _ _=>rfl,
   f_d,_,dq (st:=cI) (ps:=dJ) U l_d c_d (OS X G a_d) λ_ _ _ _ _ _ us hl=>vW (Q:=λus=>bindArgs _ ⟨us,[]⟩=pure (List.zip dJ us)) hl λ_ _ _=>rfl,
   f_e,_,dq (st:=gn) (ps:=io) U l_e c_e (OS X G a_e) λ_ _ _ _ _ _ us hl=>vW (Q:=λus=>bindArgs _ ⟨us,[]⟩=pure (List.zip io us)) hl λ_ _ _=>rfl,
   f_f,_,dq (st:=ce) (ps:=gq) U l_f c_f (OS X G a_f) λ_ _ _ _ _ _ us hl=>IJ (Q:=λus=>bindArgs _ ⟨us,[]⟩=pure (List.zip gq us)) hl λ_ _=>rfl,
   f_g,_,dq (st:=cf) (ps:=cY) U l_g c_g (OS X G a_g) λ_ _ _ _ _ _ us hl=>B8 (Q:=λus=>bindArgs _ ⟨us,[]⟩=pure (List.zip cY us)) hl λ_=>rfl,
   f_h,_,dq (st:=aV) (ps:=b6) U l_h c_h (OS X G a_h) λ_ _ _ _ _ _ us hl=>vW (Q:=λus=>bindArgs _ ⟨us,[]⟩=pure (List.zip b6 us)) hl λ_ _ _=>rfl,
   f_i,_,dq (st:=cJ) (ps:=dL) U l_i c_i (OS X G a_i) λ_ _ _ _ _ _ us hl=>B8 (Q:=λus=>bindArgs _ ⟨us,[]⟩=pure (List.zip dL us)) hl λ_=>rfl,
   f_j,_,dq (st:=cK) (ps:=dN) U l_j c_j (OS X G a_j) λ_ _ _ _ _ _ us hl=>B8 (Q:=λus=>bindArgs _ ⟨us,[]⟩=pure (List.zip dN us)) hl λ_=>rfl,
   f_k,_,dq (st:=ci) (ps:=c7) U l_k c_k (OS X G a_k) λ_ _ _ _ _ _ us hl=>vW (Q:=λus=>bindArgs _ ⟨us,[]⟩=pure (List.zip c7 us)) hl λ_ _ _=>rfl,
   f_l,_,dq (st:=aW) (ps:=dP) U l_l c_l (OS X G a_l) λ_ _ _ _ _ _ us hl=>Ng (Q:=λus=>bindArgs _ ⟨us,[]⟩=pure (List.zip dP us)) hl λ_ _ _ _=>rfl,
   f_m,_,dq (st:=lK) (ps:=uk) U l_m c_m (OS X G a_m) λ_ _ _ _ _ _ us hl=>B8 (Q:=λus=>bindArgs _ ⟨us,[]⟩=pure (List.zip uk us)) hl λ_=>rfl,
   Oq X G z_all,
   Oq X G z_any,
   Oq X G z_bool,
   Oq X G z_int,
   Oq X G z_isinstance,
   Oq X G z_len,
   Oq X G z_list,
   Oq X G z_range,
   Oq X G z_reversed,
   Oq X G z_set,
   Oq X G z_sorted,
   Oq X G z_tuple⟩,rfl⟩
def IK{l:PySem.W.OpenLaw}{w:World}{K:Rx}{mg:Str->Option Rz}{fa:Addr}(hfa:mg "law"=some (.ref fa)) (T:∃t:Tx K mg,True) :
 ∃fd:FuncData,(∀(s:Rv)(v:Rz),BindsTo s fd ⟨[v],[]⟩ [("_law_script",v)])/\∀base:Heap,cS l.prog w K mg base oz 3 fa fd ["_law_script"] (Mh pV):=by
 obtain⟨t,_⟩:=T;have e:=hfa.symm.trans t.h_m.gl;cases e;obtain⟨oc,od,kV,doc,pm,an,cdv,ct,osl,efd,lk,hcd⟩:=t.h_m.fu.ex;exact⟨t.fd_m,λs v=>by rw[efd];exact .of_eq rfl,λbase=>cS.top (II t)⟩
end W
namespace W
open PySem L2 L3
def xP(ns:List Int)(k:Int)(h0:0<=k)(h1:-18446744073709551616<k)(h2:k<18446744073709551616):aU [.lst (ns.map .int),.int k]=.ok (.val (.int (cell ns k)) true []):=by
 by_cases h:k<ns.length
 .have hd:decide (k<(ns.length:Int))=true:=db h;obtain⟨a,ea,_⟩:=B6 h0 h;have ha:fJ (ns.map D.int) k=some (.int a):=by rw[xM,ea];rfl
  simp_arith[aU,fw,cM,hd,ha,h1,h2];unfold cell;rw[ck h,ea];rfl
 .have hd:decide (k<(ns.length:Int))=false:=iA h;simp_arith[aU,fw,cM,hd];unfold cell;rw[cO h]
def F0(ns:List Int):aU [.lst (ns.map .int),.int 0]=.ok (.val (.int (cell ns 0)) true []):=xP ns 0 (by decide) (by decide) (by decide)
def LF(ns:List Int):aU [.lst (ns.map .int),.int 1]=.ok (.val (.int (cell ns 1)) true []):=xP ns 1 (by decide) (by decide) (by decide)
noncomputable def tD(t:bO):D:=.tup [.int t.1,.int t.2.1,.int t.2.2]
def rG(t:bO):(tD t).flat=true:=(rfl)
def IL(t:bO):(tD t).dep<=1:=cN _
def Mc(n:Int)(ts:List bO)(es:List Int):D:=.tup [.int n,.lst (ts.map tD),.lst (es.map .int)]
def rH(n:Int)(ts:List bO)(es:List Int):(Mc n ts es).flat=false:=by unfold Mc;simp only[jO,cD,jN,n8,Bool.true_and,Qa]
noncomputable def B9:List Int->bO
 |[a,b,c]=>(a,b,c)
 |_=>(0,0,0)
noncomputable def rJ(t:bO):List Int:=[t.1,t.2.1,t.2.2]
theorem xQ(k:List Int):∀l,(nH k l).length<=l.length+1
 |[]=>by simp[nH]
 |h::t=>by
  have:=xQ k t;unfold nH;split
  .simp
  .split<;>simp<;>lia
theorem uq:∀ks,(dg ks).length<=ks.length
 |[]=>cN _
 |k::r=>by have h1:=xQ k (dg r);have h2:=uq r;unfold dg;simp only[lO];lia
def bJ(ts:List bO):List bO:=(dg (ts.map rJ)).map B9
def B_(ts:List bO):(bJ ts).length<=ts.length:=by have:=uq (ts.map rJ);unfold bJ;rw[cM];rw[cM]at this;exact this
def EN(ts:List bO):(dg (ts.map rJ)).map tU=(bJ ts).map tD:=by unfold bJ;rw[v9];refine Ot λk hk=>?_;obtain⟨t,_,rfl⟩:=j3.mp ((gg k _).mp hk);rfl
def xR(ts:List bO)(h:ts.length<=300){r:R}(hr:r.d=.lst (ts.map tD)):y_ r=.ok (.new ((bJ ts).map tD) true):=by
 have e:r.d=.lst ((ts.map rJ).map tU):=by rw[hr,v9];rfl
 rw[IC e (by rw[cM];exact h) (by rw[QR,Om];intro t _;rfl),EN]
def zy(n:Int)(ts:List bO)(es:List Int)(h1:ts.length<=300)(h2:es.length<=63):jR [.int n,.lst (ts.map tD),.lst (es.map .int)]=.ok (.val (Mc n (bJ ts) (di es)) true []):=by simp_arith[jR,uj,xR ts h1 (aL _ _ _),BR (aL _ _ _) h2];rfl
end W
namespace L3
open PySem L2
def xS(k1 k2:R->R->Res R)(fa fb fc:En->Res R)(env:En):je k1 k2 fa fb fc env=(fa env).bind λra=>(fb env).bind λrb=>(k1 ra rb).bind (KB k2 fc env rb):=(rfl)
def Ca{k2:R->R->Res R}{fc:En->Res R}{env:En}{rb:R}{f:Bool}{al:List Nat}:KB k2 fc env rb (.val (.bl true) f al)=(fc env).bind λrc=>k2 rb rc:=(rfl)
theorem pW:∀ks:List (List Int),ks.Pairwise (λx y=>cp x y=true)->dg ks=ks
 |[],_=>rfl
 |k::r,h=>by
  have h':=Ob.mp h;unfold dg;rw[pW r h'.2];cases r with
  |nil=>rfl
  |cons a r=>
   have q:=h'.1 a uB;have n:¬k=a:=λe=>by rw[e,jk]at q;cases q
   show(if k=a then a::r else if cp k a=true then k::a::r else a::nH k r)=_;rw[cO n,ck q]
def vX:∀ks:List Int,ks.Pairwise (·< ·)->di ks=ks
 |[],_=>rfl
 |k::r,h=>ig _ _ (jJ _) h λx=>gm x _
end L3
namespace W
open PySem L2 L3
def vY(t:bO):B9 (rJ t)=t:=(rfl)
def ur(ts:List bO)(t:bO):t∈bJ ts↔t∈ts:=by
 unfold bJ;constructor
 .intro h;obtain⟨l,hl,rfl⟩:=j3.mp h;obtain⟨u,hu,rfl⟩:=j3.mp ((gg l _).mp hl);rw[vY];exact hu
 .intro h;exact j3.mpr ⟨rJ t,(gg _ _).mpr (j3.mpr ⟨t,h,rfl⟩),rfl⟩
def zA(ts:List bO):(bJ ts).map rJ=dg (ts.map rJ):=by unfold bJ;rw[v9];refine Eq.trans (Ot λk hk=>?_) (List.map_id _);obtain⟨t,_,rfl⟩:=j3.mp ((gg k _).mp hk);rfl
def zB(ts:List bO):bJ (bJ ts)=bJ ts:=by show(dg ((bJ ts).map rJ)).map B9=_;rw[zA,pW _ (qW _)];rfl
structure Good(n r g:Int) (ts:List bO) (es:List Int):Prop where
 low:r<=n
 arr:∀t∈ts,0<=t.1/\t.1<n/\0<=t.2.1/\t.2.1<g/\r<=t.2.2/\t.2.2<n
 ends:∀e∈es,0<=e/\e<n
 E9:bJ ts=ts
 NZ:di es=es
 l1:ts.length<=300
 l2:es.length<=63
def kU(x:Int):cg [.int x]=.ok (.val (.bl true) true []):=by simp_arith[cg,jT]
def zC{env:En}{fr:Bool}(t:bO):n6 1 [] (gN 0) (λ_=>.ok true) bb env ⟨[.int t.1,.int t.2.1,.int t.2.2],fr,[]⟩=.ok (.new [.bl true,.bl true,.bl true] true):=by
 have h:=dt (mk:=λd=>gN 0 d fr (dS env 1 [])) (test:=λ_=>.ok true)
  (elt:=bb) D.int (λc=>.val (.bl true) true []) [t.1,t.2.1,t.2.2] λc hc=>⟨_,rfl,rfl,by show bb [some (.val (.int c) fr)]=_;simp_arith[bb,kU]⟩
 rw[iF (xs:=[.int t.1,.int t.2.1,.int t.2.2]) (by show 3<=1000000;lia) h];rfl
noncomputable def rK(M:D)(f:Bool)(r g:Int)(e3 e4:Option Sl):En:=[some (.val M f),some (.val (.int r) false),some (.val (.int g) false),e3,e4]
def IM{n r g:Int}{ts:List bO}{es:List Int}(G:Good n r g ts es){f fr:Bool}{e3 e4:Option Sl}:∃e3',de (gN 3) fr bB (ts.map tD) (rK (Mc n ts es) f r g e3 e4)=.ok (.nx (rK (Mc n ts es) f r g e3' e4)):=by
 obtain⟨aB,h1,e3',h2⟩:=il tD (asg:=gN 3) (fr:=fr) (body:=bB) (λ_ env=>∃e3,env=rK (Mc n ts es) f r g e3 e4) ts [] _ ⟨e3,rfl⟩ (λpre post t env _ hp ht=>by
  obtain⟨e3,rfl⟩:=hp;refine⟨_,rK (Mc n ts es) f r g (some (.val (tD t) fr)) e4,rfl,?_,_,rfl⟩;obtain⟨a1,a2,a3,a4,a5,a6⟩:=G.arr t ht;have d1:=db a1;have d2:=db a2;have d3:=db a3;have d4:=db a4;have d5:=db a5;have d6:=db a6;show bB [some (.val (Mc n ts es) f),some (.val (.int r) false),some (.val (.int g) false),some (.val (tD t) fr),e4]=.ok (.nx [some (.val (Mc n ts es) f),some (.val (.int r) false),some (.val (.int g) false),some (.val (tD t) fr),e4]);unfold tD Mc;have hv:ah 3 [some (.val (.tup [.int n,.lst (ts.map tD),.lst (es.map .int)]) f),some (.val (.int r) false),some (.val (.int g) false),some (.val (.tup [.int t.1,.int t.2.1,.int t.2.2]) fr),e4]=.ok (.val (.tup [.int t.1,.int t.2.1,.int t.2.2]) true []):=by simp_arith
  have hc:=BY (n:=1) (caps:=[]) (asg:=gN 0) (ft:=λ_=>.ok true) (fe:=bb) hv;have ha:Lm (.lst [.bl true,.bl true,.bl true])=.ok (.val (.bl true) true []):=rfl;simp_arith[bB,xS,Ca,d1,d2,d3,d4,d5,d6,Bv,zC t,hc,ha])
 exact⟨e3',by rw[h1,h2]⟩
def IN{n r g:Int}{ts:List bO}{es:List Int}(G:Good n r g ts es){f fr:Bool}{e3 e4:Option Sl}:∃e4',de (gN 4) fr bC (es.map .int) (rK (Mc n ts es) f r g e3 e4)=.ok (.nx (rK (Mc n ts es) f r g e3 e4')):=by obtain⟨aB,h1,e4',h2⟩:=il D.int (asg:=gN 4) (fr:=fr) (body:=bC) (λ_ env=>∃e4,env=rK (Mc n ts es) f r g e3 e4) es [] _ ⟨e4,rfl⟩ (λpre post e env _ hp he=>by obtain⟨e4,rfl⟩:=hp;refine⟨_,rK (Mc n ts es) f r g e3 (some (.val (.int e) fr)),rfl,?_,_,rfl⟩;obtain⟨a1,a2⟩:=G.ends e he;have d1:=db a1;have d2:=db a2;show bC [some (.val (Mc n ts es) f),some (.val (.int r) false),some (.val (.int g) false),e3,some (.val (.int e) fr)]=.ok (.nx [some (.val (Mc n ts es) f),some (.val (.int r) false),some (.val (.int g) false),e3,some (.val (.int e) fr)]);unfold Mc;simp_arith[bC,xS,Ca,d1,d2,kU]);exact⟨e4',by rw[h1,h2]⟩
def EO(ts:List bO):D.fA (ts.map tD)<=1:=n_ IL
def vZ{n r g:Int}{ts:List bO}{es:List Int}(G:Good n r g ts es):c6 [Mc n ts es,.int r,.int g]=.ok (.val (.bl true) true []):=by
 have d0:decide (n<r)=false:=iA (by have:=G.low;lia);obtain⟨e3,h1⟩:=IM G (f:=false) (fr:=false) (e3:=none) (e4:=none);obtain⟨e4,h2⟩:=IN G (f:=false) (fr:=false) (e3:=e3) (e4:=none);unfold rK Mc at h1 h2;have q1:∀f al,y_ (.val (.lst (ts.map tD)) f al)=.ok (.new (ts.map tD) true):=λf al=>by rw[xR ts G.l1 (aL _ _ _),G.E9]
 have q2:∀f al,zb (.val (.lst (es.map .int)) f al)=.ok (.new (es.map .int) true):=λf al=>by rw[BR (aL _ _ _) G.l2,G.NZ]
 have p1:(D.lst (ts.map tD)).dep<=50:=by rw[q_];have:=EO ts;lia
 have p2:(D.lst (es.map .int)).dep<=50:=by rw[q_];have:=kP es;lia
 have n1:yQ (.val (.lst (ts.map tD)) false []) (.new (ts.map tD) true)=.ok (.val (.bl false) true []):=by rw[Bv (by rw[aL];exact p1) (by rw[jP];exact p1),aL,jP,eR];rfl
 have n2:DF (.val (.lst (es.map .int)) false []) (.new (es.map .int) true)=.ok (.val (.bl true) true []):=by rw[zn (by rw[aL];exact p2) (by rw[jP];exact p2),aL,jP,eR]
 simp_arith[c6,ip,Mc,d0,Bv,kU,h1,h2,q1,q2,n1,n2]
theorem ut(k:Int):∀l,(nR k l).length<=l.length+1
 |[]=>by simp[nR]
 |h::t=>by
  have:=ut k t;unfold nR;split
  .simp
  .split<;>simp<;>lia
theorem pX:∀ks,(di ks).length<=ks.length
 |[]=>cN _
 |k::r=>by have h1:=ut k (di r);have h2:=pX r;unfold di;simp only[lO];lia
theorem uu:∀ts:List bO,ic (ts.map tD)=some ts
 |[]=>rfl
 |t::r=>by rw[fV];unfold ic;rw[uu r];rfl
def EQ{n:Int}{ts:List bO}{es:List Int}(h:ts.length<=1000):dM [Mc n ts es]=.ok (.val (cC ts) true [1]):=by
 have q:∀env f,env.length=5->ze 1 2 3 4 env (.val (.lst (ts.map tD)) f [])=.ok (.nx (((((az env []).set 2 none).set 3 none).set 4 none).set 1 (some (.cw (cC ts))))):=λenv f he=>by unfold ze;rw[aL];dsimp only;rw[uu];dsimp only;rw[ck ⟨h,by rw[n9];exact PK,by decide,by decide,by decide,by decide,by decide,by decide,by lia,by lia,by lia⟩];rfl
 have q1:=q [some (.val (.tup [.int n,.lst (ts.map tD),.lst (es.map .int)]) false),some (.cw (.bp [] [])),none,none,none] false rfl;have fg:(cC ts).flat=false:=rfl;simp_arith[dM,lG,Mc,q1,fg]
def rL{i:Nat}{fk:En->Res R}{env:En}{ks:List Int}{x:Int}{f:Bool}{al:List Nat}(he:env[i]?=some (some (.cw (bD ks))))(hk:fk env=.ok (.val (.int x) f al))(hl:ks.length<1000000) :
 lj i fk (vC (.bl true)) env=.ok (.nx (env.set i (some (.cw (bD (dd ks x)))))):=by
 rw[BO,he];show nG i fk (vC (.bl true)) env (some (some (.cw (.bp (ks.map ik) (ks.map λ_=>.bl true)))))=_;rw[xF,BN,he];show putAt i fk (vC (.bl true)) env (some (some (.cw (.bp (ks.map ik) (ks.map λ_=>.bl true)))))=_;rw[xE,MX,bj,Ey rfl,hk,bj,Ez (x:=.inl (.inl x)) rfl (xI x ks) (by rw[cM];exact hl),aL,BW]
theorem uw(ts:List bO)(p:IP):∀l:List IP,getD (l.map λp=>(.inr (pk p):DK)) (l.map λp=>D.lst ((g3 ts p.1 p.2).map .int)) (.inr (pk p))=if p∈l then some (.lst ((g3 ts p.1 p.2).map .int))else none
 |[]=>rfl
 |q::r=>by
  rw[fV,fV];unfold getD;rw[uw ts p r];by_cases h:q=p
  .rw[ck (by rw[h]),ck (by simp[h]),h]
  .rw[cO (show ¬(Sum.inr (pk q):DK)=.inr (pk p)from λe=>h (vK (Ro e)))];by_cases h2:p∈r
   .rw[ck h2,ck (by simp[h2])]
   .rw[cO h2,cO (by simp[h2];exact λe=>h e.symm)]
def IQ{env:En}{fa fk:En->Res R}{ts:List bO}{x y:Int}{f fk':Bool}{al:List Nat}(ha:fa env=.ok (.val (cC ts) f []))(hk:fk env=.ok (.val (.tup [.int x,.int y]) fk' al)) :
 ∃f',tS fa fk (lV ay) env=.ok (.val (.lst ((g3 ts x y).map .int)) f' []):=by
 have hc:((h1 ts).map (λp=>(.inr (pk p):DK))).all (kH (.inr (pk (x,y))))=true:=by rw[QR,Om];intro p _;rfl
 rw[BP,ha,bj,Lx (show(R.val (cC ts) f []).d=.bp ((h1 ts).map λp=>.inr (pk p)) ((h1 ts).map λp=>.lst ((g3 ts p.1 p.2).map .int))from rfl),hk,bj,FV];have e0:lV ay env=.ok (.new [] true):=rfl;rw[e0,bj];unfold Mi;have hx:gf (R.val (.tup [.int x,.int y]) fk' al).d=some (.inr (pk (x,y))):=rfl;rw[hx];dsimp only;rw[ck hc,uw ts (x,y)];by_cases h:(x,y)∈h1 ts
 .rw[ck h];exact⟨f,rfl⟩
 .rw[cO h,xo h];exact⟨_,rfl⟩
theorem xT{e0 e1 e2 e4:Option Sl}{fr:Bool}:∀(zs ks:List Int)(e5:Option Sl),ks.length+zs.length<1000000->
 ∃e5',de (gN 5) fr c8 (zs.map .int) [e0,e1,e2,some (.cw (bD ks)),e4,e5]=.ok (.nx [e0,e1,e2,some (.cw (bD (zs.foldl dd ks))),e4,e5'])
 |[],ks,e5,_=>⟨e5,rfl⟩
 |x::r,ks,e5,hl=>by have hd:=nN ks x;simp only[lO]at hl;obtain⟨e5',h⟩:=xT (e0:=e0) (e1:=e1) (e2:=e2) (e4:=e4) (fr:=fr) r (dd ks x) (some (.val (.int x) fr)) (by lia);refine⟨e5',?_⟩;rw[fV,rf (env1:=[e0,e1,e2,some (.cw (bD ks)),e4,some (.val (.int x) fr)]) rfl];have hm:c8 [e0,e1,e2,some (.cw (bD ks)),e4,some (.val (.int x) fr)]=.ok (.nx [e0,e1,e2,some (.cw (bD (dd ks x))),e4,some (.val (.int x) fr)]):=rL (i:=3) (fk:=ah 5) (x:=x) (f:=true) (al:=[]) rfl (by simp_arith) (by lia);rw[hm,bj,iG,O2];exact h
def Nh{ks:List Int}{f:Bool}{al:List Nat}(h:ks.length<=1000000):cX [.val (bD ks) f al]=.ok (.val (.int ks.length) true []):=EE (show(R.val (bD ks) f al).d=.bp (ks.map ik) (ks.map λ_=>.bl true)from rfl) h
def F1{ks:List Int}(h:ks.length<=1000000):xG (bD ks)=.ok (.val (.int ks.length) true []):=(BS (.val (bD ks) true [])).symm.trans (Nh h)
def j_(M:D)(ks:List Int)(e2 e3 e4 e5:Option Sl):En:=[some (.val M false),some (.cw (bD ks)),e2,e3,e4,e5]
theorem Cb{M:D}{e3 e4 e5:Option Sl}{fr:Bool}:∀(es ks:List Int)(e2:Option Sl),ks.length+es.length<1000000->
 ∃e2',de (gN 2) fr fY (es.map .int) (j_ M ks e2 e3 e4 e5)=.ok (.nx (j_ M (es.foldl dd ks) e2' e3 e4 e5))
 |[],ks,e2,_=>⟨e2,rfl⟩
 |x::r,ks,e2,hl=>by have hd:=nN ks x;simp only[lO]at hl;obtain⟨e2',h⟩:=Cb (M:=M) (e3:=e3) (e4:=e4) (e5:=e5) (fr:=fr) r (dd ks x) (some (.val (.int x) fr)) (by lia);refine⟨e2',?_⟩;rw[fV,rf (env1:=j_ M ks (some (.val (.int x) fr)) e3 e4 e5) rfl];have hm:fY (j_ M ks (some (.val (.int x) fr)) e3 e4 e5)=.ok (.nx (j_ M (dd ks x) (some (.val (.int x) fr)) e3 e4 e5)):=rL (i:=1) (fk:=ah 2) (x:=x) (f:=true) (al:=[]) rfl (by unfold j_;simp_arith) (by lia);rw[hm,bj,iG,O2];exact h
end W
namespace W
open PySem L2 L3 L4
structure KI(hb sg:Int) (kn:Kn):Prop where
 id:∀(i:Nat)(x:(Int×Int)×Int),kn[i]?=some x->x.2=hb+1+i
 lo:∀x∈kn,hb<=x.1.2/\x.1.2<=hb+kn.length
 nd:(kn.map (·.1)).Nodup
 sn:∀x∈kn,0<=x.1.1/\x.1.1<sg
inductive mf(hb:Int) (kn:Kn):Int->List Int->Prop
 |nil:mf hb kn hb []
 |cons {g s v:Int} {w:List Int} (h:((g,s),v)∈kn) (r:mf hb kn s w):mf hb kn v (g::w)
def mf.mono{hb:Int}{kn kn':Kn}(h:∀x∈kn,x∈kn'){s:Int}{w:List Int}(p:mf hb kn s w):mf hb kn' s w:=by
 induction p with
 |nil=>exact .nil
 |cons a _ ih=>exact .cons (h _ a) ih
section
variable{hb sg:Int}{kn:Kn}
def KI.val(K:KI hb sg kn){x:(Int×Int)×Int}(h:x∈kn):hb+1<=x.2/\x.2<=hb+kn.length:=by obtain⟨i,hi⟩:=g4.mp h;have:=K.id i x hi;have:=(bE.mp hi).1;lia
def KI.inj(K:KI hb sg kn){x y:(Int×Int)×Int}(h:x∈kn)(g:y∈kn)(e:x.2=y.2):x=y:=by
 obtain⟨i,hi⟩:=g4.mp h;obtain⟨j,hj⟩:=g4.mp g;have a:=K.id i x hi;have b:=K.id j y hj;obtain rfl:i=j:=by lia
 rw[hi]at hj;exact Oi hj
def KI.key(K:KI hb sg kn){k:Int×Int}{v v':Int}(h:(k,v)∈kn)(g:(k,v')∈kn):v=v':=by
 obtain⟨i,hi⟩:=g4.mp h;obtain⟨j,hj⟩:=g4.mp g;have hil:=(bE.mp hi).1;have e:(kn.map (·.1))[i]?=(kn.map (·.1))[j]?:=by rw[ol,ol,hi,hj];rfl
 have:i=j:=(List.getElem?_inj (by simpa using hil) K.nd).mp e;subst this;rw[hi]at hj;exact N7 (·.2) (Oi hj)
def mf.ge(K:KI hb sg kn){s:Int}{w:List Int}(p:mf hb kn s w):hb<=s/\s<=hb+kn.length/\(s=hb↔w=[]):=by
 cases p with
 |nil=>exact⟨Int.le_refl _,by lia,by simp⟩
 |cons h r=>have:=K.val h;simp only[]at this;exact⟨by lia,this.2,⟨λe=>by lia,λe=>by cases e⟩⟩
def mf.step(K:KI hb sg kn){g s v:Int}(h:((g,s),v)∈kn){w:List Int}(p:mf hb kn v w):∃w',w=g::w'/\mf hb kn s w':=by
 cases p with
 |nil=>have:=K.val h;simp only[]at this;lia
 |cons h' r=>have e:=K.inj h h' rfl;cases e;exact⟨_,rfl,r⟩
theorem mf.one(K:KI hb sg kn):∀{w:List Int}{s s':Int},mf hb kn s w->mf hb kn s' w->s=s'
 |[],s,s',p,q=>by cases p;cases q;rfl
 |g::w,s,s',p,q=>by
  cases p with
  |cons h r=>
   cases q with
   |cons h' r'=>obtain rfl:=mf.one K r r';exact K.key h h'
def Cc{k:Int×Int}{v:Int}(h:CK kn k=some v):(k,v)∈kn:=by
 unfold CK at h;obtain⟨x,hx,rfl⟩:=N_.mp h;have:x.1=k:=by simpa using List.find?_some hx
 rw[<- this];exact List.mem_of_find?_eq_some hx
def Cd{k:Int×Int}(h:CK kn k=none):k∉kn.map (·.1):=λz=>by obtain⟨x,hx,e⟩:=j3.mp z;unfold CK at h;have:=List.find?_eq_none.mp (Option.map_eq_none_iff.mp h) x hx;exact this (db e)
def IR(K:KI hb sg kn){st g:Int}{w:List Int}(p:mf hb kn st w)(hg:0<=g/\g<sg):KI hb sg (lz hb (st,kn) g).2/\(∀x∈kn,x∈(lz hb (st,kn) g).2)/\mf hb (lz hb (st,kn) g).2 (lz hb (st,kn) g).1 (g::w)/\(lz hb (st,kn) g).2.length<=kn.length+1:=by
 cases hk:CK kn (g,st)with
 |some v=>
  have e:lz hb (st,kn) g=(v,kn):=by unfold lz;simp only[hk]
  rw[e];exact⟨K,λ_ h=>h,.cons (Cc hk) p,Nat.le_succ _⟩
 |none=>
  have e:lz hb (st,kn) g=(hb+1+kn.length,kn++[((g,st),hb+1+kn.length)]):=by unfold lz;simp only[hk]
  have hge:=p.ge K;rw[e];refine⟨⟨λi x hi=>?_,λx hx=>?_,?_,λx hx=>?_⟩,λx h=>lP _ h,.cons (s:=st) (by simp) (p.mono λx h=>lP _ h),by simp⟩
  .by_cases hl:i<kn.length
   .rw[gY hl]at hi;exact K.id i x hi
   .rw[cP (by lia)]at hi;have h0:i-kn.length=0:=by have:=(bE.mp hi).1;simp at this;lia
    rw[h0]at hi;cases hi;simp only[];lia
  .simp only[KE,PY];rcases gZ.mp hx with h|h
   .have:=K.lo x h;lia
   .rw[lQ.mp h];simp only[];lia
  .rw[N4,Pu];refine⟨K.nd,by simp,λa ha b hb e=>?_⟩;simp at hb;subst hb;exact Cd hk (e▸ha)
  .rcases gZ.mp hx with h|h
   .exact K.sn x h
   .rw[lQ.mp h];exact hg
def ER(g:Int)(w:List Int):sf hb (g::w) kn=lz hb (sf hb w kn) g:=by unfold sf;rw[List.reverse_cons,P7];rfl
theorem F2(K:KI hb sg kn):∀{w:List Int},(∀g∈w,0<=g/\g<sg)->KI hb sg (sf hb w kn).2/\(∀x∈kn,x∈(sf hb w kn).2)/\mf hb (sf hb w kn).2 (sf hb w kn).1 w/\(sf hb w kn).2.length<=kn.length+w.length
 |[],_=>⟨K,λ_ h=>h,.nil,cN _⟩
 |g::w,hw=>by obtain⟨K1,m1,p1,l1⟩:=F2 K (w:=w) λx hx=>hw x (by simp[hx]);rw[ER];obtain⟨K2,m2,p2,l2⟩:=IR K1 p1 (hw g (by simp));exact⟨K2,λx h=>m2 x (m1 x h),p2,by rw[lO];exact lN l2 (by lia)⟩
end
structure TI(hb sg:Int) (sts:List bG) (x:List bO×Kn):Prop where
 k:KI hb sg x.2
 to:∀t∈x.1,∃w,(t.1,t.2.1::w)∈sts/\mf hb x.2 t.2.2 w
 Mk:∀r g w,(r,g::w)∈sts->∃s,mf hb x.2 s w/\(r,g,s)∈x.1
 l1:x.1.length<=sts.length
 l2:x.2.length<=(sts.map (·.2.length)).sum
def ES{hb sg:Int}{sts:List bG}{x:List bO×Kn}(T:TI hb sg sts x)(s:bG)(hs:∀g∈s.2,0<=g/\g<sg):TI hb sg (sts++[s]) (fj hb x s):=by
 obtain⟨r,w⟩:=s;cases w with
 |nil=>
  show TI hb sg (sts++[(r,[])]) x;refine⟨T.k,λt ht=>?_,λr' g w h=>?_,by simp;have:=T.l1;lia,by simp;exact T.l2⟩
  .obtain⟨w,h1,h2⟩:=T.to t ht;exact⟨w,lP _ h1,h2⟩
  .rcases gZ.mp h with h|h
   .exact T.Mk r' g w h
   .have:=lQ.mp h;cases this
 |cons g w=>
  obtain⟨K,m,p,l⟩:=F2 T.k (w:=w) λx hx=>hs x (by simp[hx]);show TI hb sg (sts++[(r,g::w)]) (x.1++[(r,g,(sf hb w x.2).1)],(sf hb w x.2).2);refine⟨K,λt ht=>?_,λr' g' w' h=>?_,by simp;exact T.l1,by have:=T.l2;simp;lia⟩
  .rcases gZ.mp ht with h|h
   .obtain⟨w',h1,h2⟩:=T.to t h;exact⟨w',lP _ h1,h2.mono m⟩
   .rw[lQ.mp h];exact⟨w,by simp,p⟩
  .rcases gZ.mp h with h|h
   .obtain⟨s,h1,h2⟩:=T.Mk r' g' w' h;exact⟨s,h1.mono m,lP _ h2⟩
   .have:=lQ.mp h;cases this;exact⟨_,p,by simp⟩
def ET{hb sg:Int}(sts:List bG)(h:∀s∈sts,∀g∈s.2,0<=g/\g<sg):TI hb sg sts (fm hb sts):=by
 have key:∀(post pre:List bG)(x:List bO×Kn),TI hb sg pre x->(∀s∈post,∀g∈s.2,0<=g/\g<sg)->TI hb sg (pre++post) (post.foldl (fj hb) x):=λpost=>by
  induction post with
  |nil=>intro pre x T _;rw[Oo];exact T
  |cons s post ih=>intro pre x T h;have:=ih (pre++[s]) _ (ES T s (h s (by simp))) λy hy=>h y (by simp[hy]);rw[fC]at this;exact this
 have:=key sts [] ([],[]) ⟨⟨(λi x h=>by simp at h),(λx h=>by cases h),by simp,(λx h=>by cases h)⟩,(λt h=>by cases h),(λr g w h=>by cases h),cN _,cN _⟩ h;exact this
noncomputable def oO(kn:Kn):List bO:=kn.map λx=>(x.2,x.1.1,x.1.2)
def xU(hb:Int)(sts:List bG)(kn:Kn)(r:Int)(p:List Int)(s:Int):Prop:=if p=[]then s=r else ∃w,(r,p++w)∈sts/\mf hb kn s w
section
variable{hb sg:Int}{sts:List bG}{tp:List bO}{kn:Kn}
def Ce(T:TI hb sg sts (tp,kn)){r:Int}{p w:List Int}(hp:p≠[])(h:(r,p++w)∈sts):∃s,mf hb kn s w:=by
 have key:∀(q w:List Int),(∃s,mf hb kn s (q++w))->∃s,mf hb kn s w:=λq=>by
  induction q with
  |nil=>intro w h;exact h
  |cons g q ih=>
   rintro w ⟨s,h⟩;cases h with
   |cons h' r=>exact ih w ⟨_,r⟩
 cases p with
 |nil=>exact absurd rfl hp
 |cons g q=>obtain⟨s,hs,_⟩:=T.Mk r g (q++w) h;exact key q w ⟨s,hs⟩
def Cf(T:TI hb sg sts (tp,kn))(hrm:∀s∈sts,s.1<hb){r:Int}(hr:r<hb){p:List Int}{g t:Int}:(∃s,xU hb sts kn r p s/\(s,g,t)∈tp++oO kn)↔xU hb sts kn r (p++[g]) t:=by
 have K:=T.k;have kmem:∀{s g t:Int},(s,g,t)∈oO kn↔((g,t),s)∈kn:=λ{s g t}=>by
  unfold oO;constructor
  .intro h;obtain⟨x,hx,e⟩:=j3.mp h;obtain⟨⟨a,b⟩,c⟩:=x;cases e;exact hx
  .intro h;exact j3.mpr ⟨_,h,rfl⟩
 unfold xU;rw[cO (by simp)];by_cases hp:p=[]
 .subst hp;simp only[ck,List.nil_append];constructor
  .rintro⟨s,rfl,h⟩;rcases gZ.mp h with h|h
   .obtain⟨w,h1,h2⟩:=T.to _ h;exact⟨w,h1,h2⟩
   .have:=K.val (kmem.mp h);simp only[]at this;lia
  .rintro⟨w,h1,h2⟩;obtain⟨s,h3,h4⟩:=T.Mk r g w h1;rw[h2.one K h3];exact⟨r,rfl,lP _ h4⟩
 .simp only[cO hp];constructor
  .rintro⟨s,⟨w,h1,h2⟩,h⟩;have hs:=h2.ge K;rcases gZ.mp h with h|h
   .obtain⟨w',h3,_⟩:=T.to _ h;have:=hrm _ h3;simp only[]at this;lia
   .obtain⟨w',rfl,h4⟩:=h2.step K (kmem.mp h);exact⟨w',by rw[fC];exact h1,h4⟩
  .rintro⟨w,h1,h2⟩;rw[fC]at h1;obtain⟨s,h3⟩:=Ce T hp h1;cases h3 with
   |cons h4 r'=>obtain rfl:=h2.one K r';exact⟨s,⟨_,h1,.cons h4 r'⟩,p6 _ (kmem.mpr h4)⟩
def EU(T:TI hb sg sts (tp,kn))(hrm:∀s∈sts,s.1<hb){r:Int}(hr:r<hb){p:List Int}:(∃s,xU hb sts kn r p s/\(s=hb\/(s,[])∈sts))↔(r,p)∈sts:=by
 have K:=T.k;unfold xU;by_cases hp:p=[]
 .subst hp;simp only[ck];constructor
  .rintro⟨s,rfl,h|h⟩
   .lia
   .exact h
  .intro h;exact⟨r,rfl,.inr h⟩
 .simp only[cO hp];constructor
  .rintro⟨s,⟨w,h1,h2⟩,h⟩;have hs:=h2.ge K;rcases h with h|h
   .rw[hs.2.2.mp h,Oo]at h1;exact h1
   .have:=hrm _ h;simp only[]at this;lia
  .intro h;exact⟨hb,⟨[],by rw[Oo];exact h,.nil⟩,.inl rfl⟩
def EV{r:Int}{p:List Int}{s:Int}(hp:p≠[])(h:xU hb sts kn r p s):∃w,(r,p++w)∈sts:=by unfold xU at h;rw[cO hp]at h;obtain⟨w,h1,_⟩:=h;exact⟨w,h1⟩
end
theorem cL{α:Type}[DecidableEq α]:∀{l U:List α},l.Nodup->(∀x∈l,x∈U)->l.length<=U.length
 |[],U,_,_=>N3 _
 |x::l,U,nd,h=>by rw[Qk]at nd;have hx:=h x (by simp);have:=cL (l:=l) (U:=U.erase x) nd.2 λy hy=>(List.mem_erase_of_ne λe=>nd.1 (by rw[<- e];exact hy)).mpr (h y (by simp[hy]));rw[List.length_erase_of_mem hx]at this;have:=List.length_pos_of_mem hx;rw[lO];lia
def F3{l:List Int}(h:l.Nodup)(x:Int):(dd l x).Nodup:=by
 unfold dd;split
 .exact h
 .rename_i hx;rw[Pu];exact⟨h,by simp,λa ha b hb e=>by simp at hb;subst hb;exact hx (by rw[<- e];exact ha)⟩
theorem v3:∀(zs:List Int){l:List Int},l.Nodup->(zs.foldl dd l).Nodup
 |[],_,h=>h
 |z::zs,_,h=>v3 zs (F3 h z)
def pY(ts:List bO)(ks:List Int):List Int:=ts.foldl (λk t=>if t.2.2∈k then dd k t.1 else k) ks
theorem v4:∀(ts:List bO){ks:List Int},ks.Nodup->(pY ts ks).Nodup
 |[],_,h=>h
 |t::r,ks,h=>by
  show(pY r (if t.2.2∈ks then dd ks t.1 else ks)).Nodup;split
  .exact v4 r (F3 h _)
  .exact v4 r h
theorem xV:∀(ts:List bO){ks:List Int}{y:Int},y∈pY ts ks->y∈ks\/∃t∈ts,t.1=y
 |[],_,_,h=>.inl h
 |t::r,ks,y,h=>by
  have h:y∈pY r (if t.2.2∈ks then dd ks t.1 else ks):=h;rcases xV r h with h|⟨u,hu,e⟩
  .split at h
   .rcases (Bg ks t.1 y).mp h with h|h
    .exact .inl h
    .exact .inr ⟨t,by simp,h.symm⟩
   .exact .inl h
  .exact .inr ⟨u,by simp[hu],e⟩
theorem v5:∀(ts:List bO)(ks:List Int),ks.length<=(pY ts ks).length/\(pY ts ks).length<=ks.length+ts.length
 |[],ks=>⟨cN _,cN _⟩
 |t::r,ks=>by
  show ks.length<=(pY r (if t.2.2∈ks then dd ks t.1 else ks)).length/\(pY r (if t.2.2∈ks then dd ks t.1 else ks)).length<=_;have h0:=nN ks t.1;have h2:ks.length<=(dd ks t.1).length:=by unfold dd;split<;>simp
  split
  .have:=v5 r (dd ks t.1);rw[lO];lia
  .have:=v5 r ks;rw[lO];lia
theorem v6{M:D}{e3:Option Sl}{fr:Bool}:∀(ts:List bO)(ks:List Int)(e2 e4 e5:Option Sl),ks.length+ts.length<1000000->
 ∃e2' e4' e5',de (gT 3 (aF (gN 2) (aF (gN 4) (aF (gN 5) dG)))) fr bP (ts.map tD) (j_ M ks e2 e3 e4 e5)=.ok (.nx (j_ M (pY ts ks) e2' e3 e4' e5'))
 |[],ks,e2,e4,e5,_=>⟨e2,e4,e5,rfl⟩
 |t::r,ks,e2,e4,e5,hl=>by
  have hd:=nN ks t.1;simp only[lO]at hl;have hfb:(bD ks).flat=false:=rfl;rw[fV,rf (env1:=j_ M ks (some (.val (.int t.1) fr)) e3 (some (.val (.int t.2.1) fr)) (some (.val (.int t.2.2) fr))) rfl];by_cases hin:t.2.2∈ks
  .obtain⟨e2',e4',e5',h⟩:=v6 (M:=M) (e3:=e3) (fr:=fr) r (dd ks t.1) (some (.val (.int t.1) fr)) (some (.val (.int t.2.1) fr)) (some (.val (.int t.2.2) fr)) (by lia);refine⟨e2',e4',e5',?_⟩;have hm:lj 1 (ah 2) (vC (.bl true)) (j_ M ks (some (.val (.int t.1) fr)) e3 (some (.val (.int t.2.1) fr)) (some (.val (.int t.2.2) fr)))=.ok (.nx (j_ M (dd ks t.1) (some (.val (.int t.1) fr)) e3 (some (.val (.int t.2.1) fr)) (some (.val (.int t.2.2) fr)))):=rL (i:=1) (fk:=ah 2) (x:=t.1) (f:=true) (al:=[]) rfl (by unfold j_;simp_arith) (by lia);have hi:=db hin;have hb:bP (j_ M ks (some (.val (.int t.1) fr)) e3 (some (.val (.int t.2.1) fr)) (some (.val (.int t.2.2) fr)))=.ok (.nx (j_ M (dd ks t.1) (some (.val (.int t.1) fr)) e3 (some (.val (.int t.2.1) fr)) (some (.val (.int t.2.2) fr)))):=by unfold j_ at hm;unfold bP j_;simp_arith[hfb,FW,hi];exact hm
   rw[hb,bj,iG,show pY (t::r) ks=pY r (dd ks t.1)from by show pY r (if t.2.2∈ks then dd ks t.1 else ks)=_;rw[ck hin]];exact h
  .obtain⟨e2',e4',e5',h⟩:=v6 (M:=M) (e3:=e3) (fr:=fr) r ks (some (.val (.int t.1) fr)) (some (.val (.int t.2.1) fr)) (some (.val (.int t.2.2) fr)) (by lia);refine⟨e2',e4',e5',?_⟩;have hi:=iA hin;have hb:bP (j_ M ks (some (.val (.int t.1) fr)) e3 (some (.val (.int t.2.1) fr)) (some (.val (.int t.2.2) fr)))=.ok (.nx (j_ M ks (some (.val (.int t.1) fr)) e3 (some (.val (.int t.2.1) fr)) (some (.val (.int t.2.2) fr)))):=by unfold bP j_;simp_arith[hfb,FW,hi,gy,Oh]
   rw[hb,bj,iG,show pY (t::r) ks=pY r ks from by show pY r (if t.2.2∈ks then dd ks t.1 else ks)=_;rw[cO hin]];exact h
def IS{n:Int}{ts:List bO}{es ks:List Int}{e2 e3 e4 e5:Option Sl}(hl:ks.length+ts.length<1000000) :
 ∃e2' e4' e5',dw (j_ (Mc n ts es) ks e2 e3 e4 e5)=.ok (.nx (j_ (Mc n ts es) (pY ts.reverse ks) e2' (some (.val (.int ks.length) true)) e4' e5')):=by
 obtain⟨e2',e4',e5',h⟩:=v6 (M:=Mc n ts es) (e3:=some (.val (.int ks.length) true)) (fr:=false) ts.reverse ks e2 e4 e5 (by rw[PC];exact hl);refine⟨e2',e4',e5',?_⟩;rw[List.map_reverse]at h;unfold j_ Mc at h;unfold dw j_ Mc;have hfb:(bD ks).flat=false:=rfl;have hk2:=F1 (ks:=ks) (by lia);simp_arith[hfb,hk2,h]
def Cg{M:D}{ks:List Int}{e2 e4 e5:Option Sl}{sz:Int}{f:Bool}(hl:ks.length<1000000):vB (v2 wW (ah 3) (j9 cX (ak (ah 1) ay))) (j_ M ks e2 (some (.val (.int sz) f)) e4 e5)=.ok (decide (sz<ks.length)):=by have hfb:(bD ks).flat=false:=rfl;have hk2:=F1 (ks:=ks) (by lia);unfold j_;simp_arith[hfb,hk2]
theorem Ci{n:Int}{ts:List bO}{es:List Int}{U:List Int}(hU:U.length<=900)(ht:∀t∈ts,t.1∈U)(hl:ts.length<=900):∀(m:Nat)(ks:List Int)(sz:Int)(e2 e4 e5:Option Sl)(fuel:Nat),ks.Nodup->(∀x∈ks,x∈U)->U.length-ks.length<=m->m+2<=fuel->
 ∃ks' e2' e3' e4' e5',cq (vB (v2 wW (ah 3) (j9 cX (ak (ah 1) ay)))) dw fuel (j_ (Mc n ts es) ks e2 (some (.val (.int sz) true)) e4 e5)=.ok (.nx (j_ (Mc n ts es) ks' e2' e3' e4' e5'))
 |m,ks,sz,e2,e4,e5,fuel,nd,sub,hm,hf=>by
  obtain⟨fuel,rfl⟩ : ∃k,fuel=k+1:=⟨fuel-1,by lia⟩;have kl:=cL nd sub;unfold cq;rw[Cg (by lia)];by_cases c:sz<(ks.length:Int)
  .rw[db c,bj,ck rfl];obtain⟨a2,a4,a5,h1⟩:=IS (n:=n) (ts:=ts) (es:=es) (ks:=ks) (e2:=e2) (e3:=some (.val (.int sz) true)) (e4:=e4) (e5:=e5) (by lia);rw[h1,bj];show ∃ks' e2' e3' e4' e5',cq _ _ fuel _=_;have nd1:=v4 ts.reverse nd;have sub1:∀x∈pY ts.reverse ks,x∈U:=λx hx=>(xV _ hx).elim (sub x) λ⟨t,h,e⟩=>by rw[<- e];exact ht t (QT.mp h)
   have kl1:=cL nd1 sub1;have gl:=(v5 ts.reverse ks).1;by_cases d:ks.length<(pY ts.reverse ks).length
   .cases m with
    |zero=>lia
    |succ m=>exact Ci hU ht hl m (pY ts.reverse ks) ks.length a2 a4 a5 fuel nd1 sub1 (by lia) (by lia)
   .obtain⟨fuel,rfl⟩ : ∃k,fuel=k+1:=⟨fuel-1,by lia⟩;refine⟨pY ts.reverse ks,a2,some (.val (.int ks.length) true),a4,a5,?_⟩;unfold cq;rw[Cg (by lia),iA (by lia),bj,cO (by simp)]
  .rw[iA c,bj,cO (by simp)];exact⟨_,_,_,_,_,rfl⟩
def EW{n:Int}{ts:List bO}{es:List Int}(h1:ts.length<=300)(h2:es.length<=300):∃ks,dO [Mc n ts es]=.ok (.val (bD ks) true [1]):=by obtain⟨a2,g1⟩:=Cb (M:=Mc n ts es) (e3:=none) (e4:=none) (e5:=none) (fr:=false) es [] none (by simp only[Qo];lia);obtain⟨ks,b2,b3,b4,b5,g2⟩:=Ci (n:=n) (ts:=ts) (es:=es) (U:=es++ts.map (·.1)) (by simp;lia) (λt ht=>p6 _ (OL ht)) (by lia) 900 (es.foldl dd []) (-1) a2 none none 100000 (v3 es Pj) (λx hx=>lP _ (((nL x es []).mp hx).resolve_left (by simp))) (by simp;lia) (by lia);refine⟨ks,?_⟩;have hD:(D.bp [] [])=bD []:=rfl;have hfb:∀ks,(bD ks).flat=false:=λ_=>rfl;unfold j_ Mc at g1 g2;simp_arith[dO,lI,Mc,hD,g1,g2,hfb]
def IT{ts:List bO}{x y z:Int}:z∈g3 ts x y↔(x,y,z)∈ts:=by
 unfold g3;rw[j3];constructor
 .rintro⟨t,ht,rfl⟩;obtain⟨h1,h2⟩:=O9.mp ht;simp at h2;obtain⟨a,b,c⟩:=t;simp only[]at h2;rw[<- h2.1,<- h2.2];exact h1
 .intro h;exact⟨_,O9.mpr ⟨h,by simp⟩,rfl⟩
def thr(ts:List bO)(g:Int)(here:List Int):List Int:=here.foldl (λk s=>(g3 ts s g).foldl dd k) []
theorem oa{ts:List bO}{g:Int}:∀(here ks:List Int),ks.Nodup->(here.foldl (λk s=>(g3 ts s g).foldl dd k) ks).Nodup/\∀t,t∈here.foldl (λk s=>(g3 ts s g).foldl dd k) ks↔t∈ks\/∃s∈here,(s,g,t)∈ts
 |[],ks,h=>⟨h,λt=>by simp⟩
 |s::r,ks,h=>by obtain⟨a,b⟩:=oa (ts:=ts) (g:=g) r ((g3 ts s g).foldl dd ks) (v3 _ h);refine⟨a,λt=>?_⟩;rw[O2,b,nL,IT];simp only[j5,exists_eq_or_imp,or_assoc]
def thr_mem{ts:List bO}{g:Int}{here:List Int}{t:Int}:t∈thr ts g here↔∃s∈here,(s,g,t)∈ts:=by unfold thr;rw[(oa here [] Pj).2];simp
def xW(ts:List bO)(g:Int)(here:List Int):(thr ts g here).length<=ts.length:=by
 have:=cL (U:=ts.map λt=>t.2.2) (oa (ts:=ts) (g:=g) here [] Pj).1 λt ht=>by obtain⟨s,_,h⟩:=thr_mem.mp ht;exact j3.mpr ⟨_,h,rfl⟩
 rw[cM]at this;exact this
def xX{f:En->Res R}{asg:D->Bool->En->Option En}{fb:En->Res Fl}{env:En}{ds:List D}{fr:Bool}{al:List Nat}(h:f env=.ok (.val (.lst ds) fr al)):lr f asg fb env=iP (g5 f) asg fb env:=by unfold lr;rw[h];rfl
theorem xY{ts:List bO}{g:Int}(hl:ts.length<=300){e1:Option Sl}{fr:Bool}:∀(here ks:List Int)(e4 e5:Option Sl),ks.length+here.length*300<1000000->
 ∃e4' e5',de (gN 4) fr c9 (here.map .int) [some (.val (cC ts) false),e1,some (.val (.int g) false),some (.cw (bD ks)),e4,e5]=.ok (.nx [some (.val (cC ts) false),e1,some (.val (.int g) false),some (.cw (bD (here.foldl (λk s=>(g3 ts s g).foldl dd k) ks))),e4',e5'])
 |[],ks,e4,e5,_=>⟨e4,e5,rfl⟩
 |s::r,ks,e4,e5,hk=>by
  simp only[lO,Nat.succ_mul]at hk;have hg:(cC ts).flat=false:=rfl;obtain⟨f',hget⟩:=IQ (env:=[some (.val (cC ts) false),e1,some (.val (.int g) false),some (.cw (bD ks)),some (.val (.int s) fr),e5]) (fa:=ah 0) (fk:=cV (ak (ah 4) (ak (ah 2) ay))) (ts:=ts) (x:=s) (y:=g) (f:=false) (fk':=true) (al:=[]) (by simp_arith[hg]) (by simp_arith);have g3l:=Bh ts s g;obtain⟨e5',h1⟩:=xT (e0:=some (.val (cC ts) false)) (e1:=e1) (e2:=some (.val (.int g) false)) (e4:=some (.val (.int s) fr)) (fr:=f') (g3 ts s g) ks e5 (by lia);have dl:=xK (g3 ts s g) ks;obtain⟨e4',e5'',h2⟩:=xY hl (e1:=e1) (fr:=fr) r ((g3 ts s g).foldl dd ks) (some (.val (.int s) fr)) e5' (by lia);refine⟨e4',e5'',?_⟩;rw[fV,rf (env1:=[some (.val (cC ts) false),e1,some (.val (.int g) false),some (.cw (bD ks)),some (.val (.int s) fr),e5]) rfl];have hb:c9 [some (.val (cC ts) false),e1,some (.val (.int g) false),some (.cw (bD ks)),some (.val (.int s) fr),e5]=.ok (.nx [some (.val (cC ts) false),e1,some (.val (.int g) false),some (.cw (bD ((g3 ts s g).foldl dd ks))),some (.val (.int s) fr),e5']):=by show iP (g5 (tS (ah 0) (cV (ak (ah 4) (ak (ah 2) ay))) (lV ay))) (gN 5) c8 _=_;rw[xD,kN,hget];exact h1
  rw[hb,bj,iG];exact h2
def Cj{ts:List bO}{g:Int}{here:List Int}(hl:ts.length<=300)(hh:here.length<=300):c_ [cC ts,.lst (here.map .int),.int g]=.ok (.new ((thr ts g here).map .int) true):=by
 have hv:ah 1 [some (.val (cC ts) false),some (.val (.lst (here.map .int)) false),some (.val (.int g) false),some (.cw (bD [])),none,none]=.ok (.val (.lst (here.map .int)) false []):=by simp_arith
 obtain⟨e4,e5,h2⟩:=xY (g:=g) hl (e1:=some (.val (.lst (here.map .int)) false)) (fr:=false) here [] none none (by simp;lia);have hF:lr (ah 1) (gN 4) c9 [some (.val (cC ts) false),some (.val (.lst (here.map .int)) false),some (.val (.int g) false),some (.cw (bD [])),none,none]=.ok (.nx [some (.val (cC ts) false),some (.val (.lst (here.map .int)) false),some (.val (.int g) false),some (.cw (bD (thr ts g here))),e4,e5]):=by rw[xX hv,xD,kN,hv,bj,ij,bj,vQ,vR];exact h2
 have tl:=xW ts g here;have hb:=BX (f:=true) (al:=[3]) (ks:=thr ts g here) (by lia);have hD:(D.bp [] [])=bD []:=rfl;simp_arith[c_,jV,hD,hF,hb]
def EX(n:Nat)(caps:List Nat)(f:En->Res R)(asg:D->Bool->En->Option En)(ft:En->Res Bool)(fe:En->Res R)(env:En):nW n caps f asg ft fe env=(f env).bind (nV n caps asg ft fe env):=(rfl)
def Ck{n:Nat}{caps:List Nat}{asg:D->Bool->En->Option En}{ft:En->Res Bool}{fe:En->Res R}{env:En}{ks:List DK}{ds xs:List D}{fr:Bool}{full:List R}(h1:lY ks ds=some xs)(h2:xs.length<=1000000)(h3:D.ba ds=true)
 (hc:cF (λd=>asg d true (dS env n caps)) ft fe xs=.ok full) (hf:D.ba (full.map R.d)=true):nV n caps asg ft fe env (.val (.bp ks ds) fr [])=.ok (.new (full.map R.d) true):=by
 have h2:xs.length<=lim:=h2;unfold nV;simp only[aL,n9,h1,h3,hc,hf,h2,and_self,O_]
def oe(s:bG):(aA s).flat=false:=(rfl)
def ux(kn:Kn):(rR kn).flat=false:=(rfl)
theorem Cm:∀kn:Kn,lY (kn.map λx=>(.inr [.inl x.1.1,.inl x.1.2]:DK)) (kn.map λx=>D.int x.2)=some (kn.map λx=>.tup [.tup [.int x.1.1,.int x.1.2],.int x.2])
 |[]=>rfl
 |x::kn=>by rw[fV,fV];unfold lY;rw[Cm kn];rfl
noncomputable def og(s:bG):Bool:=s.2.length==0
def kW(hb:Int)(sts:List bG):List Int:=(sts.filter og).map (·.1)++[hb]
def end_mem{hb:Int}{sts:List bG}{x:Int}:x∈kW hb sts↔x=hb\/(x,[])∈sts:=by
 unfold kW;rw[gZ,lQ,j3];constructor
 .rintro (⟨⟨r,w⟩,h,rfl⟩|h)
  .obtain⟨h1,h2⟩:=O9.mp h;unfold og at h2;have:w=[]:=by simpa using h2
   subst this;exact .inr h1
  .exact .inl h
 .rintro (h|h)
  .exact .inr h
  .exact .inl ⟨_,O9.mpr ⟨h,rfl⟩,rfl⟩
def v7{ro sg:Int}{sts:List bG}(hl:sts.length<=50)(hs:∀s∈sts,s.2.length<=1000)(l1:(fm ro sts).1.length<=50)(lk:(fm ro sts).2.length<=240) :
 iI [.tup [.int ro,.int sg,.lst []],.lst (sts.map aA)]=.ok (.iS (Mc (ro+1+((fm ro sts).2.length:Nat)) (bJ ((fm ro sts).1++oO (fm ro sts).2)) (di (kW ro sts)))):=by
 have ht:L4.xx 3 2 0 1 [some (.val (.tup [.int ro,.int sg,.lst []]) false),some (.val (.lst (sts.map aA)) false),some (.cw (.bp [] [])),none,none,none]=.ok (.nx [some (.val (.tup [.int ro,.int sg,.lst []]) false),some (.val (.lst (sts.map aA)) false),some (.val (rR (fm ro sts).2) true),some (.own ((fm ro sts).1.map tD) true),none,none]):=Bs (i:=3) (j:=2) (env:=[some (.val (.tup [.int ro,.int sg,.lst []]) false),some (.val (.lst (sts.map aA)) false),some (.cw (.bp [] [])),none,none,none]) (by show 3<6;decide) (by decide) (x:=(ro,sts)) ⟨⟨_,rfl⟩,rfl,by simp only[];lia,hs⟩;generalize(fm ro sts).1=tp at ht l1;generalize(fm ro sts).2=kn at ht lk;have fk:D.ba ((oO kn).map tD)=true:=cG _ _ rG;have ft:D.ba (tp.map tD)=true:=cG _ _ rG;have hJ:nW 2 [] (ah 2) (gT 2 (aF (gN 0) (aF (gN 1) dG))) (λ_=>.ok true) fQ [some (.val (.tup [.int ro,.int sg,.lst []]) false),some (.val (.lst (sts.map aA)) false),some (.val (rR kn) true),some (.own (tp.map tD) true),none,none]=.ok (.new ((oO kn).map tD) true):=by
  have h:=dt (mk:=λd=>gT 2 (aF (gN 0) (aF (gN 1) dG)) d true (dS [some (.val (.tup [.int ro,.int sg,.lst []]) false),some (.val (.lst (sts.map aA)) false),some (.val (rR kn) true),some (.own (tp.map tD) true),none,none] 2 [])) (test:=λ_=>.ok true) (elt:=fQ) (λx:(Int×Int)×Int=>.tup [.tup [.int x.1.1,.int x.1.2],.int x.2]) (λx=>.val (tD (x.2,x.1.1,x.1.2)) true []) kn λx _=>⟨[some (.val (.tup [.int x.1.1,.int x.1.2]) true),some (.val (.int x.2) true)],rfl,rfl,by simp_arith[fQ,tD]⟩;have hk:=Ck (n:=2) (caps:=[]) (fr:=true) (ft:=λ_=>.ok true) (Cm kn) (by rw[cM];lia) (cG _ _ λx=>rfl) h (by rw[pS];exact cG _ _ λx=>rfl);have hv:ah 2 [some (.val (.tup [.int ro,.int sg,.lst []]) false),some (.val (.lst (sts.map aA)) false),some (.val (rR kn) true),some (.own (tp.map tD) true),none,none]=.ok (.val (rR kn) true []):=by simp_arith[ux]
  rw[EX,hv,bj];unfold rR at *;rw[hk,pS (λx:(Int×Int)×Int=>tD (x.2,x.1.1,x.1.2))];unfold oO;rw[v9];rfl
 have hE:∀e4:Option Sl,d8 2 [] (g5 (ah 1)) (gT 2 (aF (gN 0) (aF (gN 1) dG))) fR fS [some (.val (.tup [.int ro,.int sg,.lst []]) false),some (.val (.lst (sts.map aA)) false),some (.val (rR kn) true),some (.own (tp.map tD) true),e4,none]=.ok (.new (((sts.filter og).map (·.1)).map .int) true):=λe4=>by
  have h:=jM (mk:=λd=>gT 2 (aF (gN 0) (aF (gN 1) dG)) d false (dS [some (.val (.tup [.int ro,.int sg,.lst []]) false),some (.val (.lst (sts.map aA)) false),some (.val (rR kn) true),some (.own (tp.map tD) true),e4,none] 2 [])) (test:=fR) (elt:=fS) aA og (λs=>.val (.int s.1) true []) sts λs _=>⟨[some (.val (.int s.1) false),some (.val (.lst (s.2.map .int)) false)],rfl,by
   have e:fF (.int (s.2.length:Nat)) (.int 0)=og s:=by unfold og;rw[FN];cases s.2<;>simp<;>lia
   simp_arith[fR,zn,cM,e],λ_=>by simp_arith[fS]⟩
  rw[fq,kN,show ah 1 [some (.val (.tup [.int ro,.int sg,.lst []]) false),some (.val (.lst (sts.map aA)) false),some (.val (rR kn) true),some (.own (tp.map tD) true),e4,none]=.ok (.val (.lst (sts.map aA)) false [])from by simp_arith,bj,ij,bj];rw[iF (by rw[cM];lia) h,pS (λs:bG=>D.int s.1),vO (cG _ _ λ_=>rfl),v9];rfl
 have el:=QP og sts;have hlk:uc [.val (rR kn) true []]=.ok (.val (.int (kn.length:Nat)) true []):=by unfold uc rR;simp only[aL];rw[ck (by rw[QR,Om];intro x _;rfl),cM]
 have hf:=zy (ro+1+(kn.length:Nat)) (tp++oO kn) (kW ro sts) (by unfold oO;simp;lia) (by unfold kW;simp;lia);have a1:(tp.map tD).length+((oO kn).map tD).length<=1000000:=by unfold oO;simp;lia
 have a2:(((sts.filter og).map (·.1)).map D.int).length+[D.int ro].length<=1000000:=by simp;lia
 have f1:D.ba (tp.map tD++(oO kn).map tD)=true:=by rw[<- N4];exact cG _ _ rG
 have e2:((sts.filter og).map (·.1)).map D.int++[D.int ro]=(kW ro sts).map D.int:=by unfold kW;rw[N4];rfl
 have f2:D.ba (((sts.filter og).map (·.1)).map D.int++[D.int ro])=true:=by rw[e2];exact bg _
 rw[<- e2,N4 (f:=tD)]at hf;simp_arith[-fq,iI,pT,ht,hJ,hE,hlk,ux,ft,fk,vP a1,vP a2,f1,f2,xB,hf,rH]
abbrev vv(d:D)(f:Bool):Option Sl:=some (.val d f)
noncomputable def ky(s:bG):List K0:=[.inl s.1,.inr s.2]
noncomputable def Co(s:bG):D:=.tup [.int s.1,.tup (s.2.map .int)]
def xZ(s:bG):qY (Co s)=some (ky s):=by show gR [.int _,.tup _]=_;simp only[gR,iH,Option.bind_some,Qs];rfl
def IU{a b:bG}(h:ky a=ky b):a=b:=by unfold ky at h;simp only[List.cons.injEq,Sum.inr.injEq,Sum.inl.injEq,and_true]at h;exact Q7 h.1 h.2
def x5(l:List bG)(s:bG):oF (l.map ky) (ky s)=decide (s∈l):=by
 unfold oF;rw[Ra,Pb,PN,Rb];constructor
 .rintro⟨k,hk,e⟩;exact IU (P5 e)▸hk
 .intro h;exact⟨s,h,by simp⟩
noncomputable def Cp(l:List bG)(s:bG):List bG:=if s∈l then l else l++[s]
def nad_mem{l:List bG}{s x:bG}:x∈Cp l s↔x∈l\/x=s:=by
 unfold Cp;split
 .rename_i h;exact⟨.inl,λz=>z.elim id λe=>e▸h⟩
 .rw[gZ,lQ]
def Cq{l:List bG}(h:l.Nodup)(s:bG):(Cp l s).Nodup:=by
 unfold Cp;split
 .exact h
 .rename_i hx;rw[Pu];exact⟨h,by simp,λa ha b hb e=>by simp at hb;subst hb;exact hx (by rw[<- e];exact ha)⟩
def EY(l:List bG)(s:bG):yN (l.map ky) (ky s)=(Cp l s).map ky:=by
 unfold yN Cp;rw[x5];by_cases h:s∈l
 .rw[db h,ck rfl,ck h]
 .rw[iA h,cO (by simp),cO h,N4];rfl
def F4{i:Nat}{env:En}{fk:En->Res R}{l:List bG}{s:bG}{f:Bool}{al:List Nat}(he:env[i]?=some (some (.fD (l.map ky))))(hk:fk env=.ok (.val (Co s) f al))(hl:l.length<1000000) :
 nU i fk (vC (.bl true)) env=.ok (.nx (env.set i (some (.fD ((Cp l s).map ky))))):=by
 unfold nU;rw[he];dsimp only;rw[MX,bj,hk,bj];unfold Bo;rw[aL,xZ];dsimp only;rw[ck (show(l.map ky).length<lim by rw[cM];exact hl),EY]
def LG{i:Nat}{env:En}{fk:En->Res R}{l:List bG}{s:bG}{f:Bool}{al:List Nat}(he:env[i]?=some (some (.fD (l.map ky))))(hk:fk env=.ok (.val (Co s) f al)) :
 t7 i fk env=.ok (.val (.bl (decide (s∈l))) true []):=by
 unfold t7;rw[hk,bj];unfold HG;rw[he,aL,xZ];dsimp only;rw[x5]
noncomputable def iq(s:bG):List bG:=(List.range s.2.length).map λk=>(s.1,s.2.take (k+1))
def pre1_mem{s x:bG}:x∈iq s↔∃k,k<s.2.length/\x=(s.1,s.2.take (k+1)):=by
 unfold iq;rw[j3];constructor
 .rintro⟨k,h,rfl⟩;exact⟨k,N8.mp h,rfl⟩
 .rintro⟨k,h,rfl⟩;exact⟨k,N8.mpr h,rfl⟩
def pre_char{sts:List bG}{r:Int}{p:List Int}:(r,p)∈sts.flatMap iq↔p≠[]/\∃w,(r,p++w)∈sts:=by
 rw[List.mem_flatMap];constructor
 .rintro⟨s,hs,h⟩;obtain⟨k,hk,e⟩:=pre1_mem.mp h;cases e;refine⟨λz=>?_,s.2.drop (k+1),by rw[lR];exact hs⟩;have:=N7 List.length z;rw[N5,Qo]at this;lia
 .rintro⟨hp,w,h⟩;refine⟨_,h,pre1_mem.mpr ⟨p.length-1,?_,?_⟩⟩
  .have:=List.length_pos_iff.mpr hp;simp only[KE];lia
  .have:=List.length_pos_iff.mpr hp;simp only[];rw[show p.length-1+1=p.length by lia,Ri]
def jA(M:D)(ro sg:Int)(sts l4 l5:List bG)(e6 e7 e8:Option Sl):En:=[vv M false,vv (.int ro) false,vv (.int sg) false,vv (.lst (sts.map aA)) false,some (.fD (l4.map ky)),some (.fD (l5.map ky)),e6,e7,e8,none,none,none,none,none,none,none,none]
section
variable{M:D}{ro sg:Int}{sts:List bG}
def Cr(ns:List Int)(k:Nat):e_ ns none (some ((k:Nat):Int))=ns.take k:=by unfold e_;have h1:HT.sIx ns.length 0 none=0:=rfl;rw[h1,HT.sIx_nat];simp
def IV{l4 l5:List bG}{r:Int}{w:List Int}{k:Nat}(hl:l5.length<1000000) :
 dy (jA M ro sg sts l4 l5 (vv (.int r) false) (vv (.lst (w.map .int)) false) (vv (.int (k:Nat)) true))=.ok (.nx (jA M ro sg sts l4 (Cp l5 (r,w.take (k+1))) (vv (.int r) false) (vv (.lst (w.map .int)) false) (vv (.int (k:Nat)) true))):=by
 have hk:cV (ak (ah 6) (ak (j9 gK (ak (jI (ah 7) w8 (pF (v2 dF (ah 8) (vC (.int 1))))) ay)) ay)) (jA M ro sg sts l4 l5 (vv (.int r) false) (vv (.lst (w.map .int)) false) (vv (.int (k:Nat)) true))=.ok (.val (Co (r,w.take (k+1))) true []):=by have e:e_ w none (some ((k:Nat)+1:Int))=w.take (k+1):=Cr w (k+1);have hT:∀(ds:List D)(f:Bool),gK [.new ds f]=.ok (hI (.tup ds) f []):=λ_ _=>rfl;unfold jA Co;simp_arith[ug,e,bg,hT]
 exact F4 (i:=5) (env:=jA M ro sg sts l4 l5 (vv (.int r) false) (vv (.lst (w.map .int)) false) (vv (.int (k:Nat)) true)) rfl hk hl
def EZ{U:List bG}(hU:U.length<1000000){l4 l5:List bG}{r:Int}{w:List Int}{e8:Option Sl}(nd:l5.Nodup)(sub:∀x∈l5,x∈U)(hw:∀x∈iq (r,w),x∈U) :
 ∃l5' e8',de (gN 8) true dy (eV 0 w.length) (jA M ro sg sts l4 l5 (vv (.int r) false) (vv (.lst (w.map .int)) false) e8)=.ok (.nx (jA M ro sg sts l4 l5' (vv (.int r) false) (vv (.lst (w.map .int)) false) e8'))/\l5'.Nodup/\(∀x∈l5',x∈U)/\∀x,x∈l5'↔x∈l5\/x∈iq (r,w):=by
 obtain⟨aB,q1,l',e8',q2,q3,q4,q5⟩:=il (λk:Nat=>D.int (k:Nat)) (asg:=gN 8) (fr:=true) (body:=dy) (λpre env=>∃l' e8,env=jA M ro sg sts l4 l' (vv (.int r) false) (vv (.lst (w.map .int)) false) e8/\l'.Nodup/\(∀x∈l',x∈U)/\∀x,x∈l'↔x∈l5\/∃k∈pre,x=(r,w.take (k+1))) (List.range w.length) [] _ ⟨l5,e8,rfl,nd,sub,λx=>by simp⟩ (λpre post k env _ hp hm=>by
  obtain⟨l',e8,rfl,h1,h2,h3⟩:=hp;have ll:=cL h1 h2;refine⟨_,_,rfl,IV (by lia),_,_,rfl,Cq h1 _,λx hx=>?_,λx=>?_⟩
  .rcases nad_mem.mp hx with h|h
   .exact h2 x h
   .rw[h];exact hw _ (pre1_mem.mpr ⟨k,N8.mp hm,rfl⟩)
  .rw[nad_mem,h3];simp only[gZ,lQ];constructor
   .rintro ((h|⟨j,hj,e⟩)|h)
    .exact .inl h
    .exact .inr ⟨j,.inl hj,e⟩
    .exact .inr ⟨k,.inr rfl,h⟩
   .rintro (h|⟨j,hj|rfl,e⟩)
    .exact .inl (.inl h)
    .exact .inl (.inr ⟨j,hj,e⟩)
    .exact .inr e)
 refine⟨l',e8',by rw[jQ,q1,q2],q3,q4,λx=>?_⟩;rw[q5,pre1_mem];simp only[List.nil_append,N8]
def IW{U:List bG}(hU:U.length<1000000){l4 l5:List bG}{s:bG}{e8:Option Sl}(hl4:l4.length<1000000)(nd:l5.Nodup)(sub:∀x∈l5,x∈U)(hw:∀x∈iq s,x∈U)(hs:s.2.length<1000000) :
 ∃l5' e8',cu (jA M ro sg sts l4 l5 (vv (.int s.1) false) (vv (.lst (s.2.map .int)) false) e8)=.ok (.nx (jA M ro sg sts (Cp l4 s) l5' (vv (.int s.1) false) (vv (.lst (s.2.map .int)) false) e8'))/\l5'.Nodup/\(∀x∈l5',x∈U)/\∀x,x∈l5'↔x∈l5\/x∈iq s:=by
 obtain⟨r,w⟩:=s;obtain⟨l5',e8',q,a,b,c⟩:=EZ (M:=M) (ro:=ro) (sg:=sg) (sts:=sts) hU (l4:=Cp l4 (r,w)) (l5:=l5) (r:=r) (w:=w) (e8:=e8) nd sub hw;refine⟨l5',e8',?_,a,b,c⟩;have hT:∀(ds:List D)(f:Bool)(al:List Nat),gK [.val (.lst ds) f al]=.ok (hI (.tup ds) f al):=λ_ _ _=>rfl;have hk:cV (ak (ah 6) (ak (j9 gK (ak (ah 7) ay)) ay)) (jA M ro sg sts l4 l5 (vv (.int r) false) (vv (.lst (w.map .int)) false) e8)=.ok (.val (Co (r,w)) true []):=by unfold jA Co;simp_arith[bg,hT]
 have hp:=F4 (i:=4) (env:=jA M ro sg sts l4 l5 (vv (.int r) false) (vv (.lst (w.map .int)) false) e8) (l:=l4) rfl hk hl4;have m1:(-4611686018427387904:Int)<=(w.length:Int):=by lia
 have m2:(w.length:Int)<4611686018427387904:=by simp only[]at hs;lia
 have hp:nU 4 (cV (ak (ah 6) (ak (j9 gK (ak (ah 7) ay)) ay))) (vC (.bl true)) (jA M ro sg sts l4 l5 (vv (.int r) false) (vv (.lst (w.map .int)) false) e8)=.ok (.nx (jA M ro sg sts (Cp l4 (r,w)) l5 (vv (.int r) false) (vv (.lst (w.map .int)) false) e8)):=hp;unfold cu;rw[fO,hp,bj,jL];unfold jA at q;unfold jA;simp_arith[ud,cM,m1,m2,P3,q]
def Cs(hU:(sts.flatMap iq).length<1000000)(hs:sts.length<1000000)(hl:∀s∈sts,s.2.length<1000000) :
 ∃l4 l5 e6 e7 e8,lr (ah 3) (gT 2 (aF (gN 6) (aF (gN 7) dG))) cu (jA M ro sg sts [] [] none none none)=.ok (.nx (jA M ro sg sts l4 l5 e6 e7 e8))/\(∀x,x∈l4↔x∈sts)/\(∀x,x∈l5↔x∈sts.flatMap iq)/\l5.length<=(sts.flatMap iq).length:=by
 obtain⟨aB,q1,l4,l5,e6,e7,e8,q2,a1,a2,a3,b1,b2,b3⟩:=il aA (asg:=gT 2 (aF (gN 6) (aF (gN 7) dG))) (fr:=false) (body:=cu) (λpre env=>∃l4 l5 e6 e7 e8,env=jA M ro sg sts l4 l5 e6 e7 e8/\l4.Nodup/\(∀x∈l4,x∈sts)/\(∀x,x∈l4↔x∈pre)/\l5.Nodup/\(∀x∈l5,x∈sts.flatMap iq)/\∀x,x∈l5↔x∈pre.flatMap iq) sts [] (jA M ro sg sts [] [] none none none) ⟨[],[],none,none,none,rfl,by simp,by simp,by simp,by simp,by simp,by simp⟩ (λpre post s env _ hp hm=>by
  obtain⟨l4,l5,e6,e7,e8,rfl,a1,a2,a3,b1,b2,b3⟩:=hp;have ll:=cL a1 a2;obtain⟨l5',e8',q,c1,c2,c3⟩:=IW (M:=M) (ro:=ro) (sg:=sg) (sts:=sts) hU (l4:=l4) (l5:=l5) (s:=s) (e8:=e8) (by lia) b1 b2 (λx hx=>List.mem_flatMap.mpr ⟨s,hm,hx⟩) (hl s hm);refine⟨_,_,rfl,q,_,_,_,_,_,rfl,Cq a1 _,λx hx=>?_,λx=>?_,c1,c2,λx=>?_⟩
  .rcases nad_mem.mp hx with h|h
   .exact a2 x h
   .rw[h];exact hm
  .rw[nad_mem,a3,gZ,lQ]
  .rw[c3,b3,List.flatMap_append,gZ];simp)
 refine⟨l4,l5,e6,e7,e8,?_,by simpa using a3,by simpa using b3,cL b1 b2⟩;have hv:ah 3 (jA M ro sg sts [] [] none none none)=.ok (.val (.lst (sts.map aA)) false []):=by unfold jA;simp_arith
 rw[xX hv,xD,kN,hv,bj,ij,bj,vQ,vR,q1,q2]
end
noncomputable abbrev Rw:=Int×List Int×List Int
noncomputable def uy(x:Rw):D:=.tup [.int x.1,.tup (x.2.1.map .int),.lst (x.2.2.map .int)]
def Ct(x:Rw):(uy x).flat=false:=by unfold uy;simp only[jO,cD,jN,bg,n8,Bool.true_and,Qa]
def jB(M:D)(ro sg:Int)(sts l4 l5:List bG)(e6 e7 e8:Option Sl)(ts:List bO)(ks:List Int)(rows:List Rw)(ai:Int)(e13 e14 e15 e16:Option Sl):En:=[vv M false,vv (.int ro) false,vv (.int sg) false,vv (.lst (sts.map aA)) false,some (.fD (l4.map ky)),some (.fD (l5.map ky)),e6,e7,e8,vv (cC ts) true,vv (bD ks) true,some (.own (rows.map uy) true),vv (.int ai) true,e13,e14,e15,e16]
def Ni(p:List Int)(g:Int)(h:p.length<1000)(f f':Bool):lB (.val (.tup (p.map .int)) f []) (.val (.tup [.int g]) f' [])=.ok (.val (.tup ((p++[g]).map .int)) true []):=by
 have hf:D.flat (.tup ((p++[g]).map .int))=true:=by rw[jO,bg]
 cases p with
 |nil=>show Res.ok (hI (.tup [.int g]) f' [])=_;rfl
 |cons a p=>
  have e0:lB (.val (.tup ((a::p).map .int)) f []) (.val (.tup [.int g]) f' [])=dF (.val (.tup ((a::p).map .int)) f []) (.val (.tup [.int g]) f' []):=rfl;rw[e0];unfold dF;rw[aL,aL];dsimp only;have hc:((a::p).map D.int).length+[D.int g].length<=lim/\(a::p).map D.int≠[]:=⟨by show _<=1000000;simp at h ⊢;lia,by simp⟩;rw[ck hc];have e:(a::p).map D.int++[D.int g]=((a::p)++[g]).map D.int:=by simp
  rw[e];unfold hI;rw[ck hf]
section
variable{M:D}{ro sg:Int}{sts l4 l5:List bG}{e7 e8:Option Sl}{ts:List bO}{ks:List Int}{rows:List Rw}{ai:Int}{e16:Option Sl}
def IX{x:Rw}{g:Int}(hts:ts.length<=300)(hh:x.2.2.length<=300)(hr:rows.length<1000000)(hp:x.2.1.length<1000)(hno:(x.1,x.2.1++[g])∉l5->thr ts g x.2.2=[]) :
 dA (jB M ro sg sts l4 l5 (vv (.int x.1) true) e7 e8 ts ks rows ai (vv (.tup (x.2.1.map .int)) true) (vv (.lst (x.2.2.map .int)) true) (vv (.int g) true) e16) =
  .ok (.nx (jB M ro sg sts l4 l5 (vv (.int x.1) true) e7 e8 ts ks (if(x.1,x.2.1++[g])∈l5 then rows++[(x.1,x.2.1++[g],thr ts g x.2.2)]else rows) ai (vv (.tup (x.2.1.map .int)) true) (vv (.lst (x.2.2.map .int)) true) (vv (.int g) true) (vv (.lst ((thr ts g x.2.2).map .int)) true))):=by
 obtain⟨r,p,here⟩:=x;simp only[]at hh hp hno ⊢;have ht:=Cj (g:=g) hts hh;have hg:(cC ts).flat=false:=rfl;have hB:(bD ks).flat=false:=rfl;have ha:=Ni p g hp;have h1:ie 16 (cn c_ (ak (ah 9) (ak (ah 14) (ak (ah 15) ay)))) (jB M ro sg sts l4 l5 (vv (.int r) true) e7 e8 ts ks rows ai (vv (.tup (p.map .int)) true) (vv (.lst (here.map .int)) true) (vv (.int g) true) e16)=.ok (.nx (jB M ro sg sts l4 l5 (vv (.int r) true) e7 e8 ts ks rows ai (vv (.tup (p.map .int)) true) (vv (.lst (here.map .int)) true) (vv (.int g) true) (vv (.lst ((thr ts g here).map .int)) true))):=by unfold jB;simp_arith[ht,hg,hB,bg]
 have hk:cV (ak (ah 6) (ak (v2 lB (ah 13) (cV (ak (ah 15) ay))) ay)) (jB M ro sg sts l4 l5 (vv (.int r) true) e7 e8 ts ks rows ai (vv (.tup (p.map .int)) true) (vv (.lst (here.map .int)) true) (vv (.int g) true) (vv (.lst ((thr ts g here).map .int)) true))=.ok (.val (Co (r,p++[g])) true []):=by unfold jB Co;simp_arith[ha,bg]
 have hi:=LG (i:=5) (env:=jB M ro sg sts l4 l5 (vv (.int r) true) e7 e8 ts ks rows ai (vv (.tup (p.map .int)) true) (vv (.lst (here.map .int)) true) (vv (.int g) true) (vv (.lst ((thr ts g here).map .int)) true)) (l:=l5) rfl hk;unfold dA;rw[fO,h1,bj,jL,HM,K8,hi,bj];by_cases hin:(r,p++[g])∈l5
 .rw[db hin,ck hin];have hap:tH 11 (cV (ak (ah 6) (ak (v2 lB (ah 13) (cV (ak (ah 15) ay))) (ak (ah 16) ay)))) (jB M ro sg sts l4 l5 (vv (.int r) true) e7 e8 ts ks rows ai (vv (.tup (p.map .int)) true) (vv (.lst (here.map .int)) true) (vv (.int g) true) (vv (.lst ((thr ts g here).map .int)) true))=.ok (.nx (jB M ro sg sts l4 l5 (vv (.int r) true) e7 e8 ts ks (rows++[(r,p++[g],thr ts g here)]) ai (vv (.tup (p.map .int)) true) (vv (.lst (here.map .int)) true) (vv (.int g) true) (vv (.lst ((thr ts g here).map .int)) true))):=by unfold jB;simp_arith[ha,bg];rw[vS (by rw[cM];exact hr) rfl,N4 (f:=uy)];rfl
  exact hap
 .rw[iA hin,cO hin];have et:=hno hin;rw[et];have hv:ah 16 (jB M ro sg sts l4 l5 (vv (.int r) true) e7 e8 ts ks rows ai (vv (.tup (p.map .int)) true) (vv (.lst (here.map .int)) true) (vv (.int g) true) (vv (.lst []) true))=.ok (.val (.lst []) true []):=by unfold jB;simp_arith
  have hc:=uf (n:=1) (caps:=[10]) (asg:=gN 0) (ft:=λ_=>.ok true) (fe:=dz) hv;have hk0:∀env,n6 1 [10] (gN 0) (λ_=>.ok true) dz env ⟨[],true,[]⟩=.ok (gP [] true ([]++([10]:List Nat).filter (bW env))):=λenv=>rfl;have hy:IB (.lst [])=.ok (.val (.bl false) true []):=rfl;have:tG (lU (j9 vG (ak (dW 1 [10] (ah 16) (gN 0) (λ_=>.ok true) dz) ay))) (dR (vC (.bl false))) iO (jB M ro sg sts l4 l5 (vv (.int r) true) e7 e8 ts ks rows ai (vv (.tup (p.map .int)) true) (vv (.lst (here.map .int)) true) (vv (.int g) true) (vv (.lst []) true))=.ok (.nx (jB M ro sg sts l4 l5 (vv (.int r) true) e7 e8 ts ks rows ai (vv (.tup (p.map .int)) true) (vv (.lst (here.map .int)) true) (vv (.int g) true) (vv (.lst []) true))):=by unfold jB at hc ⊢;simp_arith[hc,hk0,hy]
  exact this
end
theorem E1{asg:D->Bool->En->Option En}{fr:Bool}{body:En->Res Fl}(P:Nat->En->Prop):∀(m k:Nat)(env:En),P k env->
 (∀(j:Nat)(env:En),j<k+m->P j env->∃env1 env2,asg (.int (j:Nat)) fr env=some env1/\body env1=.ok (.nx env2)/\P (j+1) env2)->
 ∃aB,de asg fr body ((List.range' k m).map λj=>D.int (j:Nat)) env=.ok (.nx aB)/\P (k+m) aB
 |0,k,env,h,_=>⟨env,rfl,h⟩
 |m+1,k,env,h,st=>by obtain⟨env1,env2,h1,h2,h3⟩:=st k env (by lia) h;obtain⟨aB,e1,e2⟩:=E1 P m (k+1) env2 h3 λj e hj=>st j e (by lia);refine⟨aB,?_,by rw[show k+(m+1)=k+1+m by lia];exact e2⟩;rw[List.range'_succ,fV];unfold de;rw[h1];dsimp only;rw[h2];exact e1
noncomputable def F5(x:Rw):bG:=(x.1,x.2.1)
structure JI(hb:Int) (sts:List bG) (kn:Kn) (l5:List bG) (rows:List Rw) (a:Nat):Prop where
 CN:∀x∈rows,0<=x.1/\x.1<hb
 Ml:∀x∈rows,x.2.1=[]\/F5 x∈l5
 LN:∀x∈rows,∀t,t∈x.2.2↔xU hb sts kn x.1 x.2.1 t
 len:∀x∈rows,x.2.2.length<=300
 nd:(rows.map F5).Nodup
 par:∀x∈rows,x.2.1=[]\/∃(j:Nat)(y:Rw),j<a/\rows[j]?=some y/\y.1=x.1/\∃g,x.2.1=y.2.1++[g]
section
variable{hb:Int}{sts:List bG}{kn:Kn}{l5:List bG}{rows:List Rw}{a:Nat}
def JI.next(J:JI hb sts kn l5 rows a):JI hb sts kn l5 rows (a+1):=⟨J.CN,J.Ml,J.LN,J.len,J.nd,λx hx=>(J.par x hx).imp id λ⟨j,y,h,z⟩=>⟨j,y,by lia,z⟩⟩
def JI.Jb(J:JI hb sts kn l5 rows a):rows.length<=hb.toNat+l5.length:=by
 have:=cL (U:=((List.range hb.toNat).map λc=>(((c:Nat):Int),([]:List Int)))++l5) J.nd λs hs=>by
  obtain⟨x,hx,rfl⟩:=j3.mp hs;rcases J.Ml x hx with h|h
  .refine lP _ (j3.mpr ⟨x.1.toNat,N8.mpr ?_,?_⟩)
   .have:=J.CN x hx;lia
   .have:=J.CN x hx;unfold F5;rw[h,Int.toNat_of_nonneg this.1]
  .exact p6 _ h
 simpa using this
def JI.idx(J:JI hb sts kn l5 rows a){i j:Nat}{x y:Rw}(hi:rows[i]?=some x)(hj:rows[j]?=some y)(e:F5 x=F5 y):i=j:=by have hil:=(bE.mp hi).1;exact(List.getElem?_inj (by simpa using hil) J.nd).mp (by rw[ol,ol,hi,hj,Qs,Qs,e])
def JI.none(J:JI hb sts kn l5 rows a){x:Rw}(hx:rows[a]?=some x){z:Rw}(hz:z∈rows)(e1:z.1=x.1){g:Int}(e2:z.2.1=x.2.1++[g]):False:=by
 rcases J.par z hz with h|⟨j,y,hj,hy,e3,g',e4⟩
 .rw[h]at e2;simp at e2
 .have:y.2.1=x.2.1:=by rw[e2]at e4;exact(List.append_inj_left' e4 rfl).symm
  have:=J.idx hy hx (by unfold F5;rw[this,e3,e1]);lia
def JI.grow(J:JI hb sts kn l5 rows (a+1)){x:Rw}(hx:rows[a]?=some x){g:Int}{here:List Int}(hn:∀z∈rows,z.1=x.1->z.2.1≠x.2.1++[g])(hb5:(x.1,x.2.1++[g])∈l5)(hr:∀t,t∈here↔xU hb sts kn x.1 (x.2.1++[g]) t)(hl:here.length<=300) :
 JI hb sts kn l5 (rows++[(x.1,x.2.1++[g],here)]) (a+1):=by
 have hxm:x∈rows:=OD hx;have all:∀{p:Rw->Prop},(∀z∈rows,p z)->p (x.1,x.2.1++[g],here)->∀z∈rows++[(x.1,x.2.1++[g],here)],p z:=λh1 h2 z hz=>(gZ.mp hz).elim (h1 z) λh=>by rw[lQ.mp h];exact h2
 have keep:∀{j:Nat}{y:Rw},rows[j]?=some y->(rows++[(x.1,x.2.1++[g],here)])[j]?=some y:=λ{j y} h=>by rw[gY (bE.mp h).1];exact h
 refine⟨all J.CN (J.CN x hxm),all J.Ml (.inr hb5),all J.LN hr,all J.len hl,?_,all (λz hz=>?_) (.inr ⟨a,x,by lia,keep hx,rfl,g,rfl⟩)⟩
 .rw[N4,Pu];refine⟨J.nd,by simp,λs hs t ht e=>?_⟩;simp at ht;subst ht;obtain⟨z,hz,rfl⟩:=j3.mp hs;unfold F5 at e;exact hn z hz (Prod.mk.inj e).1 (Prod.mk.inj e).2
 .rcases J.par z hz with h|⟨j,y,h1,h2,h3⟩
  .exact .inl h
  .exact .inr ⟨j,y,h1,keep h2,h3⟩
end
def E2(es:List Int)(x:Int):(es.map D.int).any (λe=>fF e (.int x))=decide (x∈es):=by
 rw[Ra];induction es with
 |nil=>rfl
 |cons a r ih=>rw[Px,ih];show(decide (a=x) || decide (x∈r))=_;simp only[j5,Bool.decide_or,eq_comm (a:=x)]
def E3(es:List Int)(x:Int):vU false (.int x) (.lst (es.map .int))=.ok (.val (.bl (decide (x∈es))) true []):=by rw[Ls (by have:=kP es;lia) (by simp[D.dep]),E2];rfl
structure JM(hb sg:Int) (sts:List bG) (tp:List bO) (kn:Kn) (ts:List bO) (es:List Int) (l4 l5:List bG):Prop where
 T:TI hb sg sts (tp,kn)
 rm:∀s∈sts,s.1<hb
 lo:∀s∈sts,s.2.length<900
 tm:∀t,t∈ts↔t∈tp++oO kn
 em:∀x,x∈es↔x=hb\/(x,[])∈sts
 tl:ts.length<=300
 m4:∀x,x∈l4↔x∈sts
 m5:∀x,x∈l5↔x∈sts.flatMap iq
 n5:l5.length<=50000
section
variable{hb sg n:Int}{sts:List bG}{tp:List bO}{kn:Kn}{ts:List bO}{es:List Int}{l4 l5:List bG}{rows:List Rw}{a:Nat}{ks:List Int}{e7 e8 e15 e16:Option Sl}
def JM.short(Z:JM hb sg sts tp kn ts es l4 l5){r:Int}{p:List Int}(h:p=[]\/(r,p)∈l5):p.length<900:=by
 rcases h with rfl|h
 .decide
 .obtain⟨_,w,hw⟩:=pre_char.mp ((Z.m5 _).mp h);have:=Z.lo _ hw;simp only[KE]at this;lia
theorem JM.thr(Z:JM hb sg sts tp kn ts es l4 l5){r:Int}(hr:r<hb){p here:List Int}(h:∀t,t∈here↔xU hb sts kn r p t)(g t:Int):t∈thr ts g here↔xU hb sts kn r (p++[g]) t:=by
 rw[thr_mem,<- Cf Z.T Z.rm hr];constructor
 .rintro⟨s,h1,h2⟩;exact⟨s,(h s).mp h1,(Z.tm _).mp h2⟩
 .rintro⟨s,h1,h2⟩;exact⟨s,(h s).mpr h1,(Z.tm _).mpr h2⟩
def JM.not(Z:JM hb sg sts tp kn ts es l4 l5){r:Int}(hr:r<hb){p here:List Int}(h:∀t,t∈here↔xU hb sts kn r p t){g:Int}(hn:(r,p++[g])∉l5):W.thr ts g here=[]:=by
 cases e:W.thr ts g here with
 |nil=>rfl
 |cons t l=>
  exfalso;have ht:t∈W.thr ts g here:=by rw[e];simp
  obtain⟨w,hw⟩:=EV (by simp) ((Z.thr hr h g t).mp ht);exact hn ((Z.m5 _).mpr (pre_char.mpr ⟨by simp,w,hw⟩))
def Cu(Z:JM hb sg sts tp kn ts es l4 l5){x:Rw}(hr:x.1<hb)(h:∀t,t∈x.2.2↔xU hb sts kn x.1 x.2.1 t)(hl:x.2.2.length<=300)(hp:x.2.1.length<900){ro:Int} :
 vB (v2 yQ (j9 vG (ak (dW 1 [0] (ah 14) (gN 0) (λ_=>.ok true) bv) ay)) (t7 4 (cV (ak (ah 6) (ak (ah 13) ay))))) (jB (Mc n ts es) ro sg sts l4 l5 (vv (.int x.1) true) e7 e8 ts ks rows a (vv (.tup (x.2.1.map .int)) true) (vv (.lst (x.2.2.map .int)) true) e15 e16)=.ok false:=by
 obtain⟨r,p,here⟩:=x;simp only[]at hr h hl hp ⊢;generalize hE:jB (Mc n ts es) ro sg sts l4 l5 (vv (.int r) true) e7 e8 ts ks rows a (vv (.tup (p.map .int)) true) (vv (.lst (here.map .int)) true) e15 e16=env;have hv:ah 14 env=.ok (.val (.lst (here.map .int)) true []):=by rw[<- hE];unfold jB;simp_arith
 have hc:=uf (n:=1) (caps:=[0]) (asg:=gN 0) (ft:=λ_=>.ok true) (fe:=bv) hv;have h2:=dt (mk:=λd=>gN 0 d true (dS env 1 [0])) (test:=λ_=>.ok true) (elt:=bv) D.int (λc=>.val (.bl (decide (c∈es))) true []) here λc _=>⟨_,rfl,rfl,by rw[<- hE];show bv [some (.val (.int c) true),some (.val (Mc n ts es) false)]=_;have hin:=E3 es c;unfold Mc;simp_arith[bv,hin]⟩;have h3:dW 1 [0] (ah 14) (gN 0) (λ_=>.ok true) bv env=.ok (.new (here.map λc=>.bl (decide (c∈es))) true):=by rw[hc,fq,kN,hv,bj,ij,bj,iF (by rw[cM];lia) h2,pS (λc:Int=>D.bl (decide (c∈es))),vO (cG _ _ λ_=>rfl)]
 have hk:cV (ak (ah 6) (ak (ah 13) ay)) env=.ok (.val (Co (r,p)) true []):=by rw[<- hE];unfold jB Co;simp_arith[bg]
 have hi:=LG (i:=4) (env:=env) (l:=l4) (by rw[<- hE];rfl) hk;have ey:here.any (λc=>decide (c∈es))=decide ((r,p)∈l4):=by
  rw[Pb,PN,Rb,Z.m4,<- EU Z.T Z.rm hr];constructor
  .rintro⟨c,h1,h2⟩;exact⟨c,(h c).mp h1,(Z.em c).mp (P5 h2)⟩
  .rintro⟨c,h1,h2⟩;exact⟨c,(h c).mpr h1,db ((Z.em c).mpr h2)⟩
 have hy:=BQ (λc=>decide (c∈es)) here;rw[ey]at hy;have ne:∀x:Bool,yQ (.val (.bl x) true []) (.val (.bl x) true [])=.ok (.val (.bl false) true []):=λx=>by rw[Bv (by rw[aL,vT];lia) (by rw[aL,vT];lia),aL,eR];rfl
 simp_arith[h3,hi,hy,ne]
def IY(Z:JM hb sg sts tp kn ts es l4 l5)(hb0:0<=hb)(hb1:hb<=1000)(hs0:0<=sg)(hs1:sg<=1000)(J:JI hb sts kn l5 rows a){x:Rw}(hx:rows[a]?=some x){e6 e13 e14:Option Sl}{ro:Int} :
 ∃rows' e15' e16',dC (jB (Mc n ts es) ro sg sts l4 l5 e6 e7 e8 ts ks rows a e13 e14 e15 e16)=.ok (.nx (jB (Mc n ts es) ro sg sts l4 l5 (vv (.int x.1) true) e7 e8 ts ks rows' ((a+1:Nat):Int) (vv (.tup (x.2.1.map .int)) true) (vv (.lst (x.2.2.map .int)) true) e15' e16'))/\JI hb sts kn l5 rows' (a+1):=by
 have hxm:x∈rows:=OD hx;have hr:=(J.CN x hxm).2;have hp:=Z.short (J.Ml x hxm);have hch:=Cu (n:=n) (ks:=ks) (rows:=rows) (a:=a+1) (e7:=e7) (e8:=e8) (e15:=e15) (e16:=e16) (ro:=ro) Z hr (J.LN x hxm) (J.len x hxm) hp;obtain⟨aB,q1,rows',e15',e16',q2,q3,q4,q5⟩:=E1 (asg:=gN 15) (fr:=true) (body:=dA) (λk env=>∃rows' e15 e16,env=jB (Mc n ts es) ro sg sts l4 l5 (vv (.int x.1) true) e7 e8 ts ks rows' ((a+1:Nat):Int) (vv (.tup (x.2.1.map .int)) true) (vv (.lst (x.2.2.map .int)) true) e15 e16/\JI hb sts kn l5 rows' (a+1)/\rows'[a]?=some x/\∀z∈rows',z.1=x.1->∀g:Int,z.2.1=x.2.1++[g]->g<((k:Nat):Int)) sg.toNat 0 _ ⟨rows,e15,e16,rfl,J.next,hx,λz hz e1 g e2=>(J.none hx hz e1 e2).elim⟩ (λk env hk hp'=>by
  obtain⟨rows',e15,e16,rfl,J',hx',fr⟩:=hp';have Jb:=J'.Jb;have n5:=Z.n5;refine⟨_,_,rfl,IX (x:=x) (g:=(k:Nat)) Z.tl (J.len x hxm) (by lia) (by lia) (Z.not hr (J.LN x hxm)),?_⟩;by_cases hin:(x.1,x.2.1++[((k:Nat):Int)])∈l5
  .rw[ck hin];refine⟨_,_,_,rfl,J'.grow hx' (λz hz e1 e2=>?_) hin (Z.thr hr (J.LN x hxm) _) (lN (xW _ _ _) Z.tl),?_,λz hz e1 g e2=>?_⟩
   .have:=fr z hz e1 _ e2;lia
   .rw[gY (bE.mp hx').1];exact hx'
   .rcases gZ.mp hz with h|h
    .have:=fr z h e1 g e2;lia
    .rw[lQ.mp h]at e2;have e2:x.2.1++[((k:Nat):Int)]=x.2.1++[g]:=e2;have:=(List.append_inj_right' e2 rfl);simp at this;lia
  .rw[cO hin];exact⟨_,_,_,rfl,J',hx',λz hz e1 g e2=>by have:=fr z hz e1 g e2;lia⟩)
 refine⟨rows',e15',e16',?_,q3⟩;have ha:fJ (rows.map uy) ((a:Nat):Int)=some (uy x):=by obtain⟨z,h1,h2⟩:=B6 (xs:=rows) (k:=((a:Nat):Int)) (by lia) (by have:=(bE.mp hx).1;lia);rw[xM,h1];simp at h2;rw[hx]at h2;cases h2;rfl
 have hf:=Ct x;have hg:(cC ts).flat=false:=rfl;have hB:(bD ks).flat=false:=rfl;have s1:DL (cB 11 (ah 12)) (gT 3 (aF (gN 6) (aF (gN 13) (aF (gN 14) dG)))) (jB (Mc n ts es) ro sg sts l4 l5 e6 e7 e8 ts ks rows a e13 e14 e15 e16)=.ok (.nx (jB (Mc n ts es) ro sg sts l4 l5 (vv (.int x.1) true) e7 e8 ts ks rows a (vv (.tup (x.2.1.map .int)) true) (vv (.lst (x.2.2.map .int)) true) e15 e16)):=by unfold jB;simp_arith[ha,hf];rfl
 have s2:zf 12 (vC (.int 1)) (jB (Mc n ts es) ro sg sts l4 l5 (vv (.int x.1) true) e7 e8 ts ks rows a (vv (.tup (x.2.1.map .int)) true) (vv (.lst (x.2.2.map .int)) true) e15 e16)=.ok (.nx (jB (Mc n ts es) ro sg sts l4 l5 (vv (.int x.1) true) e7 e8 ts ks rows ((a+1:Nat):Int) (vv (.tup (x.2.1.map .int)) true) (vv (.lst (x.2.2.map .int)) true) e15 e16)):=by unfold jB;simp_arith;rfl
 have m1:(-4611686018427387904:Int)<=sg:=by lia
 have m2:sg<4611686018427387904:=by lia
 have hn:eV 0 sg.toNat=(List.range' 0 sg.toNat).map λj=>D.int (j:Nat):=by rw[jQ,QX]
 rw[<- hn,q2]at q1;unfold dC;rw[fO,s1,bj,jL,fO,s2,bj,jL,fO,HM,hch,bj,FK,FL,bj,jL];unfold jB at q1;unfold jB;simp_arith[ud,m1,m2,q1]
end
section
variable{hb sg n:Int}{sts:List bG}{tp:List bO}{kn:Kn}{ts:List bO}{es:List Int}{l4 l5:List bG}{ks:List Int}{e7 e8:Option Sl}{ro:Int}
theorem Cv(Z:JM hb sg sts tp kn ts es l4 l5)(hb0:0<=hb)(hb1:hb<=1000)(hs0:0<=sg)(hs1:sg<=1000):∀(m:Nat)(rows:List Rw)(a:Nat)(e6 e13 e14 e15 e16:Option Sl)(fuel:Nat),JI hb sts kn l5 rows a->hb.toNat+l5.length-a<=m->m+1<=fuel->
 ∃aB,cq (vB (v2 wW (ah 12) (j9 cX (ak (ah 11) ay)))) dC fuel (jB (Mc n ts es) ro sg sts l4 l5 e6 e7 e8 ts ks rows a e13 e14 e15 e16)=.ok (.nx aB)
 |m,rows,a,e6,e13,e14,e15,e16,fuel,J,hm,hf=>by
  obtain⟨fuel,rfl⟩ : ∃k,fuel=k+1:=⟨fuel-1,by lia⟩;have Jb:=J.Jb;have hc:vB (v2 wW (ah 12) (j9 cX (ak (ah 11) ay))) (jB (Mc n ts es) ro sg sts l4 l5 e6 e7 e8 ts ks rows a e13 e14 e15 e16)=.ok (decide (((a:Nat):Int)<((rows.map uy).length:Nat))):=by unfold jB;simp_arith
  rw[cM]at hc;unfold cq;rw[hc,bj];by_cases hlt:a<rows.length
  .rw[db (show((a:Nat):Int)<((rows.length:Nat):Int) by lia),ck rfl];obtain⟨rows',e15',e16',h1,J'⟩:=IY (n:=n) (ks:=ks) (e7:=e7) (e8:=e8) (e15:=e15) (e16:=e16) (e6:=e6) (e13:=e13) (e14:=e14) (ro:=ro) Z hb0 hb1 hs0 hs1 J (Ol hlt);rw[h1,bj];cases m with
   |zero=>lia
   |succ m=>exact Cv Z hb0 hb1 hs0 hs1 m rows' (a+1) _ _ _ _ _ fuel J' (by lia) (by lia)
  .rw[iA (show ¬((a:Nat):Int)<((rows.length:Nat):Int) by lia),cO (by simp)];exact⟨_,rfl⟩
noncomputable def gL(c:Nat):Rw:=((c:Int),[],[(c:Int)])
def IZ:JI hb sts kn l5 ((List.range hb.toNat).map gL) 0:=by
 have key:∀x∈(List.range hb.toNat).map gL,∃c:Nat,c<hb.toNat/\x=gL c:=λx hx=>by obtain⟨c,hc,e⟩:=j3.mp hx;exact⟨c,N8.mp hc,e.symm⟩
 refine⟨λx hx=>?_,λx hx=>?_,λx hx t=>?_,λx hx=>?_,?_,λx hx=>?_⟩
 .obtain⟨c,hc,rfl⟩:=key x hx;unfold gL;simp only[];lia
 .obtain⟨c,hc,rfl⟩:=key x hx;exact .inl rfl
 .obtain⟨c,hc,rfl⟩:=key x hx;unfold gL xU;simp
 .obtain⟨c,hc,rfl⟩:=key x hx;unfold gL;simp
 .rw[v9];show List.Nodup _;rw[List.nodup_iff_pairwise_ne];rw[Oc];exact(PH).imp λ{a b} h e=>h (by unfold F5 gL at e;have:=N7 Prod.fst e;have this:((a:Nat):Int)=((b:Nat):Int):=this;lia)
 .obtain⟨c,hc,rfl⟩:=key x hx;exact .inl rfl
def E4(h0:0<=ro)(h1:ro<=1000)(hs0:0<=sg)(hs1:sg<=1000)(T:TI ro sg sts (tp,kn))(hrm:∀s∈sts,s.1<ro)(hlo:∀s∈sts,s.2.length<900)(hsl:sts.length<=50)(htm:∀t,t∈ts↔t∈tp++oO kn)(hem:∀x,x∈es↔x=ro\/(x,[])∈sts)(htl:ts.length<=300)(hel:es.length<=300) :
 fT [Mc n ts es,.int ro,.int sg,.lst (sts.map aA)]=.ok (.val (.bl true) true []):=by
 have hU:(sts.flatMap iq).length<=45000:=by
  have key:∀l:List bG,(∀s∈l,s.2.length<900)->(l.flatMap iq).length<=900*l.length:=λl=>by
   induction l with
   |nil=>intro _;simp
   |cons s r ih=>
    intro h;have:=ih λx hx=>h x (by simp[hx]);have:=h s (by simp);rw[List.flatMap_cons,KE,lO];have e:(iq s).length=s.2.length:=by unfold iq;simp
    lia
  have:=key sts hlo;lia
 obtain⟨l4,l5,e6,e7,e8,f1,m4,m5,n5⟩:=Cs (M:=Mc n ts es) (ro:=ro) (sg:=sg) (sts:=sts) (by lia) (by lia) (λs hs=>by have:=hlo s hs;lia);have Z:JM ro sg sts tp kn ts es l4 l5:=⟨T,hrm,hlo,htm,hem,htl,m4,m5,by lia⟩;obtain⟨ks,hlv⟩:=EW (n:=n) htl hel;have hou:=EQ (n:=n) (ts:=ts) (es:=es) (by lia);obtain⟨aB,hw⟩:=Cv (n:=n) (ks:=ks) (e7:=e7) (e8:=e8) (ro:=ro) Z h0 h1 hs0 hs1 99999 ((List.range ro.toNat).map gL) 0 e6 none none none none 100000 IZ (by lia) (by lia);have fM:=rH n ts es;have fG:(cC ts).flat=false:=rfl;have fB:(bD ks).flat=false:=rfl;have s9:ie 9 (cn dM (ak (ah 0) ay)) (jA (Mc n ts es) ro sg sts l4 l5 e6 e7 e8)=.ok (.nx [vv (Mc n ts es) false,vv (.int ro) false,vv (.int sg) false,vv (.lst (sts.map aA)) false,some (.fD (l4.map ky)),some (.fD (l5.map ky)),e6,e7,e8,vv (cC ts) true,none,none,none,none,none,none,none]):=by unfold jA;simp_arith[hou,fM,fG]
 have s10:ie 10 (cn dO (ak (ah 0) ay)) [vv (Mc n ts es) false,vv (.int ro) false,vv (.int sg) false,vv (.lst (sts.map aA)) false,some (.fD (l4.map ky)),some (.fD (l5.map ky)),e6,e7,e8,vv (cC ts) true,none,none,none,none,none,none,none]=.ok (.nx [vv (Mc n ts es) false,vv (.int ro) false,vv (.int sg) false,vv (.lst (sts.map aA)) false,some (.fD (l4.map ky)),some (.fD (l5.map ky)),e6,e7,e8,vv (cC ts) true,vv (bD ks) true,none,none,none,none,none,none]):=by simp_arith[hlv,fM,fB]
 have m1:(-4611686018427387904:Int)<=ro:=by lia
 have m2:ro<4611686018427387904:=by lia
 have s11:b_ 11 (d8 1 [] (CJ (ak (ah 1) ay)) (gN 0) (λ_=>.ok true) cv) [vv (Mc n ts es) false,vv (.int ro) false,vv (.int sg) false,vv (.lst (sts.map aA)) false,some (.fD (l4.map ky)),some (.fD (l5.map ky)),e6,e7,e8,vv (cC ts) true,vv (bD ks) true,none,none,none,none,none,none]=.ok (.nx [vv (Mc n ts es) false,vv (.int ro) false,vv (.int sg) false,vv (.lst (sts.map aA)) false,some (.fD (l4.map ky)),some (.fD (l5.map ky)),e6,e7,e8,vv (cC ts) true,vv (bD ks) true,some (.own (((List.range ro.toNat).map gL).map uy) true),none,none,none,none,none]):=by
  generalize hE:([vv (Mc n ts es) false,vv (.int ro) false,vv (.int sg) false,vv (.lst (sts.map aA)) false,some (.fD (l4.map ky)),some (.fD (l5.map ky)),e6,e7,e8,vv (cC ts) true,vv (bD ks) true,none,none,none,none,none,none]:En)=env;have h2:=dt (mk:=λd=>gN 0 d true (dS env 1 [])) (test:=λ_=>.ok true) (elt:=cv) (λk:Nat=>D.int (k:Nat)) (λc=>.val (uy (gL c)) true []) (List.range ro.toNat) λc _=>⟨[some (.val (.int c) true)],by rw[<- hE];rfl,rfl,by unfold uy gL;simp_arith[cv]⟩;have h3:=iF (n:=1) (caps:=[]) (asg:=gN 0) (env:=env) (al:=[]) (by rw[cM,List.length_range];lia) h2;have hm:gP (((List.range ro.toNat).map λc=>R.val (uy (gL c)) true []).map R.d) (aR ((List.range ro.toNat).map λc=>R.val (uy (gL c)) true [])) ([]++([]:List Nat).filter (bW env))=.new (((List.range ro.toNat).map gL).map uy) true:=by
   have h4:aR ((List.range ro.toNat).map λc=>R.val (uy (gL c)) true [])=true:=by unfold aR;rw[QR,Om];intro _ _;rfl
   rw[h4,pS (λc=>uy (gL c)),v9];unfold gP;split<;>rfl
  rw[hm]at h3;have h5:d8 1 [] (CJ (ak (ah 1) ay)) (gN 0) (λ_=>.ok true) cv env=.ok (.new (((List.range ro.toNat).map gL).map uy) true):=by
   have hs:CJ (ak (ah 1) ay) env=.ok ⟨(List.range ro.toNat).map λk=>D.int (k:Nat),true,[]⟩:=by rw[<- jQ,<- hE];simp_arith[ud,m1,m2]
   rw[fq,hs,bj,h3]
  rw[FM,h5,<- hE];rfl
 have s12:b_ 12 (vC (.int 0)) [vv (Mc n ts es) false,vv (.int ro) false,vv (.int sg) false,vv (.lst (sts.map aA)) false,some (.fD (l4.map ky)),some (.fD (l5.map ky)),e6,e7,e8,vv (cC ts) true,vv (bD ks) true,some (.own (((List.range ro.toNat).map gL).map uy) true),none,none,none,none,none]=.ok (.nx (jB (Mc n ts es) ro sg sts l4 l5 e6 e7 e8 ts ks ((List.range ro.toNat).map gL) ((0:Nat):Int) none none none none)):=by unfold jB;simp_arith
 have s4:pO 4 (h9 bH [Mc n ts es,.int ro,.int sg,.lst (sts.map aA)])=.ok (.nx [vv (Mc n ts es) false,vv (.int ro) false,vv (.int sg) false,vv (.lst (sts.map aA)) false,some (.fD []),none,none,none,none,none,none,none,none,none,none,none,none]):=rfl;have s5:pO 5 [vv (Mc n ts es) false,vv (.int ro) false,vv (.int sg) false,vv (.lst (sts.map aA)) false,some (.fD []),none,none,none,none,none,none,none,none,none,none,none,none]=.ok (.nx (jA (Mc n ts es) ro sg sts [] [] none none none)):=rfl;unfold fT iQ lJ;rw[fO,s4,bj,jL,fO,s5,bj,jL,fO,f1,bj,jL,fO,s9,bj,jL,fO,s10,bj,jL,fO,s11,bj,jL,fO,s12,bj,jL,fO,hw,bj,jL];rfl
end
structure CL(ro sg:Int) (k:Nat) (s:bG):Prop where
 r0:0<=s.1
 r1:s.1<ro
 l:s.2.length<=k
 g:∀x∈s.2,0<=x/\x<sg
section
variable{ro sg:Int}
def E5{e1 e3 e4:Option Sl}(h2:1<=sg)(h3:sg<=40)(m:Nat)(hm:m<=10)(c:Int) :
 ∃(w:List Int)(c':Int)(e6:Option Sl),w.length=m/\(∀x∈w,0<=x/\x<sg)/\de (gN 6) true bX (eV 0 m) [vv (.int c) true,e1,vv (.int sg) false,e3,e4,some (.own [] true),none]=.ok (.nx [vv (.int c') true,e1,vv (.int sg) false,e3,e4,some (.own (w.map .int) true),e6]):=by
 obtain⟨aB,q1,w,c',e6,a1,a2,q2⟩:=E1 (asg:=gN 6) (fr:=true) (body:=bX) (λk env=>∃(w:List Int)(c':Int)(e6:Option Sl),w.length=k/\(∀x∈w,0<=x/\x<sg)/\env=[vv (.int c') true,e1,vv (.int sg) false,e3,e4,some (.own (w.map .int) true),e6]) m 0 _ ⟨[],c,none,rfl,(λx hx=>by cases hx),rfl⟩ (λk env hk hp=>by
  obtain⟨w,c',e6,a1,a2,rfl⟩:=hp;refine⟨_,[vv (.int (c'/sg)) true,e1,vv (.int sg) false,e3,e4,some (.own ((w++[c'%sg]).map .int) true),vv (.int (k:Nat)) true],rfl,?_,w++[c'%sg],c'/sg,_,by rw[KE,a1];rfl,λx hx=>?_,rfl⟩
  .rw[N4];have b1:0<sg:=by lia
   have b2:sg<1073741824:=by lia
   have hap:(w.map D.int).length<1000000:=by rw[cM];lia
   unfold bX;simp_arith[vS hap,b1,b2]
  .rcases gZ.mp hx with z|z
   .exact a2 x z
   .obtain rfl:x=c'%sg:=by simpa using z
    exact⟨P1 _ (by lia),Pi _ (by lia)⟩)
 refine⟨w,c',e6,by rw[a1];lia,a2,?_⟩;rw[jQ,QX];exact q1.trans (by rw[q2])
def uz(h0:1<=ro)(h1:ro<=8)(h2:1<=sg)(h3:sg<=40)(c:Int):∃s,CL ro sg 4 s/\bM [.int c,.int ro,.int sg]=.ok (.val (aA s) true [5]):=by
 have b1:0<ro:=by lia
 have b2:ro<1073741824:=by lia
 generalize hc1:(c%2147483629+5)*69621%2147483629=c1;have r0:=P1 c1 (show ro≠0 by lia);have r1:=Pi c1 b1;have m0:=P1 (c1/ro) (show(5:Int)≠0 by lia);have m5:=Pi (c1/ro) (show(0:Int)<5 by lia);obtain⟨w,c',e6,a1,a2,q⟩:=E5 (e1:=vv (.int ro) false) (e3:=vv (.int (c1%ro)) true) (e4:=vv (.int (c1/ro%5)) true) h2 h3 (c1/ro%5).toNat (by lia) (c1/ro/5);refine⟨(c1%ro,w),⟨r0,r1,by simp only[];lia,a2⟩,?_⟩;have m1:(-4611686018427387904:Int)<=c1/ro%5:=by lia
 have m2:c1/ro%5<4611686018427387904:=by lia
 unfold aA;simp_arith[bM,gU,b1,b2,hc1,ud,m1,m2,q]
def I0{e0 e1:Option Sl}(h2:1<=sg)(h3:sg<=40)(m:Nat)(hm:m<=100)(c:Int) :
 ∃(w:List Int)(c':Int)(e5:Option Sl),w.length=m/\(∀x∈w,0<=x/\x<sg)/\de (gN 5) true dv (eV 0 m) [e0,e1,vv (.int sg) false,vv (.int c) true,some (.own [] true),none]=.ok (.nx [e0,e1,vv (.int sg) false,vv (.int c') true,some (.own (w.map .int) true),e5]):=by
 obtain⟨aB,q1,w,c',e5,a1,a2,q2⟩:=E1 (asg:=gN 5) (fr:=true) (body:=dv) (λk env=>∃(w:List Int)(c':Int)(e5:Option Sl),w.length=k/\(∀x∈w,0<=x/\x<sg)/\env=[e0,e1,vv (.int sg) false,vv (.int c') true,some (.own (w.map .int) true),e5]) m 0 _ ⟨[],c,none,rfl,(λx hx=>by cases hx),rfl⟩ (λk env hk hp=>by
  obtain⟨w,c',e5,a1,a2,rfl⟩:=hp;generalize hd:(c'*48271+(k:Int)*(k:Int)+11)%2147483647=d;refine⟨_,[e0,e1,vv (.int sg) false,vv (.int d) true,some (.own ((w++[d/7%sg]).map .int) true),vv (.int (k:Nat)) true],rfl,?_,w++[d/7%sg],d,_,by rw[KE,a1];rfl,λx hx=>?_,rfl⟩
  .rw[N4];have b1:0<sg:=by lia
   have b2:sg<1073741824:=by lia
   have hap:(w.map D.int).length<1000000:=by rw[cM];lia
   have k1:(-18446744073709551616:Int)<((k:Nat):Int):=by lia
   have k2:((k:Nat):Int)<18446744073709551616:=by lia
   unfold dv;simp_arith[vS hap,b1,b2,k1,k2,hd]
  .rcases gZ.mp hx with z|z
   .exact a2 x z
   .obtain rfl:x=d/7%sg:=by simpa using z
    exact⟨P1 _ (by lia),Pi _ (by lia)⟩)
 refine⟨w,c',e5,by rw[a1];lia,a2,?_⟩;rw[jQ,QX];exact q1.trans (by rw[q2])
def E6(h0:1<=ro)(h1:ro<=8)(h2:1<=sg)(h3:sg<=40)(c:Int):∃s,CL ro sg 100 s/\fP [.int c,.int ro,.int sg]=.ok (.val (aA s) true [4]):=by
 have b1:0<ro:=by lia
 have b2:ro<1073741824:=by lia
 have m0:=P1 c (show(40:Int)≠0 by lia);have m5:=Pi c (show(0:Int)<40 by lia);obtain⟨w,c',e5,a1,a2,q⟩:=I0 (e0:=vv (.int c) false) (e1:=vv (.int ro) false) h2 h3 (60+c%40).toNat (by lia) (c%2147483647);refine⟨(c'%ro,w),⟨P1 _ (by lia),Pi _ b1,by simp only[];lia,a2⟩,?_⟩;have m1:(-4611686018427387904:Int)<=60+c%40:=by lia
 have m2:60+c%40<4611686018427387904:=by lia
 unfold aA;simp_arith[fP,lD,b1,b2,ud,m1,m2,q]
end
def rS(ns:List Int)(sz r g:Int)(e4 e5 e6 e7:Option Sl):En:=[vv (.lst (ns.map .int)) false,vv (.int sz) true,vv (.int r) true,vv (.int g) true,e4,e5,e6,e7]
def E7{ro sg:Int}{sts:List bG}{tp:List bO}{kn:Kn}(h0:1<=ro)(hs:∀s∈sts,CL ro sg 100 s)(T:TI ro sg sts (tp,kn))(hl:sts.length<=25)(lk:kn.length<=240) :
 Good (ro+1+((kn.length:Nat):Int)) ro sg (bJ (tp++oO kn)) (di (kW ro sts)):=by
 have K:KI ro sg kn:=T.k;have lt:tp.length<=sts.length:=T.l1;have lA:(oO kn).length=kn.length:=by unfold oO;rw[cM]
 have lE:(kW ro sts).length<=sts.length+1:=by unfold kW;have:=QP og sts;simp;lia
 have a1:=B_ (tp++oO kn);have a2:=pX (kW ro sts);rw[KE]at a1;refine⟨by lia,λt ht=>?_,λe he=>?_,zB _,vX _ (jJ _),by lia,by lia⟩
 .rcases gZ.mp ((ur _ _).mp ht)with h|h
  .obtain⟨w,h1,h2⟩:=T.to t h;have S:=hs _ h1;have g1:=S.g t.2.1 (by simp);have r0:=S.r0;have r1:=S.r1;simp only[]at r0 r1 h2;have h2:mf ro kn t.2.2 w:=h2;have p:=h2.ge K;lia
  .unfold oO at h;obtain⟨x,hx,rfl⟩:=j3.mp h;have v:=K.val hx;have s:=K.sn x hx;have o:=K.lo x hx;simp only[];lia
 .rcases end_mem.mp ((gm _ _).mp he)with rfl|h
  .lia
  .have S:=hs _ h;have r0:=S.r0;have r1:=S.r1;simp only[]at r0 r1;lia
def Cw(s:bG):(aA s).dep<=5:=by unfold aA;have:=kP s.2;simp only[D.dep,D.fA];lia
section
variable{ns:List Int}{sz ro sg:Int}{e5:Option Sl}{sts:List bG}
def LH(h0:1<=ro)(h1:ro<=8)(h2:1<=sg)(h3:sg<=40)(hs:∀s∈sts,CL ro sg 100 s)(hl:sts.length<=25)(hm:(sts.map (·.2.length)).sum<=200){e4 e6:Option Sl}
 (q4:e4=vv (.lst (sts.map aA)) true\/e4=some (.own (sts.map aA) true)) (q6:e6=vv (.lst (sts.map aA)) true\/e6=some (.own (sts.map aA) true)) :
 pE (rj (rS ns sz ro sg e4 e5 e6 none))=.ok (.val (.bl true) true []):=by
 have T0:=ET (hb:=ro) (sg:=sg) sts λs h=>(hs s h).g;have hL:=v7 (ro:=ro) (sg:=sg) (sts:=sts) (by lia) (λs h=>by have:=(hs s h).l;lia) (by have:=T0.l1;lia) (by have:=T0.l2;lia);cases htp:fm ro sts with
 |mk tp kn=>
  rw[htp]at T0 hL;simp only[]at hL;have T:TI ro sg sts (tp,kn):=T0;have lk:kn.length<=240:=by have:=T.l2;simp only[]at this;lia
  have G:=E7 h0 hs T hl lk;have hM:=vZ G;have hJ:=E4 (ro:=ro) (sg:=sg) (n:=ro+1+((kn.length:Nat):Int)) (sts:=sts) (tp:=tp) (kn:=kn) (ts:=bJ (tp++oO kn)) (es:=di (kW ro sts)) (by lia) (by lia) (by lia) (by lia) T (λs h=>(hs s h).r1) (λs h=>by have:=(hs s h).l;lia) (by lia) (ur _) (λx=>by rw[gm];exact end_mem) G.l1 (by have:=G.l2;lia);generalize hMM:Mc (ro+1+((kn.length:Nat):Int)) (bJ (tp++oO kn)) (di (kW ro sts))=MM at *;have fM:MM.flat=false:=by rw[<- hMM];exact rH _ _ _
  have hdep:D.dep (.lst (sts.map aA))<=50:=by have:=n_ (xs:=sts) Cw;simp only[D.dep];lia
  have ne:∀f f' al al',yQ (.val (.lst (sts.map aA)) f al) (.val (.lst (sts.map aA)) f' al')=.ok (.val (.bl false) true []):=λf f' al al'=>by rw[Bv (by rw[aL];exact hdep) (by rw[aL];exact hdep),aL,aL,eR];rfl
  rcases q4 with rfl|rfl<;>rcases q6 with rfl|rfl
  all_goals
   unfold rS;simp_arith[rj,um,ul,hL,hM,hJ,fM,ne]
def zD{env:En}{fr:Bool}{al:List Nat}(hl:sts.length<=1000):n6 2 [] (gT 2 (aF (gN 0) (aF (gN 1) dG))) (λ_=>.ok true) mE env ⟨sts.map aA,true,al⟩=.ok (gP (sts.map aA) true (al++([]:List Nat).filter (bW env))):=by have h:=dt (mk:=λd=>gT 2 (aF (gN 0) (aF (gN 1) dG)) d true (dS env 2 [])) (test:=λ_=>.ok true) (elt:=mE) aA (λs=>.val (aA s) true []) sts λs _=>⟨[some (.val (.int s.1) true),some (.val (.lst (s.2.map .int)) true)],rfl,rfl,by unfold aA;simp_arith[mE,xL,rh,Ei,bg]⟩;rw[iF (by rw[cM];lia) h,pS,B5]
def x8(al:List Nat):(sts=[]/\gP (sts.map aA) true al=.new [] true)\/gP (sts.map aA) true al=(if al.isEmpty then .new (sts.map aA) true else .val (.lst (sts.map aA)) true al):=by
 cases sts with
 |nil=>exact .inl ⟨rfl,rfl⟩
 |cons s r=>right;unfold gP;rw[cO (by rw[fV,cD,oe];simp)]
def F6(h0:1<=ro)(h1:ro<=8)(h2:1<=sg)(h3:sg<=40)(hs:∀s∈sts,CL ro sg 100 s)(hl:sts.length<=25)(hm:(sts.map (·.2.length)).sum<=200){e4:Option Sl}
 (q4:e4=vv (.lst (sts.map aA)) true\/e4=some (.own (sts.map aA) true)) :
 pE (jX (rS ns sz ro sg e4 e5 none none))=.ok (.val (.bl true) true []):=by
 have hc:=λenv al=>zD (sts:=sts) (env:=env) (fr:=true) (al:=al) (by lia);have L9:=λe4 e6 q4 q6=>LH (ns:=ns) (sz:=sz) (e5:=e5) (e4:=e4) (e6:=e6) h0 h1 h2 h3 hs hl hm q4 q6;have hh:=x8 (sts:=sts);rcases q4 with rfl|rfl
 .have hk:=hc (rS ns sz ro sg (vv (.lst (sts.map aA)) true) e5 none none) [];rw[show gP (sts.map aA) true ([]++([]:List Nat).filter (bW (rS ns sz ro sg (vv (.lst (sts.map aA)) true) e5 none none)))=.new (sts.map aA) true from by rcases hh []with⟨rfl,h⟩|h<;>exact h]at hk;have L:=L9 (vv (.lst (sts.map aA)) true) (some (.own (sts.map aA) true)) (.inl rfl) (.inr rfl);unfold rS at hk L ⊢;simp_arith[-fq,jX,fq,hk];exact L
 .have hk:=hc (rS ns sz ro sg (some (.own (sts.map aA) true)) e5 none none) [4];rcases hh ([4]++([]:List Nat).filter (bW (rS ns sz ro sg (some (.own (sts.map aA) true)) e5 none none)))with⟨e,h⟩|h
  .rw[h]at hk;subst e;have L:=L9 (some (.own (([]:List bG).map aA) true)) (some (.own (([]:List bG).map aA) true)) (.inr rfl) (.inr rfl);unfold rS at hk L ⊢;simp only[Q8]at hk L ⊢;simp_arith[-fq,jX,fq,hk];exact L
  .rw[h,cO (by simp)]at hk;have L:=L9 (vv (.lst (sts.map aA)) true) (vv (.lst (sts.map aA)) true) (.inl rfl) (.inl rfl);unfold rS at hk L ⊢;simp_arith[-fq,jX,fq,hk];exact L
def LI(ns:List Int):(e_ ns (some 2) (some 26)).length<=24:=by
 unfold e_;rw[N5,Pc];have:HT.sIx ns.length 0 (some 2)=min 2 ns.length:=by simp[HT.sIx]
 have h2:HT.sIx ns.length ns.length (some 26)=min 26 ns.length:=by simp[HT.sIx]
 rw[this,h2];lia
theorem Cy{k:Nat}:∀l:List bG,(∀s∈l,s.2.length<=k)->(l.map (·.2.length)).sum<=k*l.length
 |[],_=>by simp
 |s::r,h=>by have:=Cy r λx hx=>h x (by simp[hx]);have:=h s (by simp);rw[fV,List.sum_cons,lO,Nat.mul_succ];lia
def CL.more{k k':Nat}{s:bG}(S:CL ro sg k s)(h:k<=k'):CL ro sg k' s:=⟨S.r0,S.r1,lN S.l h,S.g⟩
def LJ(h0:1<=ro)(h1:ro<=8)(h2:1<=sg)(h3:sg<=40)(hs:∀s∈sts,CL ro sg 4 s)(hl:sts.length<=24){c:Int} :
 pE (mF (rS ns sz ro sg (some (.own (sts.map aA) true)) (vv (.int c) true) none none))=.ok (.val (.bl true) true []):=by
 have sm:=Cy sts λs h=>(hs s h).l;obtain⟨s,S,hL⟩:=E6 h0 h1 h2 h3 (c/6);have L1:=F6 (ns:=ns) (sz:=sz) (e5:=vv (.int c) true) (e4:=some (.own (sts.map aA) true)) h0 h1 h2 h3 (λs h=>(hs s h).more (by lia)) (by lia) (by lia) (.inr rfl);have L2:=F6 (ns:=ns) (sz:=sz) (sts:=s::sts) (e5:=vv (.int c) true) (e4:=vv (.lst ((s::sts).map aA)) true) h0 h1 h2 h3 (λx h=>(j5.mp h).elim (λe=>e▸S) λh=>(hs x h).more (by lia)) (by rw[lO];lia) (by rw[fV,List.sum_cons];have:=S.l;lia) (.inl rfl);have fs:=oe s;have ff:D.ba ((s::sts).map aA)=false:=by rw[fV,cD,fs];rfl
 have fv:D.ba [aA s]=false:=by rw[cD,fs];rfl
 have a1:[aA s].length+(sts.map aA).length<=1000000:=by simp;lia
 by_cases h:c%6=1
 .have hb:(c%6==1)=true:=by rw[h];rfl
  unfold rS at L2 ⊢;simp_arith[mF,zn,h,hb,hL,fs,fv,vP a1];exact L2
 .have hb:(c%6==1)=false:=by simp[h]
  unfold rS at L1 ⊢;simp_arith[mF,zn,h,hb];exact L1
def F7(h0:1<=ro)(h1:ro<=8)(h2:1<=sg)(h3:sg<=40):pE (rn (rS ns sz ro sg none none none none))=.ok (.val (.bl true) true []):=by
 obtain⟨f,hf⟩ : ∃f:Int->bG,∀c,CL ro sg 4 (f c)/\bM [.int c,.int ro,.int sg]=.ok (.val (aA (f c)) true [5]):=⟨λc=>Classical.choose (uz h0 h1 h2 h3 c),λc=>QQ (uz h0 h1 h2 h3 c)⟩;have hl:=LI ns;have hk:∀fr,n6 1 [2,3] (gN 0) (λ_=>.ok true) jW (rS ns sz ro sg none none none none) ⟨(e_ ns (some 2) (some 26)).map .int,fr,[]⟩=.ok (.new (((e_ ns (some 2) (some 26)).map f).map aA) true):=λfr=>by
  have h:=dt (mk:=λd=>gN 0 d fr (dS (rS ns sz ro sg none none none none) 1 [2,3])) (test:=λ_=>.ok true) (elt:=jW) D.int (λc=>.iS (aA (f c))) (e_ ns (some 2) (some 26)) λc _=>⟨_,rfl,rfl,by show jW [some (.val (.int c) fr),some (.val (.int ro) true),some (.val (.int sg) true)]=_;have fs:=oe (f c);simp_arith[jW,(hf c).2,fs]⟩;have h4:aR ((e_ ns (some 2) (some 26)).map λc=>R.iS (aA (f c)))=true:=by unfold aR;rw[QR,Om];intro _ _;rfl
  have h5:((e_ ns (some 2) (some 26)).map λc=>R.iS (aA (f c))).map R.d=((e_ ns (some 2) (some 26)).map f).map aA:=by rw[v9,v9];rfl
  rw[iF (by rw[cM];lia) h,h4,h5];show Res.ok (gP _ true [])=_;rcases x8 (sts:=(e_ ns (some 2) (some 26)).map f) []with⟨e,h⟩|h
  .rw[h,e];rfl
  .rw[h];rfl
 have L:=LJ (ns:=ns) (sz:=sz) (sts:=(e_ ns (some 2) (some 26)).map f) (c:=cell ns 1) h0 h1 h2 h3 (λs hs=>by obtain⟨c,_,rfl⟩:=j3.mp hs;exact(hf c).1) (by rw[cM];exact hl);unfold rS at hk L ⊢;simp_arith[rn,xO,ug,hk,LF,bg];exact L
end
def I_(ns:List Int)(hl:ns.length<=63):pV [.lst (ns.map .int)]=.ok (.val (.bl true) true []):=by
 have c0:=EL ns 0;have b1:=F7 (ns:=ns) (sz:=cell ns 0) (ro:=1+cell ns 0%3) (sg:=1+cell ns 0/3%4) (by lia) (by lia) (by lia) (by lia);have b2:=F7 (ns:=ns) (sz:=cell ns 0) (ro:=1+cell ns 0/48%8) (sg:=1+cell ns 0/384%40) (by lia) (by lia) (by lia) (by lia);unfold rS at b1 b2;by_cases h:cell ns 0/12%4=1
 .have hb:(cell ns 0/12%4==1)=true:=by rw[h];rfl
  simp_arith[pV,B7,rA,rq,rp,F0,zn,h,hb];exact b2
 .have hb:(cell ns 0/12%4==1)=false:=by simp[h]
  simp_arith[pV,B7,rA,rq,rp,F0,zn,h,hb];exact b1
end W
open PySem PySem.W PyProof.Rows
set_option maxRecDepth 100000 in
set_option maxHeartbeats 0 in
theorem PySem.Challenge.cw_callwalk_k12_listing_holds : PySem.Challenge.rw_callwalk_k12_listing.Holds := by
 w_on;refine PySem.W.Ea ?_
 k_fill
 refine L2.AG (l:=PySem.Challenge.rw_callwalk_k12_listing) (n:=63) (k:=3) (x:="_law_script") (CX:=fun w=>L2.oz) (sp:=fun _=>L3.Mh W.pV) rfl (by decide) rfl ⟨rfl,by decide,by decide⟩ (fun w h Y=>PySem.W.kIn_of Y) ?kL ?F ?S ?C
 case kL=>exact fun w=>⟨by rfl,by rfl⟩
 case F=>
  intro w mg fa h KX G hmg
  refine' Exists.imp (fun _ z=>⟨z.1,fun base _ _=>z.2 base⟩) (W.IK hmg ?_)
  refine' Exists.imp (fun _ _=>True.intro) (W.LD KX G L2.yK ?a_a ?l_a ?c_a ?a_b ?l_b ?c_b ?a_c ?l_c ?c_c ?a_d ?l_d ?c_d ?a_e ?l_e ?c_e ?a_f ?l_f ?c_f ?a_g ?l_g ?c_g ?a_h ?l_h ?c_h ?a_i ?l_i ?c_i ?a_j ?l_j ?c_j ?a_k ?l_k ?c_k ?a_l ?l_l ?c_l ?a_m ?l_m ?c_m ?z_all ?z_any ?z_bool ?z_int ?z_isinstance ?z_len ?z_list ?z_range ?z_reversed ?z_set ?z_sorted ?z_tuple)
  (case a_a=>k_is)
  (case l_a=>k_is)
  (case c_a=>k_is)
  (case a_b=>k_is)
  (case l_b=>k_is)
  (case c_b=>k_is)
  (case a_c=>k_is)
  (case l_c=>k_is)
  (case c_c=>k_is)
  (case a_d=>k_is)
  (case l_d=>k_is)
  (case c_d=>k_is)
  (case a_e=>k_is)
  (case l_e=>k_is)
  (case c_e=>k_is)
  (case a_f=>k_is)
  (case l_f=>k_is)
  (case c_f=>k_is)
  (case a_g=>k_is)
  (case l_g=>k_is)
  (case c_g=>k_is)
  (case a_h=>k_is)
  (case l_h=>k_is)
  (case c_h=>k_is)
  (case a_i=>k_is)
  (case l_i=>k_is)
  (case c_i=>k_is)
  (case a_j=>k_is)
  (case l_j=>k_is)
  (case c_j=>k_is)
  (case a_k=>k_is)
  (case l_k=>k_is)
  (case c_k=>k_is)
  (case a_l=>k_is)
  (case l_l=>k_is)
  (case c_l=>k_is)
  (case a_m=>k_is)
  (case l_m=>k_is)
  (case c_m=>k_is)
  (case z_all=>k_is)
  (case z_any=>k_is)
  (case z_bool=>k_is)
  (case z_int=>k_is)
  (case z_isinstance=>k_is)
  (case z_len=>k_is)
  (case z_list=>k_is)
  (case z_range=>k_is)
  (case z_reversed=>k_is)
  (case z_set=>k_is)
  (case z_sorted=>k_is)
  (case z_tuple=>k_is)
 case S=>exact fun w H a ns hl hS=>L3.Hm (fun ns hn=>⟨_,_,W.I_ ns hn⟩) H a ns hl hS
 case C=>exact fun _ _ _ _ _ z=>z
