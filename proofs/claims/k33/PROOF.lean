import PyProof.Rows.All
import Wide.All
import OpenK.AllK
import PySem.Challenge.RW_callwalk_k33_whole_runs_stay_inside
section
open PySem PySem.W PyProof.Rows
def PySem.W.Vw:Program:={PySem.Challenge.pw_callwalk_k33_whole_runs_stay_inside with main:={PySem.Challenge.pw_callwalk_k33_whole_runs_stay_inside.main with body:=PySem.Challenge.pw_callwalk_k33_whole_runs_stay_inside.main.body.filter fun s=>match s with|.FunctionDef ..=>true|.ClassDef ..=>true|_=>false}}
local macro_rules | `(tactic| o_head $H) => `(tactic| refine holds_open (q := PySem.W.Vw) (loose := []) (Xt := fun s => xlAt PySem.W.Vw [] s && recOk (RowW.records PySem.Challenge.rw_callwalk_k33_whole_runs_stay_inside.row.toRowW) s) (XP := XL PySem.W.Vw []) (Yf := Hook.obs $H) (Ya := Hook.val $H) (YP := Hook.says $H) (N := 3000) (fun w => by kernel_rfl) (Hook.of $H) (Hook.keeps $H) (fun s e => xl_of s (Bool.and_eq_true_iff.mp e).1) XL.keeps (by rfl) (by rfl) (by rfl) (fun s e => recFacts_of (Bool.and_eq_true_iff.mp e).2) (by rfl) (by first | assumption | decide +kernel) (by decide +kernel) ⟨rfl, rfl, rfl, rfl, rfl, by decide +kernel⟩ ?_ ?_)
set_option Elab.async false
set_option maxRecDepth 100000
set_option maxHeartbeats 0
def PySem.W.Ea:=fun hc=>(by
 w_on;o_law;k_head;(· w_witness2)
 exact hc:PySem.Challenge.rw_callwalk_k33_whole_runs_stay_inside.Holds)
end
set_option autoImplicit true
set_option Elab.async false
set_option linter.all false
set_option genSizeOf false
set_option genSizeOfSpec false
set_option compiler.extract_closed false
set_option maxRecDepth 100000
set_option maxHeartbeats 4000000
set_option bootstrap.genMatcherCode false
noncomputable section
open PySem.W(instObj lookIn plainGet hasDictIn findIn isFn emptyDict keepIn fnOf codeIn kas_ask nsIn)
abbrev KE:=@PySem.wpAny_bind
abbrev Os:=@PySem.wpAny_pure
abbrev Ot:=@PySem.Heap.get?_push_of_some
abbrev Ou:=@Nat.le_refl
abbrev Ov:=@List.length_map
abbrev Ow:=@if_pos
abbrev Ox:=@if_neg
abbrev Oy:=@PySem.Heap.get?_push_size
abbrev Oz:=@List.size_toArray
abbrev OA:=@PySem.Heap.lt_size
abbrev OB:=@List.mem_map
abbrev OC:=@List.length_append
abbrev OD:=@Bool.false_eq_true
abbrev OE:=@List.mem_cons
abbrev OF:=@List.mem_append
abbrev OG:=@List.getElem?_eq_some_iff
abbrev OH:=@List.map_cons
abbrev OI:=@List.getElem?_map
abbrev OJ:=@Nat.ne_of_lt
abbrev OL:=@List.getElem?_eq_getElem
abbrev OM:=@List.mem_singleton
abbrev ON:=@List.mem_append_right
abbrev OO:=@List.mem_iff_getElem?
abbrev OP:=@List.map_map
abbrev OQ:=@List.pairwise_iff_getElem
abbrev OR:=@Nat.zero_le
abbrev OS:=@Bool.false_ne_true
abbrev OT:=@decide_eq_true
abbrev OU:=@Array.getElem?_toList
abbrev OV:=@List.length_cons
abbrev OW:=@List.mem_cons_of_mem
abbrev OX:=@List.mem_append_left
abbrev OY:=@Option.map_eq_some_iff
abbrev OZ:=@List.mem_cons_self
abbrev O0:=@List.map_congr_left
abbrev O3:=@Nat.le_trans
abbrev O4:=@PySem.F.slot_dict_setdefault
abbrev O5:=@List.mem_range
abbrev O6:=@Nat.lt_of_lt_of_le
abbrev O7:=@PySem.PassesOwn.never
abbrev O8:=@List.map_append
abbrev O9:=@PySem.Heap.SameBut.update
abbrev O_:=@PySem.wpAny_call_entry
abbrev Pa:=@Bool.and_eq_true
abbrev Pb:=@List.take_length
abbrev Pc:=@PySem.F.plainAttrs_dict
abbrev Pd:=@PySem.wpAny_holding
abbrev Pe:=@PySem.wpAny_newObj_type
abbrev Pf:=@List.getElem?_set_self
abbrev Pg:=@PySem.sizeLine_eq
abbrev Ph:=@PySem.F.type_dict_setdefault
abbrev Pi:=@List.pairwise_map
abbrev Pj:=@List.take_add_one
abbrev Pk:=@if_false
abbrev Pl:=@List.getElem?_set_ne
abbrev Pn:=@List.mem_of_getElem?
abbrev Po:=@decide_eq_false
abbrev Pp:=@Nat.lt_of_le_of_lt
abbrev Pq:=@List.pairwise_cons
abbrev Ps:=@PySem.W.mg_none_of
abbrev Pt:=@Array.length_toList
abbrev Pu:=@PyProof.Rows.slot_tuple_getitem
abbrev Pw:=@Int.emod_lt_of_pos
abbrev Px:=@List.getElem?_eq_none
abbrev Py:=@List.getElem?_append_right
abbrev PB:=@PySem.wpAny_callSpecial?_slot
abbrev PC:=@Option.some.inj
abbrev PF:=@List.not_mem_nil
abbrev PH:=@PySem.F.slot_dict_itemiterator_next
abbrev PJ:=@PySem.wpAny_setState_of
abbrev PK:=@Bool.not_true
abbrev PL:=@Bool.eq_iff_iff
abbrev PM:=@PySem.W.kia_one
abbrev PN:=@PySem.codeAny_builtin
abbrev PP:=@PySem.Heap.get?_update_self
abbrev PQ:=@List.length_take
abbrev PR:=@List.all_eq_true
abbrev PU:=@List.nodup_append
abbrev PV:=@Ne.symm
abbrev PX:=@PySem.Around.under_plainId
abbrev PY:=@PyProof.Rows.F.plain_set_update_loop
abbrev PZ:=@Int.emod_nonneg
abbrev P6:=@List.length_singleton
abbrev P7:=@of_decide_eq_true
abbrev P8:=@PySem.F.plainAttrs_list
abbrev P9:=@List.mem_of_mem_take
abbrev P_:=@Nat.le_of_lt
abbrev Qa:=@List.mem_flatMap
abbrev Qb:=@Array.getElem?_eq_some_iff
abbrev Qc:=@PySem.wpAny_mono
abbrev Qd:=@PySem.mem_of_lookup
abbrev Qe:=@List.any_cons
abbrev Qf:=@List.nodup_nil
abbrev Qg:=@List.drop_eq_getElem_cons
abbrev Qh:=@Classical.byContradiction
abbrev Qi:=@List.getElem?_append_left
abbrev Qj:=@List.append_nil
abbrev Qk:=@PySem.wpAny_notOrdered_dict
abbrev Ql:=@List.take_append_drop
abbrev Qm:=@PySem.wpAny_typeNameOfWhole_itemiter
abbrev Qn:=@congrArg
abbrev Qo:=@PySem.tupleKind_room_in1
abbrev Qp:=@PySem.F.slot_tuple_hash
abbrev Qq:=@Nat.add_sub_cancel_left
abbrev Qr:=@PySem.wpAny_pyIter_list
abbrev Qs:=@List.append_assoc
abbrev Qu:=@PySem.wpAny_dictEntries
abbrev Qw:=@decide_eq_true_eq
abbrev Qx:=@PySem.Heap.get?_update_other
abbrev Qy:=@if_true
abbrev Qz:=@Nat.ne_of_gt
abbrev QA:=@PySem.wpAny_typeOf
abbrev QB:=@Classical.choose_spec
abbrev QC:=@PySem.wpAny_typeNameOf_itemiter
abbrev QD:=@PySem.wpAny_passesOwn
abbrev QE:=@List.nodup_cons
abbrev QF:=@Option.isSome_iff_exists
abbrev QG:=@Int.toNat_natCast
abbrev QH:=@PySem.wpAny_specialOf
abbrev QI:=@List.length_nil
abbrev QJ:=@List.Pairwise.imp_of_mem
abbrev QK:=@List.ext_getElem?
abbrev QL:=@PySem.F.slot_list_append
abbrev QM:=@PySem.F.type_list_append
abbrev QN:=@PySem.Paired.length
abbrev QO:=@beq_eq_false_iff_ne
abbrev QP:=@PySem.plainId_quiet
abbrev QQ:=@PySem.wpAny_forIn_list
abbrev QR:=@PySem.wpAny_isInstance
abbrev QS:=@List.lookup_cons
abbrev QT:=@PySem.wpAny_typeNameOfWhole_keyiter
abbrev QU:=@PySem.Calls.callWith_builtin
abbrev QV:=@Array.forIn_toList
abbrev QW:=@PySem.wpAny_setField_rec
abbrev QX:=@List.mem_filter
abbrev QY:=@List.find?_cons
abbrev QZ:=@Nat.not_lt_zero
abbrev Q0:=@PySem.wpAny_truthy_bool
abbrev Q1:=@Option.isSome_map
abbrev Q2:=@PySem.wpAny_pyIter_slot
abbrev Q3:=@List.foldl_append
abbrev Q4:=@PySem.Obj.data_mapDictKeys
abbrev Q5:=@List.mem_iff_getElem
abbrev Q6:=@Bool.false_and
abbrev Q7:=@PySem.Heap.size_push
abbrev Q8:=@PySem.wpAny_seqItems
abbrev Q9:=@List.getElem?_zip_eq_some
abbrev Q_:=@PyProof.Rows.F.entry_set_update_loop
abbrev Ra:=@PySem.wpAny_setField
abbrev Rb:=@PySem.Calls.call_function_entry
abbrev Re:=@List.getLast?_eq_some_iff
abbrev Rf:=@Nat.lt_succ_self
abbrev Rg:=@List.length_drop
abbrev Rh:=@Nat.le_add_right
abbrev Ri:=@List.any_eq_true
abbrev Rj:=@List.nodup_range
abbrev Rk:=@List.filterMap_cons
abbrev Rm:=@PySem.Heap.SameBut.extBut
abbrev Rn:=@PySem.wpAny_rule
abbrev Ro:=@PySem.wpAny_typeNameOf_keyiter
abbrev Rp:=@Nat.lt_irrefl
abbrev Rr:=@List.mem_filterMap
abbrev Rt:=@PySem.wpAny_Call_Name_kw
abbrev Ru:=@Nat.lt_or_gt_of_ne
abbrev Rv:=@PySem.W.KasT.kasWp_bind
abbrev Rw:=@List.length_eq_zero_iff
abbrev Rx:=@PySem.Obj.data_mapFields
abbrev Ry:=@PySem.wpAny_dictEpoch
abbrev Rz:=@Nat.add_assoc
abbrev RB:=@List.length_set
abbrev RC:=@List.getElem?_replicate
abbrev RD:=@List.foldl_cons
abbrev RE:=@List.take_of_length_le
abbrev RF:=@PySem.wpAny_isOneOf_itemiter
abbrev RG:=@Option.map_eq_none_iff
abbrev RH:=@List.length_eq_one_iff
abbrev RI:=@PySem.wpAny_field
abbrev RJ:=@Nat.lt_trichotomy
abbrev RK:=@PySem.wpAny_storeSet_of
abbrev RN:=@Nat.lt_succ_of_lt
abbrev RO:=@bne_self_eq_false
abbrev RP:=@Bool.and_false
abbrev RQ:=@or_false
abbrev RR:=@Nat.mul_le_mul
abbrev RT:=@PySem.codeAny_mono
abbrev RU:=@List.length_replicate
abbrev RV:=@List.map_nil
abbrev RW:=@PySem.F.slot_dict_get
abbrev RX:=@PySem.F.args_dict_setdefault_3
abbrev RY:=@PySem.Obj.isFreed_of_fields
abbrev RZ:=@List.set_getElem_self
abbrev R0:=@PySem.F.entry_dict_setdefault
abbrev R3:=@List.getElem_mem
abbrev R4:=@List.eq_nil_of_length_eq_zero
abbrev R5:=@List.mem_of_mem_drop
abbrev R6:=@List.pairwise_append
abbrev R7:=@List.range_eq_range'
abbrev R8:=@Bool.and_self
abbrev R9:=@PySem.wpAny_attempt
abbrev R_:=@PySem.wpAny_newList
abbrev Sa:=@PySem.wpAny_execs_nil
abbrev Sb:=@PySem.W.plainGet_of
abbrev Se:=@PySem.SeqAt.EqAt.same
abbrev Sf:=@Sum.inl.inj
abbrev Sg:=@Int.toNat_of_nonneg
abbrev Sh:=@PySem.W.callWith_K
abbrev Si:=@Nat.lt_trans
abbrev Sj:=@PySem.call_meetsIn
abbrev Sk:=@PySem.wpAny_fieldsOf
abbrev Sm:=@PySem.boot_len
abbrev Sn:=@beq_iff_eq
abbrev Sq:=@PySem.W.kitx_dict
abbrev Sr:=@Nat.le_of_lt_succ
abbrev Ss:=@Option.some.injEq
abbrev Su:=@Option.getD_none
abbrev Sv:=@List.filter_cons
abbrev Sw:=@List.cons_append
abbrev Sx:=@Nat.not_lt
abbrev Sy:=@Prod.ext
abbrev Sz:=PySem.Shared
abbrev SB:=PySem.W.Frag
abbrev SC:=PySem.Program
abbrev SD:=PySem.Value
abbrev SE:=PySem.Around
def SK(h : True := by rfl) : True := h
def SN:Lean.Syntax:=SK._auto_1
def SF(h : True := by decide) : True := h
def ab:Lean.Syntax:=SF._auto_1
def SI(h : ∀u : Unit, u = u := by intro _; rfl) : True := True.intro
def SM:Lean.Syntax:=SI._auto_1
def SG(h : True := by first|exact .inl rfl|exact .inr rfl|assumption) : True := h
def SL:Lean.Syntax:=SG._auto_1
def SH(h : True := by first|exact Or.inl rfl|exact Or.inr (Or.inl rfl)|exact Or.inr (Or.inr rfl)) : True := h
def SJ(h : True := by intro _ _; rfl) : True := h

namespace L2
open PySem PySem.Spec PyProof.Rows
noncomputable abbrev aG:=Sum Int Str
noncomputable def gf:aG->SD->Bool
 |.inl k,v=>Value.isInt k v
 |.inr x,v=>Value.isStrOf x v
noncomputable def IA(w:World):aG->Int
 |.inl k=>hashInt k
 |.inr x=>hashStr w x
def aK:∀{k:aG}{v:SD},gf k v=true->(∃i t,k=Sum.inl i/\v=Value.int i t)\/(∃x t,k=Sum.inr x/\v=Value.str x t)
 |.inl i,v,h=>by obtain⟨t,e⟩:=Value.isInt_shape (k:=i) (v:=v) h;exact .inl ⟨i,t,rfl,e⟩
 |.inr x,v,h=>by obtain⟨t,e⟩:=Value.isStrOf_shape (x:=x) (v:=v) h;exact .inr ⟨x,t,rfl,e⟩
def nP(i:Int)(t:Tok):gf (.inl i) (.int i t)=true:=by simp[gf,Value.isInt]
def wF(x:Str)(t:Tok):gf (.inr x) (.str x t)=true:=by simp[gf,Value.isStrOf]
def E2(a b:Int):decide ((Sum.inl a:aG)=Sum.inl b)=(a==b):=by grind
def E3(a b:Str):decide ((Sum.inr a:aG)=Sum.inr b)=decide (a=b):=by grind
def E4(a:Int)(b:Str):decide ((Sum.inl a:aG)=Sum.inr b)=false:=Po (λq=>nomatch q)
def E5(a:Str)(b:Int):decide ((Sum.inr a:aG)=Sum.inl b)=false:=Po (λq=>nomatch q)
def aj(prog:SC)(w:World):PySem.KeyKind prog w aG where
 is:=gf
 hash:=IA w
 inj:=λv a b ha hb=>by
  rcases aK ha with⟨i,t,rfl,rfl⟩|⟨x,t,rfl,rfl⟩
  .rcases aK hb with⟨j,u,rfl,e⟩|⟨y,u,rfl,e⟩
   .injection e with e1 _;rw[e1]
   .exact nomatch e
  .rcases aK hb with⟨j,u,rfl,e⟩|⟨y,u,rfl,e⟩
   .exact nomatch e
   .injection e with e1 _;rw[e1]
 byValue:=λk v h=>by rcases aK h with⟨i,t,rfl,rfl⟩|⟨x,t,rfl,rfl⟩<;>rfl
 pyHash:=λhv h=>by
  rcases aK hv with⟨i,t,rfl,rfl⟩|⟨x,t,rfl,rfl⟩
  .exact wpAny_pyHash_int h
  .exact wpAny_pyHash_str h
 eqBool:=λhu hv h=>by
  rcases aK hu with⟨i,t,rfl,rfl⟩|⟨x,t,rfl,rfl⟩
  .rcases aK hv with⟨j,u,rfl,rfl⟩|⟨y,u,rfl,rfl⟩
   .rw[E2]at h;exact wpAny_eqBool_int h
   .rw[E4]at h;exact SeqAt.EqAt.int_str i t y u _ _ _ _ h
  .rcases aK hv with⟨j,u,rfl,rfl⟩|⟨y,u,rfl,rfl⟩
   .rw[E5]at h;exact SeqAt.EqAt.str_int x t j u _ _ _ _ h
   .rw[E3]at h;exact wpAny_eqBool_str h
 «strs»:=λk x t v h=>by
  rcases aK h with⟨i,u,rfl,e⟩|⟨y,u,rfl,e⟩
  .exact nomatch e
  .injection e with e1 _;subst e1;cases v<;>rfl
def qK(prog:SC)(w:World)(i:Int)(t:Tok):(aj prog w).is (.inl i) (.int i t)=true:=nP i t
def qL(prog:SC)(w:World)(x:Str)(t:Tok):(aj prog w).is (.inr x) (.str x t)=true:=wF x t
inductive V where
 |ba|bl (b:Bool)|int (i:Int)|str (x:Str)|yw (b:Array UInt8)|HV (b:UInt64)|ref (a:Addr)|ty (n:String)
 deriving DecidableEq
noncomputable def RelV:V->SD->Prop
 |.ba,u=>u=Value.none
 |.bl b,u=>u=Value.bool b
 |.int i,u=>∃t,u=Value.int i t
 |.str x,u=>∃t,u=Value.str x t
 |.yw b,u=>∃t,u=Value.bytes b t
 |.HV b,u=>∃t,u=Value.float b t
 |.ref a,u=>u=Value.ref a
 |.ty n,u=>u=Value.type n
abbrev Vals:List V->List SD->Prop:=Paired RelV
theorem Vals.length(r:Vals xs us):xs.length=us.length:=QN r
theorem Vals.get:∀{xs:List V}{us:List SD}{i:Nat}{x:V},Vals xs us->xs[i]?=some x->∃u,us[i]?=some u/\RelV x u
 |_,_,_,_,.nil,e=>by simp at e
 |_,_,0,_,.cons r _,e=>by simp at e;subst e;exact⟨_,rfl,r⟩
 |_,_,i+1,x,.cons _ t,e=>by obtain⟨u,h1,h2⟩:=Vals.get (i:=i) (x:=x) t (by simpa using e);exact⟨u,by simpa using h1,h2⟩
theorem Vals.append:∀{xs ys:List V}{us ws:List SD},Vals xs us->Vals ys ws->Vals (xs++ys) (us++ws)
 |_,_,_,_,.nil,s=>s
 |_,_,_,_,.cons r t,s=>.cons r (Vals.append t s)
theorem Vals.take:∀{xs:List V}{us:List SD}(n:Nat),Vals xs us->Vals (xs.take n) (us.take n)
 |_,_,0,_=>.nil
 |_,_,_+1,.nil=>.nil
 |_,_,n+1,.cons r t=>.cons r (Vals.take n t)
theorem Vals.drop:∀{xs:List V}{us:List SD}(n:Nat),Vals xs us->Vals (xs.drop n) (us.drop n)
 |_,_,0,r=>r
 |_,_,_+1,.nil=>.nil
 |_,_,n+1,.cons _ t=>Vals.drop n t
def RelO:Option V->Option SD->Prop
 |some v,some u=>RelV v u
 |none,none=>True
 |_,_=>False
def KV{κ:Type}:List (κ×V)->List (κ×SD)->Prop:=Paired λ(p:κ×V)(q:κ×SD)=>p.1=q.1/\RelV p.2 q.2
noncomputable def kV:aG->V
 |.inl i=>.int i
 |.inr x=>.str x
inductive HO where
  
 |lst (xs:List V)
  
 |tup (xs:List V)
  
 |dK (kvs:List (aG×V))|dT (kvs:List (List aG×V))
  
 |set (S:Int->Bool) (n:Nat)
  
 |ins (C dx:Addr) (fs:List (Str×V))
  
 |own (x:Addr)
  
 |xd (fs:List (Str×V))
  
 |met (f x:Addr)
  
 |M_ (lo hi:Int)
  
 |aV (o:Obj) (u:HO)
  
 |tE (ps:Array SD)
  
 |ext (φ:Heap->Prop)
noncomputable abbrev Hp:=Addr->Option HO
noncomputable def upd(H:Hp)(a:Addr)(o:HO):Hp:=λb=>if b=a then some o else H b
def ac:upd H a o a=some o:=by unfold upd;rw[Ow rfl]
theorem ah(h:b≠a):upd H a o b=H b:=by unfold upd;rw[Ox h]
def BE:upd (upd H a o) a u=upd H a u:=by funext b;unfold upd;split<;>rfl
def yy{H:Hp}(h:H a=some o)(h':H b=some u)(d:o≠u):a≠b:=by intro e;subst e;rw[h]at h';exact d (PC h')
def ak{H:Hp}(h:H a=some o)(h':H b=none):a≠b:=by intro e;subst e;rw[h]at h';cases h'
section
variable(P:SC)(w:World)
def ObjOk(H:Hp)(h:Heap)(a:Addr):HO->Prop
 |.lst xs=>xs.length<=sizeLine/\∃(its:List SD)(n:Nat),Vals xs its/\h.get? a=some { cls:=.type "list",data:=.seq its.toArray n }
 |.tup xs=>xs.length<=sizeLine/\∃its:List SD,Vals xs its/\IsTup h a its.toArray
 |.dK kvs=>kvs.length<=sizeLine/\(a==sysModules)=false/\∃vs,KV kvs vs/\h.DictOf (aj P w) a vs
 |.dT kvs=>kvs.length<=sizeLine/\(a==sysModules)=false/\∃xs:List (List aG×Addr×SD),
  Paired (λ(p:List aG×V)(q:List aG×Addr×SD)=>p.1=q.1/\H q.2.1=some (.tup (p.1.map kV))/\RelV p.2 q.2.2) kvs xs/\
  ∃o es ep,h.get? a=some o/\o.ExactDict/\o.data=.dict es ep/\es.toList=xs.map (entryOfKey (tupleKind (aj P w)))/\(xs.map (·.1)).Nodup
 |.set S n=>h.SetOf (intKind P w) a S n
 |.ins C dx fs=>H dx=some (.own a)/\fs.length<=1000/\dx≠a/\h.get? a=some (instObj C dx)/\
  ∃mA,h.Ns1 dx mA/\(∀f,RelO (fs.lookup f) (mA f))/\PySem.Within mA (fs.map (·.1))
 |.own _=>∃o,h.get? a=some o
 |.xd fs=>∃mA,h.Ns1 a mA/\∀f,RelO (fs.lookup f) (mA f)
 |.M_ lo hi=>∃t u v,h.get? a=some { cls:=.type "range",data:=.fields #[.int lo t,.int hi u,.int 1 v] }
 |.aV o u=>h.get? a=some o/\ObjOk H h a u
 |.tE ps=>h.get? a=some {cls:=.none,data:=.fields ps}
 |.met f x=>h.get? a=some (PySem.W.methodObj (.ref f) (.ref x))
 |.ext φ=>φ h/\(∃o,h.get? a=some o)/\∀h1 h2:Heap,φ h1->(∀o,h1.get? a=some o->h2.get? a=some o)->φ h2
def HOk(H:Hp)(h:Heap):Prop:=∀a o,H a=some o->ObjOk P w H h a o
end
section
theorem ObjOk.lt(x:ObjOk P w H h a o):a<h.objs.size:=by
 cases o with
 |lst xs=>obtain⟨_,_,_,_,e⟩:=x;exact OA e
 |tup xs=>obtain⟨_,_,_,p⟩:=x;exact p.lt
 |dK kvs=>obtain⟨_,_,_,_,o,_,_,e,_⟩:=x;exact OA e
 |dT kvs=>obtain⟨_,_,_,_,o,_,_,e,_⟩:=x;exact OA e
 |set S n=>obtain⟨o,_,_,_,e,_⟩:=x;exact OA e
 |ins C dx fs=>obtain⟨_,_,_,e,_⟩:=x;exact OA e
 |own y=>obtain⟨_,e⟩:=x;exact OA e
 |xd fs=>obtain⟨_,⟨_,_,_,e,_⟩,_⟩:=x;exact OA e
 |M_ lo hi=>obtain⟨_,_,_,e⟩:=x;exact OA e
 |aV ob u=>obtain⟨e,_⟩:=x;exact OA e
 |tE ps=>exact OA (show h.get? a=some _ from x)
 |met f y=>exact OA (show h.get? a=some _ from x)
 |ext φ=>obtain⟨_,⟨_,e⟩,_⟩:=x;exact OA e
def Paired.HX{α β:Type}{F G:α->β->Prop}{l₁:List α}{l₂:List β}(h:Paired F l₁ l₂)(f:∀a b,F a b->G a b):Paired G l₁ l₂:=by
 induction h with
 |nil=>exact .nil
 |cons r _ ih=>exact .cons (f _ _ r) ih
def ObjOk.stay(x:ObjOk P w H h a o)(k:∀b u,(b=a\/H b=some (.own a))->h.get? b=some u->h'.get? b=some u)
 (ho:∀b,H b=some (.own a)->H' b=some (.own a)) (ht:∀b xs,H b=some (.tup xs)->H' b=some (.tup xs)):ObjOk P w H' h' a o:=by
 induction o with
 |lst xs=>obtain⟨z,its,n,r,e⟩:=x;exact⟨z,its,n,r,k _ _ (.inl rfl) e⟩
 |tup xs=>obtain⟨z,its,r,ob,e,c⟩:=x;exact⟨z,its,r,ob,k _ _ (.inl rfl) e,c⟩
 |dK kvs=>obtain⟨z,y,vs,r,ob,es,ep,e,c⟩:=x;exact⟨z,y,vs,r,ob,es,ep,k _ _ (.inl rfl) e,c⟩
 |dT kvs=>obtain⟨z,y,xs,r,ob,es,ep,e,c⟩:=x;exact⟨z,y,xs,Paired.HX r λp q z=>⟨z.1,ht _ _ z.2.1,z.2.2⟩,ob,es,ep,k _ _ (.inl rfl) e,c⟩
 |set S n=>obtain⟨ob,es,ep,t,e,c⟩:=x;exact⟨ob,es,ep,t,k _ _ (.inl rfl) e,c⟩
 |ins C dx fs=>obtain⟨d,z,ne,e,mA,⟨od,es,ep,e2,c⟩,r⟩:=x;exact⟨ho _ d,z,ne,k _ _ (.inl rfl) e,mA,⟨od,es,ep,k _ _ (.inr d) e2,c⟩,r⟩
 |own y=>obtain⟨ob,e⟩:=x;exact⟨ob,k _ _ (.inl rfl) e⟩
 |xd fs=>obtain⟨mA,⟨od,es,ep,e,c⟩,r⟩:=x;exact⟨mA,⟨od,es,ep,k _ _ (.inl rfl) e,c⟩,r⟩
 |M_ lo hi=>obtain⟨t,u,v,e⟩:=x;exact⟨t,u,v,k _ _ (.inl rfl) e⟩
 |aV ob u ih=>obtain⟨e,q⟩:=x;exact⟨k _ _ (.inl rfl) e,ih q⟩
 |tE ps=>have e:h.get? a=some {cls:=.none,data:=.fields ps}:=x;show h'.get? a=some {cls:=.none,data:=.fields ps};exact k a _ (.inl rfl) e
 |met f y=>have e:h.get? a=some (PySem.W.methodObj (.ref f) (.ref y)):=x;show h'.get? a=some (PySem.W.methodObj (.ref f) (.ref y));exact k a _ (.inl rfl) e
 |ext φ=>obtain⟨p,⟨o,e⟩,st⟩:=x;exact⟨st _ _ p λo q=>k _ _ (.inl rfl) q,⟨o,k _ _ (.inl rfl) e⟩,st⟩
theorem HOk.lt(x:HOk P w H h)(e:H a=some o):a<h.objs.size:=(x a o e).lt
def HOk.fresh(x:HOk P w H h)(e:h.objs.size<=a):H a=none:=by
 cases q:H a with
 |none=>rfl
 |some u=>exact absurd (O6 (x.lt q) e) (Rp _)
def HOk.kept(x:HOk P w H h)(k:∀b u,h.get? b=some u->h'.get? b=some u):HOk P w H h':=λa o e=>(x a o e).stay (λb u _ q=>k b u q) (λ_ q=>q) λ_ _ q=>q
def HOk.laid(x:HOk P w H h)(k:∀b u,h.get? b=some u->h'.get? b=some u)(hp:h.objs.size<=a)(new:ObjOk P w (upd H a o) h' a o):HOk P w (upd H a o) h':=λb u e=>by
 have hn:=x.fresh hp;by_cases hb:b=a
 .subst hb;rw[ac]at e;cases e;exact new
 .rw[ah hb]at e;exact(x b u e).stay (λc v _ q=>k c v q) (λc q=>by rw[ah (ak q hn)];exact q) λc xs q=>by rw[ah (ak q hn)];exact q
end
def Rd(H:Hp)(a:Addr)(u:HO):Prop:=H a=some u\/∃o,H a=some (.aV o u)
def Rd.ok(r:Rd H a u)(x:HOk P w H h):ObjOk P w H h a u:=by
 rcases r with r|⟨o,r⟩
 .exact x a u r
 .obtain⟨_,q⟩:=x a _ r;exact q
noncomputable def E6:Option HO->Prop
 |some (.lst _)=>True
 |some (.dK _)=>True
 |some (.dT _)=>True
 |some (.set _ _)=>True
 |some (.ins _ _ _)=>True
 |some (.ext _)=>True
 |_=>False
section
def HOk.write(ok:HOk P w H h)(mu:E6 (H x))(he:e=x\/H e=some (.own x))(k:∀b u,b≠e->h.get? b=some u->h'.get? b=some u)(heo:∃u,h'.get? e=some u)
 (new:ObjOk P w (upd H x o') h' x o'):HOk P w (upd H x o') h':=λb u q=>by
 have nown:∀c y,H c=some (.own y)->c≠x:=λc y r z=>by subst z;rw[r]at mu;exact mu
 have ntup:∀c xs,H c=some (.tup xs)->c≠x:=λc xs r z=>by subst z;rw[r]at mu;exact mu
 by_cases hb:b=x
 .subst hb;rw[ac]at q;cases q;exact new
 .rw[ah hb]at q;by_cases hbe:b=e
  .have q':H b=some (.own x):=by
    grind
   rw[q]at q';cases q';obtain⟨v,hv⟩:=heo;exact⟨v,by rw[hbe];exact hv⟩
  .refine(ok b u q).stay (λc v hc r=>k c v ?_ r) (λc r=>by rw[ah (nown c b r)];exact r) λc xs r=>by rw[ah (ntup c xs r)];exact r
   grind
end
def Qt(H:Hp)(b:Addr):Prop:=H b=none\/∃xs,H b=some (.tup xs)
structure Un(fs ex:List Addr) (H H':Hp) (h h':Heap):Prop where
 keep:∀b o,h.get? b=some o->Qt H b->b∉fs->b∉ex->h'.get? b=some o
 slot:∀b o,h.get? b=some o->H b=none->b∈fs->b∉ex->∃sl,h'.get? b=some {o with slots:=sl}
 free:∀b o,h.get? b=some o->H b=none->b∉ex->H' b=none
 there:∀b o,h.get? b=some o->b∉ex->∃o',h'.get? b=some o'
 mZ:∀b xs,H b=some (.tup xs)->H' b=some (.tup xs)
 jY:∀b o u,H b=some (.aV o u)->H' b=some (.aV o u)
 tz:∀b ps,H b=some (.tE ps)->∃more,H' b=some (.tE (ps++more))
section
def Un.any(u:Un fs ex H H1 h h1)(q:h.get? b=some ob)(n:H b=none)(hx:b∉ex):∃sl,h1.get? b=some {ob with slots:=sl}:=by
 by_cases hb:b∈fs
 .exact u.slot b ob q n hb hx
 .exact⟨ob.slots,u.keep b ob q (.inl n) hb hx⟩
def Un.kept(k:∀b u,h.get? b=some u->h'.get? b=some u):Un fs ex H H h h':=⟨λb ob q _ _ _=>k b ob q,λb ob q _ _ _=>⟨ob.slots,k b ob q⟩,λ_ _ _ n _=>n,λb ob q _=>⟨ob,k b ob q⟩,λ_ _ q=>q,λ_ _ _ q=>q,λ_ ps q=>⟨#[],by rw[q];simp⟩⟩
def Un.refl:Un fs ex H H h h:=Un.kept λ_ _ q=>q
def Un.laid(k:∀b u,h.get? b=some u->h'.get? b=some u)(hp:h.objs.size<=a)(hn:H a=none):Un fs ex H (upd H a o) h h' where
 keep:=λb u q _ _ _=>k b u q
 slot:=λb u q _ _ _=>⟨u.slots,k b u q⟩
 free:=λb u q n _=>by rw[ah (OJ (O6 (OA q) hp))];exact n
 there:=λb u q _=>⟨u,k b u q⟩
 mZ:=λb xs q=>by rw[ah (ak q hn)];exact q
 jY:=λb u xs q=>by rw[ah (ak q hn)];exact q
 tz:=λb ps q=>⟨#[],by rw[ah (ak q hn),q];simp⟩
def Un.write(mu:E6 (H x))(he:e=x\/H e=some (.own x))(k:∀b u,b≠e->h.get? b=some u->h'.get? b=some u)(heo:∃u,h'.get? e=some u):Un fs ex H (upd H x o) h h':=by
 have hx:∀b,H b=none->b≠x:=λb n z=>by subst z;rw[n]at mu;exact mu
 have hb:∀b,H b=none->b≠e:=λb n z=>by grind
 have hm:∀b u,H b=some u->¬E6 (some u)->b≠x:=λb u q nm z=>by subst z;rw[q]at mu;exact nm mu
 refine⟨λb u q n _ _=>k b u (n.elim (hb b) λ⟨xs,ee⟩ z=>by rcases he with r|r;(·rw[<- r,<- z,ee]at mu;exact mu);(·rw[<- z,ee]at r;cases r)) q,λb u q n _ _=>⟨u.slots,k b u (hb b n) q⟩,λb u q n _=>by rw[ah (hx b n)];exact n,λb u q _=>?_,
  λb xs q=>by rw[ah (hm b _ q λz=>z)];exact q,λb u xs q=>by rw[ah (hm b _ q λz=>z)];exact q,λb ps q=>⟨#[],by rw[ah (hm b _ q λz=>z),q];simp⟩⟩
 by_cases hbe:b=e
 .subst hbe;exact heo
 .exact⟨u,k b u hbe q⟩
end
noncomputable def K8(h:Heap)(H:Hp):List Addr:=(List.range h.objs.size).filter λa=>(H a).isSome
def qM(h:Heap)(H:Hp):Heap:=PySem.W.hideAll h (K8 h H)
def wG(h:Heap)(H:Hp):(qM h H).objs.size=h.objs.size:=PySem.W.hideAll_size _ _
def qN(e:h.get? b=some o)(n:H b=none):(qM h H).get? b=some o:=PySem.W.hideAll_get _ e λhm=>by have q:(H b).isSome=true:=(QX.mp hm).2;rw[n]at q;simp at q
def BF(e:(qM h H).get? b=some o):h.get? b=some o/\H b=none:=by
 have e':h.get? b=some o:=PySem.W.of_hideAll (K8 h H) e;refine⟨e',?_⟩;cases q:H b with
 |none=>rfl
 |some x=>have hm:b∈K8 h H:=QX.mpr ⟨O5.mpr (OA e'),by simp[q]⟩;have z:(qM h H).get? b=none:=PySem.W.hideAll_none (K8 h H) hm;rw[z]at e;cases e
noncomputable def BG(g h:Heap)(L:Addr):List (Addr×Obj):=(List.range h.objs.size).filterMap λa=>if a=L\/(g.get? a).isSome=true then none else(h.get? a).map λo=>(a,o)
def rest(g h:Heap)(L d:Addr):List (Addr×Obj):=(BG g h L).filter λp=>decide (p.1≠d)
noncomputable def NF:SD->V
 |.str x _=>.str x
 |.ref a=>.ref a
 |_=>.ba
def BH(o:Obj):Option (Addr×List V):=match o.cls with
 |.type n=>if n=="kt" then(match o.data with
  |.seq its _=>(match its.toList with
   |.ref a::r=>some (a,r.map NF)
   |_=>none)
  |_=>none)else none
 |_=>none
def IB(K:SB)(H:Hp):Prop:=∀p∈K,∀a xs,BH p.2=some (a,xs)->H a=some (.tup xs)
structure Mod(K:SB) (mg:Str->Option SD) (base:Heap):Prop where
 K3:K.In base
 glob:base.Ns mainGlobals mg
 blt:∃mb,base.Ns builtinsNs mb/\∀x:Str,x≠"__name__"->mb x=bootBuiltins x
 nolimit:base.NoLimit
structure Cx where
 prog:SC
 w:World
 K:SB
 mg:Str->Option SD
 base:Heap
 A:SE
 N:List Str
 s₀:Sz
 H₀:Hp
 env:Env
 outer:List Env
 stack:List Env
 ex:List Addr
 fn:Str->Bool
 calm:Bool
 pn:List (Addr×Obj)
 xe:SD->Sz->Prop
abbrev wX(X:Cx){α:Type}(m:Sem α):(α->Sz->Prop)->(SD->Sz->Prop)->Sz->Prop:=wpAny (model X.prog X.w) X.A m
abbrev sE(X:Cx)(e:Expr)(es:List Expr):Prop:=starEach (e::es) X.env=(false,eval e X.env)::starEach es X.env
abbrev bT(X:Cx)(p:Pos)(es:List Expr):Prop:=(backTo p (starEach es X.env)).any (·.1)=false
abbrev dB(x:Str):Prop:=(x==("__debug__" : Str))=false
noncomputable def yz(l:List Env):List Addr:=l.filterMap (·.frame)
abbrev Cx.fs(X:Cx):List Addr:=yz X.outer
def K9(sc:Scope)(x:Str):Prop:=sc.names.lookup x=some .local\/sc.names.lookup x=some .cell\/sc.names.lookup x=some .free
def E7(sc:Scope)(x:Str):Prop:=sc.names.lookup x=some .local\/sc.names.lookup x=some .cell
def Lx(env:Env)(h:Heap)(m:Str->Option SD)(x:Str)(u:SD):Prop:=(env.kindOf x=some .local/\m x=some u)\/((env.kindOf x=some .cell\/env.kindOf x=some .free)/\∃c,env.cells.lookup x=some c/\h.IsCell c (some u))
structure Cx.Ok(X:Cx):Prop where
 mod:Mod X.K X.mg X.base
 kind:X.env.scope.kind=.function
 glob:X.env.globals=mainGlobals
 blt:X.env.builtins=builtinsNs
 above:X.s₀.heap.objs.size<=X.env.locals
 inj:∀x y c,X.env.cells.lookup x=some c->X.env.cells.lookup y=some c->x=y
 has:∀x,(X.env.kindOf x=some .cell\/X.env.kindOf x=some .free)->∃c,X.env.cells.lookup x=some c
 Iy:∀x c,X.fn x=true->X.env.cells.lookup x=some c->X.s₀.heap.objs.size<=c
 hd:X.calm=true->X.A.handled=none
 frames:X.A.frames=some X.stack
 K5:X.stack=X.outer\/(X.stack=X.env::X.outer/\X.env.frame=some X.env.locals)
 Nd:∀b∈X.ex,b≠X.env.locals/\∀x c,X.env.cells.lookup x=some c->c≠b
 bs:∀b o,X.base.get? b=some o->X.s₀.heap.get? b=some o/\X.H₀ b=none
 BA:X.base.objs.size<=X.s₀.heap.objs.size
 yo:∀b o,X.base.get? b=some o->b∉X.ex
 Bm:∀b∈X.ex,b∉X.fs
 j5:X.s₀.heap.FunFrames X.base X.outer
 EO:∀b∈X.fs,X.H₀ b=none
 kt:IB X.K X.H₀
structure Inv(X:Cx) (aa:List (Addr×Obj)) (σ:List (Option V)) (H:Hp) (s:Sz):Prop where
 ok:X.Ok
 os:s.os=X.s₀.os
 bare:AllBare s.gens
 base:Un X.fs X.ex X.H₀ H X.s₀.heap s.heap
 loc:∃m,s.heap.Ns X.env.locals m/\∀(i:Nat)(x:Str)(v:V),X.N[i]?=some x->σ[i]?=some (some v)->K9 X.env.scope x->∃u,RelV v u/\Lx X.env s.heap m x u
 cell:∀x c,X.env.cells.lookup x=some c->∃v,s.heap.IsCell c v
 free:H X.env.locals=none
 fK:∀x c,X.env.cells.lookup x=some c->H c=none
 pin:∀p∈X.pn++aa,s.heap.get? p.1=some p.2/\H p.1=none/\p.1≠X.env.locals/\p.1∉X.fs/\∀v,p.2.data≠.cell v
 aF:HOk X.prog X.w H s.heap
 len:σ.length=X.N.length
section
variable{X:Cx}{aa:List (Addr×Obj)}{σ:List (Option V)}{H H':Hp}{s:Sz}
def Cx.Ok.M7(ok:X.Ok)(e:X.base.get? b=some o):b∉X.fs:=λhb=>by have:=(ok.j5.mem hb).1;rw[e]at this;cases this
theorem Inv.bs(I:Inv X aa σ H s):∀b o,X.base.get? b=some o->s.heap.get? b=some o/\H b=none:=λb o e=>⟨I.base.keep b o (I.ok.bs b o e).1 (.inl (I.ok.bs b o e).2) (I.ok.M7 e) (I.ok.yo b o e),I.base.free b o (I.ok.bs b o e).1 (I.ok.bs b o e).2 (I.ok.yo b o e)⟩
theorem Inv.kt(I:Inv X aa σ H s):IB X.K H:=λp hp a xs e=>I.base.mZ a xs (I.ok.kt p hp a xs e)
def Inv.bk(I:Inv X aa σ H s):∀b o,X.base.get? b=some o->s.heap.get? b=some o:=λb o e=>(I.bs b o e).1
theorem Inv.mod(I:Inv X aa σ H s):Mod X.K X.mg X.base:=I.ok.mod
def Inv.kq(I:Inv X aa σ H s):X.K.In s.heap:=I.ok.mod.K3.keeps I.bk
theorem Inv.lt(I:Inv X aa σ H s):X.env.locals<s.heap.objs.size:=let ⟨_,hn,_⟩:=I.loc;hn.lt
def Inv.sz(I:Inv X aa σ H s):X.s₀.heap.objs.size<=s.heap.objs.size:=O3 I.ok.above (P_ I.lt)
def Inv.Nc(I:Inv X aa σ H s)(h:s.heap.objs.size<=a):a∉X.fs:=λhb=>by obtain⟨_,o,ho,_⟩:=I.ok.j5.mem hb;exact absurd (O6 (OA ho) (O3 I.sz h)) (Rp _)
def Inv.HR(I:Inv X aa σ H s):∀x c,X.env.cells.lookup x=some c->c≠X.env.locals:=λx c e z=>by obtain⟨v,o,ho,hd⟩:=I.cell x c e;obtain⟨m,⟨o',es,ep,ho',hd',_⟩,_⟩:=I.loc;rw[z,ho']at ho;cases ho;rw[hd']at hd;cases hd
theorem Inv.j5(I:Inv X aa σ H s):s.heap.FunFrames X.base X.outer:=by
 have all:∀(l:List Env),(∀b∈yz l,b∈X.fs)->X.s₀.heap.FunFrames X.base l->s.heap.FunFrames X.base l:=by
  intro l;induction l with
  |nil=>intro _ _;trivial
  |cons env r ih=>intro hs hl;obtain⟨hk,⟨L,o,hf,hn,ho,hd⟩,hr⟩:=hl;have hL:L∈X.fs:=hs L (by unfold yz;rw[Rk,hf];exact OZ);obtain⟨sl,e⟩:=I.base.slot L o ho (I.ok.EO L hL) hL λz=>I.ok.Bm L z hL;exact⟨hk,⟨L,_,hf,hn,e,hd⟩,ih (λb hb=>hs b (by unfold yz;rw[Rk,hf];exact OW _ hb)) hr⟩
 exact all X.outer (λ_ hb=>hb) I.ok.j5
theorem Inv.stack(I:Inv X aa σ H s):s.heap.FunFrames X.base X.stack:=by
 rcases I.ok.K5 with e|⟨e,hf⟩
 .rw[e];exact I.j5
 .rw[e];obtain⟨m,hn,_⟩:=I.loc;refine .cons (by rw[I.ok.kind];decide) hf hn ?_ I.j5;exact Heap.get?_none_of_le (O3 I.ok.BA I.ok.above)
def Inv.qI(I:Inv X aa σ H s):∀b∈yz X.stack,b∈X.env.locals::X.fs:=λb hb=>by
 rcases I.ok.K5 with e|⟨e,hf⟩
 .rw[e]at hb;exact OW _ hb
 .rw[e]at hb;unfold yz at hb;rw[Rk,hf]at hb;exact hb
def Inv.wD(I:Inv X aa σ H s):∀b∈yz X.stack,H b=none:=λb hb=>by
 rcases OE.mp (I.qI b hb)with e|hb
 .rw[e];exact I.free
 .obtain⟨_,o,ho,_⟩:=I.ok.j5.mem hb;exact I.base.free b o ho (I.ok.EO b hb) λz=>I.ok.Bm b z hb
def Inv.step{d':Drawn}{ch:List Addr}(I:Inv X aa σ H s)
 (hch:∀b∈ch,(b∈X.ex\/X.s₀.heap.objs.size<=b)/\b≠X.env.locals/\(∀x c,X.env.cells.lookup x=some c->c≠b)/\∀p∈X.pn++aa,p.1≠b)
 (keep:∀b o,b≠X.env.locals->b∉X.fs->b∉ch->s.heap.get? b=some o->Qt H b->h'.get? b=some o)
 (slot:∀b o,b≠X.env.locals->b∈X.fs->b∉ch->s.heap.get? b=some o->H b=none->∃sl,h'.get? b=some {o with slots:=sl}) (free:∀b o,b∉ch->s.heap.get? b=some o->H b=none->H' b=none)
 (there:∀b o,b∉ch->s.heap.get? b=some o->∃o',h'.get? b=some o')
 (mZ:∀b xs,H b=some (.tup xs)->H' b=some (.tup xs)) (jY:∀b o u,H b=some (.aV o u)->H' b=some (.aV o u)) (tz:∀b ps,H b=some (.tE ps)->∃more,H' b=some (.tE (ps++more)))
 (ns:∀m,s.heap.Ns X.env.locals m->h'.Ns X.env.locals m) (aF:HOk X.prog X.w H' h') (hg:AllBare g') :
 Inv X aa σ H' {s with heap:=h',gens:=g',drawn:=d',toks:=t'}:=by
 have neL:∀b o,X.s₀.heap.get? b=some o->b≠X.env.locals:=λb o e=>OJ (O6 (OA e) I.ok.above);have neC:∀b o,X.s₀.heap.get? b=some o->b∉X.ex->b∉ch:=λb o e hx hb=>by
  rcases(hch b hb).1 with z|z
  .exact hx z
  .exact absurd (O6 (OA e) z) (Rp _)
 have cellK:∀x c,X.env.cells.lookup x=some c->∀v,s.heap.IsCell c v->h'.IsCell c v:=λx c e v ⟨o,ho,hd⟩=>by
  have nch:c∉ch:=λz=>(hch c z).2.2.1 x c e rfl;by_cases hc:c∈X.fs
  .obtain⟨sl,q⟩:=slot c o (I.HR x c e) hc nch ho (I.fK x c e);exact⟨_,q,hd⟩
  .exact⟨o,keep c o (I.HR x c e) hc nch ho (.inl (I.fK x c e)),hd⟩
 refine⟨I.ok,I.os,hg,⟨λb o e n hb hx=>?_,λb o e n hb hx=>?_,λb o e n hx=>?_,λb o e hx=>?_,λb xs e=>mZ b xs (I.base.mZ b xs e),λb o xs e=>jY b o xs (I.base.jY b o xs e),λb ps e=>?_⟩,?_,λx c e=>?_,?_,λx c e=>?_,λp hp=>?_,aF,I.len⟩
 .exact keep b o (neL b o e) hb (neC b o e hx) (I.base.keep b o e n hb hx) (n.imp (λn=>I.base.free b o e n hx) λ⟨xs,q⟩=>⟨xs,I.base.mZ b xs q⟩)
 .obtain⟨sl,e1⟩:=I.base.slot b o e n hb hx;obtain⟨sl',e2⟩:=slot b _ (neL b o e) hb (neC b o e hx) e1 (I.base.free b o e n hx);exact⟨sl',e2⟩
 .obtain⟨o',e1⟩:=I.base.there b o e hx;exact free b o' (neC b o e hx) e1 (I.base.free b o e n hx)
 .obtain⟨o',e1⟩:=I.base.there b o e hx;exact there b o' (neC b o e hx) e1
 .obtain⟨m1,e1⟩:=I.base.tz b ps e
  grind
 .obtain⟨m,hn,hl⟩:=I.loc;refine⟨m,ns m hn,λi x v e1 e2 e3=>?_⟩;obtain⟨u,r,l⟩:=hl i x v e1 e2 e3;refine⟨u,r,?_⟩;rcases l with l|⟨k,c,e,z⟩
  .exact .inl l
  .exact .inr ⟨k,c,e,cellK x c e _ z⟩
 .obtain⟨v,z⟩:=I.cell x c e;exact⟨v,cellK x c e v z⟩
 .obtain⟨m,⟨o,_,_,ho,_⟩,_⟩:=I.loc;exact free _ o (λz=>(hch _ z).2.1 rfl) ho I.free
 .obtain⟨v,o,ho,hd⟩:=I.cell x c e;exact free c o (λz=>(hch c z).2.2.1 x c e rfl) ho (I.fK x c e)
 .obtain⟨e,n,ne,nf,d⟩:=I.pin p hp;have nch:p.1∉ch:=λz=>(hch p.1 z).2.2.2 p hp rfl;exact⟨keep p.1 p.2 ne nf nch e (.inl n),free p.1 p.2 nch e n,ne,nf,d⟩
def Inv.un{t':Nat}(I:Inv X aa σ H s)(u:Un X.fs [] H H' s.heap h')(aF:HOk X.prog X.w H' h'):Inv X aa σ H' {s with heap:=h',toks:=t'}:=by obtain⟨m,⟨o,es,ep,ho,r⟩,_⟩:=id I.loc;obtain⟨sl,hL⟩:=u.any ho I.free (by simp);exact I.step (g':=s.gens) (d':=s.drawn) (ch:=[]) (λ_ z=>nomatch z) (λb o _ hb _ e n=>u.keep b o e n hb (by simp)) (λb o _ hb _ e n=>u.slot b o e n hb (by simp)) (λb o _ e n=>u.free b o e n (by simp)) (λb o _ e=>u.there b o e (by simp)) u.mZ u.jY u.tz (λm' hm=>by obtain⟨o',es',ep',ho',r'⟩:=hm;rw[ho]at ho';cases ho';exact⟨_,es',ep',hL,r'⟩) aF I.bare
def Inv.call{d':Drawn}{ch:List Addr}(I:Inv X aa σ H s)(u:Un (yz X.stack) ch H H' s.heap h')(aF:HOk X.prog X.w H' h')(hg:AllBare g')
 (hch:∀b∈ch,(b∈X.ex\/X.s₀.heap.objs.size<=b)/\b≠X.env.locals/\(∀x c,X.env.cells.lookup x=some c->c≠b)/\∀p∈X.pn++aa,p.1≠b) :
 Inv X aa σ H' {s with heap:=h',gens:=g',drawn:=d',toks:=t'}:=by
 obtain⟨m,⟨o,es,ep,ho,r⟩,_⟩:=id I.loc;obtain⟨sl,hL⟩:=u.any ho I.free λz=>(hch _ z).2.1 rfl;exact I.step (ch:=ch) hch (λb o hL hb hc e n=>u.keep b o e n (λz=>(OE.mp (I.qI b z)).elim hL hb) hc) (λb o _ _ hc e n=>u.any e n hc) (λb o hc e n=>u.free b o e n hc) (λb o hc e=>u.there b o e hc) u.mZ u.jY u.tz (λm' hm=>by obtain⟨o',es',ep',ho',r'⟩:=hm;rw[ho]at ho';cases ho';exact⟨_,es',ep',hL,r'⟩) aF hg
def Inv.turned{it:Addr}(I:Inv X aa σ H s)(k:∀b o,b≠it->s.heap.get? b=some o->h'.get? b=some o)(hn:H it=none)(hL:it≠X.env.locals)
 (h1:it∈X.ex\/X.s₀.heap.objs.size<=it) (h2:∀x c,X.env.cells.lookup x=some c->c≠it) (h3:∀p∈X.pn++aa,p.1≠it):Inv X aa σ H {s with heap:=h',toks:=t'}:=by
 have nit:∀b u,H b=some u->b≠it:=λb u e z=>by rw[z,hn]at e;cases e
 refine I.step (g':=s.gens) (d':=s.drawn) (ch:=[it]) (λb hb=>?_) (λb o _ _ hc e _=>k b o (λz=>hc (by simp[z])) e) (λb o _ _ hc e _=>⟨o.slots,k b o (λz=>hc (by simp[z])) e⟩) (λ_ _ _ _ n=>n)
  (λb o hc e=>⟨o,k b o (λz=>hc (by simp[z])) e⟩) (λ_ _ e=>e) (λ_ _ _ e=>e) (λb ps e=>⟨#[],by rw[e];simp⟩) (λm hm=>?_) (λb u e=>?_) I.bare
 .have e:b=it:=by simpa using hb
  subst e;exact⟨h1,hL,h2,h3⟩
 .obtain⟨o,es,ep,ho,r⟩:=hm;exact⟨o,es,ep,k _ o (PV hL) ho,r⟩
 .refine(I.aF b u e).stay (λc v hc q=>k c v ?_ q) (λ_ q=>q) λ_ _ q=>q;rcases hc with z|z
  .rw[z];exact nit b u e
  .exact nit c _ z
def Inv.tok(I:Inv X aa σ H s)(t:Nat):Inv X aa σ H {s with toks:=t}:=I.un (h':=s.heap) (t':=t) Un.refl I.aF
theorem Inv.kept(I:Inv X aa σ H s)(k:∀b u,s.heap.get? b=some u->h'.get? b=some u):Inv X aa σ H {s with heap:=h',toks:=t'}:=I.un (Un.kept k) (I.aF.kept k)
theorem Inv.laid(I:Inv X aa σ H s)(k:∀b u,s.heap.get? b=some u->h'.get? b=some u)(hp:s.heap.objs.size<=a)(new:ObjOk X.prog X.w (upd H a o) h' a o) :
 Inv X aa σ (upd H a o) {s with heap:=h',toks:=t'}:=I.un (Un.laid k hp (I.aF.fresh hp)) (I.aF.laid k hp new)
theorem Inv.write(I:Inv X aa σ H s)(mu:E6 (H x))(he:e=x\/H e=some (.own x))(k:∀b u,b≠e->s.heap.get? b=some u->h'.get? b=some u)(heo:∃u,h'.get? e=some u)
 (new:ObjOk X.prog X.w (upd H x o) h' x o):Inv X aa σ (upd H x o) {s with heap:=h',toks:=t'}:=I.un (Un.write mu he k heo) (I.aF.write mu he k heo new)
def Inv.wB(I:Inv X aa σ H s)(h:∀p∈pins',s.heap.get? p.1=some p.2/\H p.1=none/\p.1≠X.env.locals/\p.1∉X.fs/\∀v,p.2.data≠.cell v):Inv X pins' σ H s:=⟨I.ok,I.os,I.bare,I.base,I.loc,I.cell,I.free,I.fK,λp hp=>(OF.mp hp).elim (λz=>I.pin p (OX _ z)) (h p),I.aF,I.len⟩
def qO{N:List Str}(hN:N.Nodup){i j:Nat}{x:Str}(a:N[i]?=some x)(b:N[j]?=some x):i=j:=by obtain⟨h1,e1⟩:=OG.mp a;obtain⟨h2,e2⟩:=OG.mp b;exact(List.getElem_inj hN).mp (e1.trans e2.symm)
def nQ{E:SD->Sz->Prop}{x:Str}{v:V}{u:SD}{Q:Unit->Sz->Prop}(I:Inv X aa σ H s)(hN:X.N.Nodup)(hi:X.N[i]?=some x)(hx:E7 X.env.scope x)(r:RelV v u)
 (h:∀s',Inv X aa (σ.set i (some v)) H s'->(∃a,Heap.SameBut a s.heap s'.heap/\(a=X.env.locals\/X.env.cells.lookup x=some a))->Q () s') (hf:autoParam (X.fn x=true\/X.env.scope.names.lookup x=some .local) SL):wpAny M A (storeName X.env x u) Q E s:=by
 obtain⟨m,hn,hl⟩:=id I.loc;have hcls:(X.env.scope.kind==.class ||(X.env.scope.kind==.module&&X.env.locals != X.env.globals))=false:=by rw[I.ok.kind];rfl
 have hiσ:i<σ.length:=by rw[I.len];exact(OG.mp hi).1
 have HR:=I.HR;have tracked:∀{a:Addr}{h':Heap},(∃o,s.heap.get? a=some o/\H a=none)->Heap.SameBut a s.heap h'->HOk X.prog X.w H h':=λ{a h'} ha hs b ob e=>by
  obtain⟨_,_,hfree⟩:=ha;refine(I.aF b ob e).stay (λc w' hc q=>(hs.2 c ?_).trans q) (λ_ q=>q) λ_ _ q=>q
  grind
 rcases hx with hk|hk
 .refine wpAny_storeName_local hk hn (λh' hn' hs=>?_) hcls;obtain⟨oL,_,_,hoL,_⟩:=id hn;refine h _ ⟨I.ok,I.os,I.bare,⟨λb o e n hb hx=>?_,λb o e n hb hx=>?_,I.base.free,λb o e hx=>?_,I.base.mZ,I.base.jY,I.base.tz⟩,⟨_,hn',λj y v' e1 e2 e3=>?_⟩,λy c e=>?_,I.free,I.fK,λp hp=>?_,tracked ⟨oL,hoL,I.free⟩ hs,by simpa using I.len⟩ ⟨_,hs,.inl rfl⟩
  .exact(hs.2 b (OJ (O6 (OA e) I.ok.above))).trans (I.base.keep b o e n hb hx)
  .obtain⟨sl,e1⟩:=I.base.slot b o e n hb hx;exact⟨sl,(hs.2 b (OJ (O6 (OA e) I.ok.above))).trans e1⟩
  .obtain⟨o',e1⟩:=I.base.there b o e hx;exact⟨o',(hs.2 b (OJ (O6 (OA e) I.ok.above))).trans e1⟩
  .by_cases hj:j=i
   .subst hj;rw[hi]at e1;cases e1;rw[Pf hiσ]at e2;cases e2;exact⟨u,r,.inl ⟨hk,by simp⟩⟩
   .rw[Pl (PV hj)]at e2;obtain⟨u',r',q⟩:=hl j y v' e1 e2 e3;refine⟨u',r',?_⟩;rcases q with⟨k,e⟩|⟨k,c,e,z⟩
    .refine .inl ⟨k,?_⟩;have:y≠x:=λe=>hj (qO hN e1 (e▸hi));simp[this,e]
    .exact .inr ⟨k,c,e,z.sameBut hs (HR y c e)⟩
  .obtain⟨w',z⟩:=I.cell y c e;exact⟨w',z.sameBut hs (HR y c e)⟩
  .obtain⟨e,n,ne,nf,d⟩:=I.pin p hp;exact⟨(hs.2 p.1 ne).trans e,n,ne,nf,d⟩
 .have hfn:X.fn x=true:=by
   rcases hf with z|z
   .exact z
   .rw[z]at hk;cases hk
  obtain⟨c,hc⟩:=I.ok.has x (.inl hk);obtain⟨w',z⟩:=I.cell x c hc;refine wpAny_storeName_cell I.ok.kind hk hc z (λh' hc' hs=>?_);obtain⟨oc,hoc,hocd⟩:=id z;refine h {s with heap:=h'} ⟨I.ok,I.os,I.bare,⟨λb o e n hb hx=>?_,λb o e n hb hx=>?_,I.base.free,λb o e hx=>?_,I.base.mZ,I.base.jY,I.base.tz⟩,⟨m,hn.sameBut hs (PV (HR x c hc)),λj y v' e1 e2 e3=>?_⟩,λy c' e=>?_,I.free,I.fK,λp hp=>?_,tracked ⟨oc,hoc,I.fK x c hc⟩ hs,by simpa using I.len⟩ ⟨c,hs,.inr hc⟩
  .exact(hs.2 b (OJ (O6 (OA e) (I.ok.Iy x c hfn hc)))).trans (I.base.keep b o e n hb hx)
  .obtain⟨sl,e1⟩:=I.base.slot b o e n hb hx;exact⟨sl,(hs.2 b (OJ (O6 (OA e) (I.ok.Iy x c hfn hc)))).trans e1⟩
  .obtain⟨o',e1⟩:=I.base.there b o e hx;exact⟨o',(hs.2 b (OJ (O6 (OA e) (I.ok.Iy x c hfn hc)))).trans e1⟩
  .by_cases hj:j=i
   .subst hj;rw[hi]at e1;cases e1;rw[Pf hiσ]at e2;cases e2;exact⟨u,r,.inr ⟨.inl hk,c,hc,hc'⟩⟩
   .rw[Pl (PV hj)]at e2;obtain⟨u',r',q⟩:=hl j y v' e1 e2 e3;refine⟨u',r',?_⟩;rcases q with q|⟨k,c',e,z'⟩
    .exact .inl q
    .refine .inr ⟨k,c',e,z'.sameBut hs ?_⟩;rintro rfl;exact hj (qO hN e1 (I.ok.inj _ _ _ e hc▸hi))
  .by_cases hcc:c'=c
   .subst hcc;exact⟨_,hc'⟩
   .obtain⟨w2,z2⟩:=I.cell y c' e;exact⟨w2,z2.sameBut hs hcc⟩
  .obtain⟨e,n,ne,nf,d⟩:=I.pin p hp;refine⟨(hs.2 p.1 ?_).trans e,n,ne,nf,d⟩
   grind
def qP(I:Inv X aa σ H s)(hN:X.N.Nodup)(hi:X.N[i]?=some x)(hx:E7 X.env.scope x)(r:RelV v u)
 (h:∀s',Inv X aa (σ.set i (some v)) H s'->Q () s') (hf:autoParam (X.fn x=true\/X.env.scope.names.lookup x=some .local) SL):wpAny M A (storeName X.env x u) Q E s:=
 nQ I hN hi hx r (λs' I' _=>h s' I') hf
def Inv.K6(I:Inv X aa σ H s)(ho:s'.os=s.os)(u:Un (yz X.stack) ch H H' s.heap s'.heap)(aF:HOk X.prog X.w H' s'.heap)(hg:AllBare s'.gens)
 (hch:∀b∈ch,(b∈X.ex\/X.s₀.heap.objs.size<=b)/\b≠X.env.locals/\(∀x c,X.env.cells.lookup x=some c->c≠b)/\∀p∈X.pn++aa,p.1≠b):Inv X aa σ H' s':=by
 obtain⟨h',g',d',t',o'⟩:=s';have e:o'=s.os:=ho;subst e;exact I.call (g':=g') (t':=t') (d':=d') u aF hg hch
end
abbrev XK:=SD->Option Addr->Hp->Prop
noncomputable abbrev St:=List (Option V)
abbrev VK:=V->Hp->Prop
abbrev TE:=St->Hp->VK->Prop
abbrev TT:=St->Hp->(Bool->Hp->Prop)->Prop
abbrev TA:=St->Hp->(List V->Hp->Prop)->Prop
structure Ends where
 nx:St->Hp->Prop
 rt:VK
 bk:St->Hp->Prop:=λ_ _=>False
 ct:St->Hp->Prop:=λ_ _=>False
abbrev TS:=Ends->St->Hp->Prop
def EP(X:Cx)(aa:List (Addr×Obj))(σ:St)(Q:VK)(u:SD)(s':Sz):Prop:=∃v H',Inv X aa σ H' s'/\RelV v u/\Q v H'
def TP(X:Cx)(aa:List (Addr×Obj))(σ:St)(Q:Bool->Hp->Prop)(b:Bool)(s':Sz):Prop:=∃H',Inv X aa σ H' s'/\Q b H'
def AP(X:Cx)(aa:List (Addr×Obj))(σ:St)(Q:List V->Hp->Prop)(us:List SD)(s':Sz):Prop:=∃vs H',Inv X aa σ H' s'/\Vals vs us/\Q vs H'
def SP(X:Cx)(aa:List (Addr×Obj))(D:Ends)(f:Flow)(s':Sz):Prop:=
 match f with
 |.next=>∃σ' H',Inv X aa σ' H' s'/\D.nx σ' H'
 |.brk=>∃σ' H',Inv X aa σ' H' s'/\D.bk σ' H'
 |.cont=>∃σ' H',Inv X aa σ' H' s'/\D.ct σ' H'
 |.ret u=>∃v σ' H',Inv X aa σ' H' s'/\RelV v u/\D.rt v H'
def PE(X:Cx)(e:Expr)(t:TE):Prop:=∀(aa:List (Addr×Obj))(s:Sz)(σ:St)(H:Hp)(Q:VK),Inv X aa σ H s->t σ H Q->wpAny (model X.prog X.w) X.A (eval e X.env) (EP X aa σ Q) X.xe s
def PT(X:Cx)(e:Expr)(t:TT):Prop:=∀(aa:List (Addr×Obj))(s:Sz)(σ:St)(H:Hp)(Q:Bool->Hp->Prop),Inv X aa σ H s->t σ H Q->wpAny (model X.prog X.w) X.A (isTrue e X.env (eval e X.env)) (TP X aa σ Q) X.xe s
def PW(X:Cx)(e:Expr)(t:TT):Prop:=∀(whole:Sem SD)(aa:List (Addr×Obj))(s:Sz)(σ:St)(H:Hp)(Q:Bool->Hp->Prop),Inv X aa σ H s->t σ H Q->wpAny (model X.prog X.w) X.A (isTrue e X.env whole) (TP X aa σ Q) X.xe s
def PW.pt(h:PW X e t):PT X e t:=h _
def PA(X:Cx)(es:List Expr)(t:TA):Prop:=∀(pos:Pos)(aa:List (Addr×Obj))(s:Sz)(σ:St)(H:Hp)(Q:List V->Hp->Prop),Inv X aa σ H s->t σ H Q->wpAny (model X.prog X.w) X.A (spliced (backTo pos (starEach es X.env))) (AP X aa σ Q) X.xe s
def PS(X:Cx)(st:Stmt)(t:TS):Prop:=∀(aa:List (Addr×Obj))(s:Sz)(σ:St)(H:Hp)(D:Ends),Inv X aa σ H s->t D σ H->wpAny (model X.prog X.w) X.A (exec st X.env) (SP X aa D) X.xe s
def PSs(X:Cx)(st:List Stmt)(t:TS):Prop:=∀(aa:List (Addr×Obj))(s:Sz)(σ:St)(H:Hp)(D:Ends),Inv X aa σ H s->t D σ H->wpAny (model X.prog X.w) X.A (execs st X.env) (SP X aa D) X.xe s
def bQ{α:Type}{t:Sem α}{Q Q':α->Sz->Prop}{M:Model}{A:SE}{E:SD->Sz->Prop}{s:Sz}(h:wpAny M A t Q E s)(hQ:∀a s,Q a s->Q' a s):wpAny M A t Q' E s:=Qc h hQ λ_ _ x=>x
section
variable{X:Cx}
noncomputable def tVar(i:Nat):TE:=λσ H Q=>∃v,σ[i]?=some (some v)/\Q v H
noncomputable def tC(v:V):TE:=λ_ H Q=>Q v H
def E8(hN:X.N[i]?=some x)(hv:K9 X.env.scope x)(hd:autoParam (dB x) ab) (hcd:autoParam ((x==("__classdict__" : Str))=false) ab):PE X (.Name x pos) (tVar i):=by
 intro aa s σ H Q I h;obtain⟨v,e,h⟩:=h;obtain⟨m,hn,hl⟩:=I.loc;obtain⟨u,r,l⟩:=hl i x v hN e hv;have fin:EP X aa σ Q u s:=⟨v,H,I,r,h⟩;rcases l with⟨hk,hm⟩|⟨hk,c,hc,hcell⟩
 .exact wpAny_Name (wpAny_loadName_local I.ok.kind hk hn hm fin) hd
 .rcases hk with hk|hk
  .exact wpAny_Name (wpAny_loadName_cell I.ok.kind hk hc hcell fin) hd
  .exact wpAny_Name (wpAny_loadName_free I.ok.kind hk hc hcell fin hcd) hd
def aQ{i j pos}:PE X (.Constant (.int i) j pos) (tC (.int i)):=λ_ _ _ H _ I h=>wpAny_Constant_int ⟨.int i,H,I.tok _,⟨_,rfl⟩,h⟩
def lB{b j pos}:PE X (.Constant (.bool b) j pos) (tC (.bl b)):=λ_ _ _ H _ I h=>Constant_bool ⟨.bl b,H,I,rfl,h⟩
def Gl(X:Cx)(x:Str):Prop:=X.env.kindOf x=some .globalImplicit
def vi(I:Inv X aa σ H s)(hg:Gl X x)(hm:X.mg x=some u)(h:Q u s)
 (hd:autoParam (dB x) ab):wX X (eval (.Name x pos) X.env) Q E s:=
 Calls.Name_function_global I.ok.kind hg (Calls.loadGlobal_global (by rw[I.ok.glob];exact I.mod.glob.keeps I.bk) hm h) hd
def oZ(I:Inv X aa σ H s)(hg:Gl X x)(hm:X.mg x=none)(hv:bootBuiltins x=some u)(h:Q u s)
 (hn:autoParam (x≠"__name__") ab) (hd:autoParam (dB x) ab):wX X (eval (.Name x pos) X.env) Q E s:=by
 obtain⟨mb,h1,h2⟩:=I.mod.blt;exact Calls.Name_function_global I.ok.kind hg (Calls.loadGlobal_builtin (by rw[I.ok.glob];exact I.mod.glob.keeps I.bk) hm (by rw[I.ok.blt];exact h1.keeps I.bk) ((h2 x hn).trans hv) h) hd
def BI(hg:Gl X x)(hm:X.mg x=none)(hv:bootBuiltins x=some u)(r:RelV v u)(hn:autoParam (x≠"__name__") ab) (hd:autoParam (dB x) ab):PE X (.Name x pos) (tC v):=λ_ _ _ H _ I h=>oZ I hg hm hv ⟨v,H,I,r,h⟩ hn hd
variable{a b:Expr}{ta tb:TE}{pos:Pos}
variable{tA tB':TT}{rest:List Expr}
noncomputable def Ly(t u:TT):TT:=λσ H Q=>t σ H λc H1=>if c=true then u σ H1 Q else Q false H1
noncomputable def NG(t u:TT):TT:=λσ H Q=>t σ H λc H1=>if c=true then Q true H1 else u σ H1 Q
noncomputable def Lz(t:TT):TT:=λσ H Q=>t σ H λc H1=>Q (!c) H1
def BJ(ha:PT X a tA):PW X (.BoolOp .And [a] pos) tA:=by
 intro wh aa s σ H Q I h;refine isTrue_and (bQ (ha aa s σ H Q I h) λc s1 e=>?_);cases c with
 |true=>exact isTrue_and_nil e
 |false=>exact e
def E9(ha:PT X a tA):PW X (.BoolOp .Or [a] pos) tA:=by
 intro wh aa s σ H Q I h;refine isTrue_or (bQ (ha aa s σ H Q I h) λc s1 e=>?_);cases c with
 |false=>exact isTrue_or_nil e
 |true=>exact e
def E_(ha:PT X a tA)(hb:PW X (.BoolOp .And (b::rest) pos) tB'):PW X (.BoolOp .And (a::b::rest) pos) (Ly tA tB'):=by
 intro wh aa s σ H Q I h;refine isTrue_and (bQ (ha aa s σ H _ I h) λc s1 ⟨H1,I1,q1⟩=>?_);cases c with
 |true=>exact hb wh aa s1 σ H1 Q I1 q1
 |false=>exact⟨H1,I1,q1⟩
def IC(ha:PT X a tA)(hb:PW X (.BoolOp .Or (b::rest) pos) tB'):PW X (.BoolOp .Or (a::b::rest) pos) (NG tA tB'):=by
 intro wh aa s σ H Q I h;refine isTrue_or (bQ (ha aa s σ H _ I h) λc s1 ⟨H1,I1,q1⟩=>?_);cases c with
 |true=>exact⟨H1,I1,q1⟩
 |false=>exact hb wh aa s1 σ H1 Q I1 q1
def Fa(ha:PT X a tA):PT X (.UnaryOp .Not a pos) (Lz tA):=by intro aa s σ H Q I h;exact isTrue_not (ha aa s σ H (λc H1=>Q (!c) H1) I h)
noncomputable def ID(ta tb:TE):TE:=λσ H Q=>ta σ H λx H1=>∃c,x=.bl c/\if c=true then tb σ H1 Q else Q (.bl false) H1
def Fb{op}(h:PE X a t):PE X (.BoolOp op [a] pos) t:=λaa s σ H Q I hw=>BoolOp_one (h aa s σ H Q I hw)
def Fc(ha:PE X a ta)(hb:PE X (.BoolOp .And (b::rest) pos) tb):PE X (.BoolOp .And (a::b::rest) pos) (ID ta tb):=by
 intro aa s σ H Q I h;refine BoolOp_and (bQ (ha aa s σ H _ I h) λv s1 ⟨x,H1,I1,r1,q1⟩=>?_);obtain⟨c,rfl,q1⟩:=q1;cases r1;refine Q0 ?_;cases c with
 |true=>exact hb aa s1 σ H1 Q I1 q1
 |false=>exact⟨.bl false,H1,I1,rfl,q1⟩
end
def SqL(K:SB)(H:Hp)(a:Addr)(xs:List V):Prop:=
 Rd H a (.lst xs)\/
  ∃(o:Obj)(its:Array SD)(n:Nat),K.lookup a=some o/\o.cls=.type "list"/\o.dict=none/\o.data=.seq its n/\its.size<=sizeLine/\Vals xs its.toList
def SqT(K:SB)(H:Hp)(a:Addr)(xs:List V):Prop:=
 Rd H a (.tup xs)\/
  ∃(o:Obj)(its:Array SD)(n:Nat),K.lookup a=some o/\o.cls=.type "tuple"/\o.data=.seq its n/\its.size<=sizeLine/\Vals xs its.toList
noncomputable def LA:SD->Option V
 |.none=>some .ba
 |.bool b=>some (.bl b)
 |.int i _=>some (.int i)
 |.str x _=>some (.str x)
 |.bytes b _=>some (.yw b)
 |.float b _=>some (.HV b)
 |.ref a=>some (.ref a)
 |.type n=>some (.ty n)
 |_=>none
def RelV.abs(r:RelV x u):LA u=some x:=by
 cases x with
 |ba=>cases r;rfl
 |bl _=>cases r;rfl
 |int _=>obtain⟨t,rfl⟩:=r;rfl
 |str _=>obtain⟨t,rfl⟩:=r;rfl
 |yw _=>obtain⟨t,rfl⟩:=r;rfl
 |HV _=>obtain⟨t,rfl⟩:=r;rfl
 |ref _=>cases r;rfl
 |ty _=>cases r;rfl
def RelV.inj(r:RelV x u)(q:RelV y u):x=y:=PC (r.abs.symm.trans q.abs)
theorem Vals.inj{xs ys:List V}{us:List SD}(h:Vals xs us)(k:Vals ys us):xs=ys:=by
 induction h generalizing ys with
 |nil=>cases k;rfl
 |cons r _ ih=>
  cases k with
  |cons r' t'=>rw[r.inj r',ih t']
section
def SqL.of{K:SB}(h:H a=some (.lst xs)):SqL K H a xs:=.inl (.inl h)
def SqT.of{K:SB}(h:H a=some (.tup xs)):SqT K H a xs:=.inl (.inl h)
def Inv.list(I:Inv X aa σ H s)(h:SqL X.K H a xs):∃its:List SD,Vals xs its/\PlainL s.heap a its.toArray/\xs.length<=sizeLine:=by
 rcases h with h|⟨o,its,n,hk,hc,hd,hs,hz,r⟩
 .obtain⟨z,its,n,r,e⟩:=h.ok I.aF;exact⟨its,r,⟨_,n,e,rfl,rfl,rfl⟩,z⟩
 .refine⟨its.toList,r,⟨o,n,I.kq a o hk,hc,hd,by simpa using hs⟩,?_⟩;have e:=r.length;simp only[Pt]at e;lia
def Inv.tuple(I:Inv X aa σ H s)(h:SqT X.K H a xs):∃its:List SD,Vals xs its/\IsTup s.heap a its.toArray/\xs.length<=sizeLine:=by
 rcases h with h|⟨o,its,n,hk,hc,hs,hz,r⟩
 .obtain⟨z,its,r,p⟩:=h.ok I.aF;exact⟨its,r,p,z⟩
 .refine⟨its.toList,r,⟨o,I.kq a o hk,hc,n,by simpa using hs⟩,?_⟩;have e:=r.length;simp only[Pt]at e;lia
def Inv.Bh(I:Inv X aa σ H s)(h:SqL X.K H a xs)(h':SqL X.K H a ys):xs=ys:=by
 obtain⟨its,r,⟨o,n,e,_,_,d⟩,_⟩:=I.list h;obtain⟨its',r',⟨o',n',e',_,_,d'⟩,_⟩:=I.list h';rw[e]at e';cases e';rw[d]at d';injection d' with d1 _;have:its=its':=by simpa using Qn Array.toList d1
 subst this;exact r.inj r'
def Inv.yj(I:Inv X aa σ H s)(h:SqT X.K H a xs)(h':SqT X.K H a ys):xs=ys:=by
 obtain⟨its,r,⟨o,e,_,n,d⟩,_⟩:=I.tuple h;obtain⟨its',r',⟨o',e',_,n',d'⟩,_⟩:=I.tuple h';rw[e]at e';cases e';rw[d]at d';injection d' with d1 _;have:its=its':=by simpa using Qn Array.toList d1
 subst this;exact r.inj r'
end
noncomputable abbrev Cx.nN(X:Cx)(E:SD->Sz->Prop):Cx:={X with xe:=E}
abbrev Cx.K1(X:Cx):Cx:=X.nN λ_ _=>False
theorem Cx.Ok.nN{X:Cx}(ok:X.Ok)(E:SD->Sz->Prop):(X.nN E).Ok:=⟨ok.mod,ok.kind,ok.glob,ok.blt,ok.above,ok.inj,ok.has,ok.Iy,ok.hd,ok.frames,ok.K5,ok.Nd,ok.bs,ok.BA,ok.yo,ok.Bm,ok.j5,ok.EO,ok.kt⟩
def Cx.Ok.gX{X:Cx}{E:SD->Sz->Prop}(ok:(X.nN E).Ok):X.Ok:=⟨ok.mod,ok.kind,ok.glob,ok.blt,ok.above,ok.inj,ok.has,ok.Iy,ok.hd,ok.frames,ok.K5,ok.Nd,ok.bs,ok.BA,ok.yo,ok.Bm,ok.j5,ok.EO,ok.kt⟩
section
theorem Inv.nN(I:Inv X aa σ H s)(E:SD->Sz->Prop):Inv (X.nN E) aa σ H s:=⟨I.ok.nN E,I.os,I.bare,I.base,I.loc,I.cell,I.free,I.fK,I.pin,I.aF,I.len⟩
theorem Inv.gX(I:Inv (X.nN E) aa σ H s):Inv X aa σ H s:=⟨I.ok.gX,I.os,I.bare,I.base,I.loc,I.cell,I.free,I.fK,I.pin,I.aF,I.len⟩
theorem SP.gX(h:SP (X.nN E) aa D f s'):SP X aa D f s':=by
 cases f with
 |next=>obtain⟨σ',H',I,q⟩:=h;exact⟨σ',H',I.gX,q⟩
 |brk=>obtain⟨σ',H',I,q⟩:=h;exact⟨σ',H',I.gX,q⟩
 |cont=>obtain⟨σ',H',I,q⟩:=h;exact⟨σ',H',I.gX,q⟩
 |ret u=>obtain⟨v,σ',H',I,r,q⟩:=h;exact⟨v,σ',H',I.gX,r,q⟩
theorem PSs.K1{st:List Stmt}(h:PSs X.K1 st t):PSs X st t:=λaa s σ H D I hw=>Qc (h aa s σ H D (I.nN _) hw) (λ_ _ q=>q.gX) λ_ _ z=>False.elim z
end
section
variable{X:Cx}{st:Stmt}{rest:List Stmt}{t u:TS}
noncomputable def vj:TS:=λD σ H=>D.nx σ H
noncomputable def bn(t u:TS):TS:=λD σ H=>t {D with nx:=u D} σ H
def kN:PSs X [] vj:=λ_ _ σ H _ I h=>Sa ⟨σ,H,I,h⟩
def ay(h1:PS X st t)(h2:PSs X rest u):PSs X (st::rest) (bn t u):=by
 intro aa s σ H D I h;refine wpAny_execs_cons (bQ (h1 aa s σ H {D with nx:=u D} I h) λf s1 q=>?_);cases f with
 |next=>obtain⟨σ',H',I',q⟩:=q;exact h2 aa s1 σ' H' D I' q
 |ret v=>exact q
 |brk=>exact q
 |cont=>exact q
def aC(h1:PS X st t):PSs X [st] t:=by
 intro aa s σ H D I h;refine wpAny_execs_cons (bQ (h1 aa s σ H D I h) λf s1 q=>?_);cases f with
 |next=>exact Sa q
 |ret v=>exact q
 |brk=>exact q
 |cont=>exact q
def Inv.quiet(I:Inv X aa σ H s):interactive X.env=false:=by simp[interactive,I.ok.kind]
noncomputable def cJ(te:TE):TS:=λD σ H=>te σ H λ_ H1=>D.nx σ H1
def bw(he:PE X e te)(hs:autoParam (swapsWith e none pos.line X.env=pure false) SN):PS X (.Expr e pos) (cJ te):=by intro aa s σ H D I h;exact wpAny_Expr_any (bQ (he aa s σ H _ I h) λv s1 ⟨x,H1,I1,r1,q1⟩=>⟨σ,H1,I1,q1⟩) I.quiet hs
noncomputable def kr(te:TE):TS:=λD σ H=>te σ H D.rt
def eU(he:PE X e te):PS X (.Return (some e) pos) (kr te):=by intro aa s σ H D I h;exact wpAny_Return_some (bQ (he aa s σ H _ I h) λv s1 ⟨x,H1,I1,r1,q1⟩=>⟨x,σ,H1,I1,r1,q1⟩)
noncomputable def D8:TS:=λD _ H=>D.rt .ba H
def BK:PS X (.Return none pos) D8:=λ_ _ σ H _ I h=>wpAny_Return_none ⟨.ba,σ,H,I,rfl,h⟩
noncomputable def tM(c:TT)(t u:TS):TS:=λD σ H=>c σ H λb H1=>if b=true then t D σ H1 else u D σ H1
def nR(hc:PT X c tc)(ha:PSs X a t)(hb:PSs X b u):PS X (.If c a b pos) (tM tc t u):=by
 intro aa s σ H D I h;refine wpAny_If (bQ (hc aa s σ H _ I h) λd s1 ⟨H1,I1,q1⟩=>?_);cases d with
 |true=>exact ha aa s1 σ H1 D I1 q1
 |false=>exact hb aa s1 σ H1 D I1 q1
end
abbrev TG:=V->St->Hp->(St->Hp->Prop)->Prop
abbrev IE:=List V->St->Hp->(St->Hp->Prop)->Prop
def PG(X:Cx)(target:Expr)(t:TG):Prop:=
 ∀(aa:List (Addr×Obj))(s:Sz)(σ:St)(H:Hp)(v:V)(u:SD)(Q:St->Hp->Prop),Inv X aa σ H s->RelV v u->t v σ H Q->
  wpAny (model X.prog X.w) X.A (assign target X.env u) (λ_ s'=>∃σ' H',Inv X aa σ' H' s'/\Q σ' H') X.xe s
def K_(X:Cx)(ts:List Expr)(t:IE):Prop:=
 ∀(aa:List (Addr×Obj))(s:Sz)(σ:St)(H:Hp)(vs:List V)(us:List SD)(Q:St->Hp->Prop),Inv X aa σ H s->Vals vs us->t vs σ H Q->
  wpAny (model X.prog X.w) X.A (assignInOrder ((assignEach ts X.env).map (·.2)) us) (λ_ s'=>∃σ' H',Inv X aa σ' H' s'/\Q σ' H') X.xe s
section
noncomputable def gName(i:Nat):TG:=λv σ H Q=>Q (σ.set i (some v)) H
def aO(hN:X.N.Nodup)(hi:X.N[i]?=some x)(hx:E7 X.env.scope x)(hf:autoParam (X.fn x=true\/X.env.scope.names.lookup x=some .local) SL):PG X (.Name x pos) (gName i):=by intro aa s σ H v u Q I r h;exact wpAny_assign_Name (qP I hN hi hx r (λs' I'=>⟨_,H,I',h⟩) hf)
noncomputable def tO:IE:=λvs σ H Q=>vs=[]/\Q σ H
noncomputable def c_(t:TG)(u:IE):IE:=λvs σ H Q=>∃v r,vs=v::r/\t v σ H λσ' H'=>u r σ' H' Q
def kP:K_ X [] tO:=by intro aa s σ H vs us Q I r h;obtain⟨e,h⟩:=h;subst e;cases r;exact assignInOrder_nil ⟨σ,H,I,h⟩
def bS(h1:PG X e t)(h2:K_ X es u)
 (hs:autoParam ((assignEach (e::es) X.env).map (·.2)=assign e X.env::(assignEach es X.env).map (·.2)) SN):K_ X (e::es) (c_ t u):=by
 intro aa s σ H vs us Q I r h;obtain⟨v,vr,e1,h⟩:=h;subst e1;cases r with
 |cons r rr=>rw[hs];refine assignInOrder_cons (bQ (h1 aa s σ H _ _ _ I r h) λ_ s1 ⟨σ1,H1,I1,q1⟩=>?_);exact h2 aa s1 σ1 H1 _ _ Q I1 rr q1
noncomputable def tP(K:SB)(n:Nat)(t:IE):TG:=λv σ H Q=>∃a xs,v=.ref a/\SqT K H a xs/\xs.length=n/\t xs σ H Q
def o5(hc:X.calm=true)(h:K_ X es t)
 (hn:autoParam ((assignEach es X.env).length=n) SN) (hst:autoParam ((assignEach es X.env).findIdx? (·.1)=none) SN):PG X (.Tuple es k pos) (tP X.K n t):=by
 intro aa s σ H v u Q I r hw;obtain⟨a,xs,e1,hq,hl,hw⟩:=hw;subst e1;cases r;obtain⟨its,rv,ht,hz⟩:=I.tuple hq;refine assign_Tuple_tuple (I.ok.hd hc) ht (by simp[hn,<- hl,rv.length]) hst λh' hx=>?_;have I1:Inv X aa σ H {s with heap:=h'}:=I.kept (t':=s.toks) λb o e=>hx b o (OJ (OA e)) e;exact h aa _ σ H xs _ Q I1 (by simpa using rv) hw
noncomputable def tAsg(te:TE)(g:TG):TS:=λD σ H=>te σ H λx H1=>g x σ H1 D.nx
def bC(hN:X.N.Nodup)(hi:X.N[i]?=some x)(hx:E7 X.env.scope x)(he:PE X e te)(hs:autoParam (swapsWith e (some (.Name x pos')) pos.line X.env=pure false) SN)(hf:autoParam (X.fn x=true\/X.env.scope.names.lookup x=some .local) SL) :
 PS X (.Assign [.Name x pos'] e pos) (tAsg te (gName i)):=by
 intro aa s σ H D I h;refine wpAny_Assign_Name (bQ (he aa s σ H _ I h) λv s1 ⟨y,H1,I1,r1,q1⟩=>?_) hs;exact qP I1 hN hi hx r1 (λs2 I2=>⟨_,H1,I2,q1⟩) hf
end
section
def yA(c:TT)(tb:TS):TS:=λD σ H=>∃W:Nat->St->Hp->Prop,(∃m,W m σ H)/\∀m σ H,W m σ H->
 c σ H λb H1=>if b=true then ∃N:St->Hp->Prop,(∀σ' H',N σ' H'->∃m',m'<m/\W m' σ' H')/\tb {D with nx:=N,ct:=N,bk:=D.nx} σ H1 else D.nx σ H1
def yB(hp:PassesOwn (model X.prog X.w) X.A X.env X.xe)(hc:PT X c tc)(hb:PSs X body tb):PS X (.While c body [] pos) (yA tc tb):=by
 intro aa s σ H D I h;obtain⟨W,⟨m0,w0⟩,turn⟩:=h;refine wpAny_While (codeAny_whileLoop (λn s'=>∃σ' H',Inv X aa σ' H' s'/\W n σ' H') ?_ m0 ⟨σ,H,I,w0⟩);rintro n s1 ⟨σ1,H1,I1,w1⟩;refine QD hp (bQ (hc aa s1 σ1 H1 _ I1 (turn n σ1 H1 w1)) λb s2 ⟨H2,I2,q2⟩=>?_);cases b with
 |true=>
  obtain⟨N,hN,q2⟩:=q2;rw[Ow rfl];refine QD hp (bQ (hb aa s2 σ1 H2 _ I2 q2) λf s3 q3=>?_);cases f with
  |next=>obtain⟨σ3,H3,I3,n3⟩:=q3;obtain⟨m',hm,w3⟩:=hN σ3 H3 n3;exact⟨m',hm,σ3,H3,I3,w3⟩
  |cont=>obtain⟨σ3,H3,I3,n3⟩:=q3;obtain⟨m',hm,w3⟩:=hN σ3 H3 n3;exact⟨m',hm,σ3,H3,I3,w3⟩
  |brk=>exact q3
  |ret v=>exact q3
 |false=>rw[Ox OS];exact Sa ⟨σ1,H2,I2,q2⟩
end
structure It where
 go:Nat->Hp->Prop
 yx:Nat->Hp->V->Hp->Prop
 stop:Nat->Hp->Prop
def ia(X:Cx)(aa:List (Addr×Obj))(H:Hp)(b:Addr):Prop:=H b=none/\b≠X.env.locals/\b∉X.fs/\(b∈X.ex\/X.s₀.heap.objs.size<=b)/\(∀x c,X.env.cells.lookup x=some c->c≠b)/\∀p∈X.pn++aa,p.1≠b
def Inv.nM(I:Inv X aa σ H s)(hb:s.heap.objs.size<=b)(hn:H' b=none):ia X aa H' b:=by
 refine⟨hn,Qz (O6 I.lt hb),I.Nc hb,.inr (O3 I.sz hb),λx c e z=>?_,λp hp z=>?_⟩
 .obtain⟨v,q⟩:=I.cell x c e;exact absurd (O6 q.lt (by rw[z];exact hb)) (Rp _)
 .exact absurd (O6 (OA (I.pin p hp).1) (by rw[z];exact hb)) (Rp _)
structure Turn(P:SC) (w:World) (K:SB) (tg:Expr) (J:It) (fp:List Addr) (it:Addr) (tn:Nat->Heap->Prop):Prop where
 mem:it∈fp
 obj:∀i h,tn i h->∀b∈fp,∃o,h.get? b=some o/\∀v,o.data≠.cell v
 keep:∀i h h',tn i h->(∀b∈fp,∀o,h.get? b=some o->h'.get? b=some o)->tn i h'
 item:∀(X:Cx),X.prog=P->X.w=w->X.K=K->X.calm=true->∀(i:Nat)(aa:List (Addr×Obj))(s:Sz)(σ:St)(H:Hp)(E:SD->Sz->Prop),Inv X aa σ H s->(∀b∈fp,ia X aa H b)->tn i s.heap->J.go i H->
  wpAny (model P w) X.A (pyNext (.ref it)) (λr s1=>∃u,r=some u/\
   wpAny (model P w) X.A (letOwnedTupleGo tg (.ref it) u) (λ_ s2=>∃x H',Inv X aa σ H' s2/\RelV x u/\J.yx i H x H'/\tn (i+1) s2.heap/\∀b∈fp,H' b=none) E s1) E s
 done:∀(X:Cx),X.prog=P->X.w=w->X.K=K->X.calm=true->∀(i:Nat)(aa:List (Addr×Obj))(s:Sz)(σ:St)(H:Hp)(E:SD->Sz->Prop),Inv X aa σ H s->(∀b∈fp,ia X aa H b)->tn i s.heap->J.stop i H->
  wpAny (model P w) X.A (pyNext (.ref it)) (λr s1=>r=none/\Inv X aa σ H s1) E s
 self:∀(A:SE)(i:Nat)(s:Sz)(Q:SD->Sz->Prop)(E:SD->Sz->Prop),tn i s.heap->Q (.ref it) s->wpAny (model P w) A (pyIter (.ref it)) Q E s
abbrev TI:=St->Hp->(It->Hp->Prop)->Prop
def IF(X:Cx)(aa:List (Addr×Obj))(σ:St)(tg:Expr)(R:It->Hp->Prop)(itv:SD)(s2:Sz):Prop:=∃(it:Addr)(fp:List Addr)(tn:Nat->Heap->Prop)(J:It)(H':Hp),itv=.ref it/\Inv X aa σ H' s2/\Turn X.prog X.w X.K tg J fp it tn/\tn 0 s2.heap/\(∀b∈fp,ia X aa H' b)/\R J H'
def PI(X:Cx)(tg iter:Expr)(wi:TI):Prop:=
 ∀(aa:List (Addr×Obj))(s:Sz)(σ:St)(H:Hp)(R:It->Hp->Prop),Inv X aa σ H s->wi σ H R->
  wpAny (model X.prog X.w) X.A (eval iter X.env) (λv s1=>wpAny (model X.prog X.w) X.A (pyIter v) (IF X aa σ tg R) X.xe s1) X.xe s
def qQ(ho:s.heap.get? it=some o)(hc:o.cls=.type n)(hd:o.data=.fields vs)
 (hn:["enumerate","zip","dict_itemiterator","dict_reverseitemiterator","odict_iterator","itertools.zip_longest","itertools.pairwise"].contains n=false) (hQ:Q () s):wpAny M A (letOwnedTupleGo tg (.ref it) u) Q E s:=by
 unfold letOwnedTupleGo;cases tg<;>first
  |exact Os hQ
  |(cases u<;>first
     |exact Os hQ
     |(refine KE (wpAny_load ho ?_)
       rw[hc,hd];show wpAny M A (if(["enumerate","zip","dict_itemiterator","dict_reverseitemiterator","odict_iterator","itertools.zip_longest","itertools.pairwise"].contains n&&vs[0]?==some (rawInt _))=true then _ else _) Q E s;rw[Ox (by intro h;rw[hn,Q6]at h;cases h)];exact Os hQ))
noncomputable def Bq(K:SB)(a:Addr):It:=⟨λi H=>∃xs x,SqL K H a xs/\xs[i]?=some x,λi H x H'=>H'=H/\∀xs,SqL K H a xs->xs[i]?=some x,λi H=>∃xs,SqL K H a xs/\xs.length<=i⟩
noncomputable def LB(K:SB)(a:Addr):It:=⟨λi H=>∃xs x,SqT K H a xs/\xs[i]?=some x,λi H x H'=>H'=H/\∀xs,SqT K H a xs->xs[i]?=some x,λi H=>∃xs,SqT K H a xs/\xs.length<=i⟩
noncomputable def La(lo:Int)(n:Nat):It:=⟨λi _=>i<n,λi H x H'=>H'=H/\x=.int (lo+i),λi _=>n<=i⟩
def nS{K:SB}{tg:Expr}(a it:Addr):Turn P w K tg (Bq K a) [it] it (λi h=>h.IsListIter it a i) where
 mem:=by simp
 obj:=λi h st b hb=>by
  have e:b=it:=by simpa using hb
  subst e;obtain⟨o,e,c,d⟩:=st;exact⟨o,e,λv z=>by rw[d]at z;cases z⟩
 keep:=λi h h' st k=>st.at λo e=>k it (by simp) o e
 item:=by intro X hP hw hK hc i aa s σ H E I hf st hg;subst hP hw hK;obtain⟨xs,x,hq,hx⟩:=hg;obtain⟨its,rv,p,hz⟩:=I.list hq;obtain⟨u,hu,ru⟩:=rv.get hx;obtain⟨f0,f1,f2,f3,f4,f5⟩:=hf it (by simp);refine wpAny_pyNext_list_item st p.isList (x:=u) (by simpa using hu) λh' st' sb=>?_;have I1:Inv X aa σ H {s with heap:=h'}:=I.turned (t':=s.toks) (λb o hb e=>(sb.2 b hb).trans e) f0 f1 f3 f4 f5;obtain⟨o,e,c,d⟩:=id st';exact⟨u,rfl,qQ (s:={s with heap:=h'}) e c d (by decide) ⟨x,H,I1,ru,⟨rfl,λys hy=>by rw[I.Bh hy hq];exact hx⟩,st',λb hb=>(hf b hb).1⟩⟩
 done:=by intro X hP hw hK hc i aa s σ H E I hf st hg;subst hP hw hK;obtain⟨xs,hq,hx⟩:=hg;obtain⟨its,rv,p,hz⟩:=I.list hq;obtain⟨f0,f1,f2,f3,f4,f5⟩:=hf it (by simp);have hl:=rv.length;exact wpAny_pyNext_list_end (I.ok.hd hc) st p.isList (by simp;lia) λh' eb=>⟨rfl,I.turned (t':=s.toks) (λb o hb e=>eb b o hb e) f0 f1 f3 f4 f5⟩
 self:=λ_ _ _ _ _ st h=>wpAny_pyIter_listiter st h
def tQ{K:SB}{tg:Expr}(a it:Addr):Turn P w K tg (LB K a) [it] it (λi h=>h.IsTupleIter it a i) where
 mem:=by simp
 obj:=λi h st b hb=>by
  have e:b=it:=by simpa using hb
  subst e;obtain⟨o,e,c,d⟩:=st;exact⟨o,e,λv z=>by rw[d]at z;cases z⟩
 keep:=λi h h' st k=>st.at λo e=>k it (by simp) o e
 item:=by intro X hP hw hK hc i aa s σ H E I hf st hg;subst hP hw hK;obtain⟨xs,x,hq,hx⟩:=hg;obtain⟨its,rv,p,hz⟩:=I.tuple hq;obtain⟨u,hu,ru⟩:=rv.get hx;obtain⟨f0,f1,f2,f3,f4,f5⟩:=hf it (by simp);refine wpAny_pyNext_tuple_item st (show s.heap.IsTuple a its.toArray from p) (x:=u) (by simpa using hu) λh' st' sb=>?_;have I1:Inv X aa σ H {s with heap:=h'}:=I.turned (t':=s.toks) (λb o hb e=>(sb.2 b hb).trans e) f0 f1 f3 f4 f5;obtain⟨o,e,c,d⟩:=id st';exact⟨u,rfl,qQ (s:={s with heap:=h'}) e c d (by decide) ⟨x,H,I1,ru,⟨rfl,λys hy=>by rw[I.yj hy hq];exact hx⟩,st',λb hb=>(hf b hb).1⟩⟩
 done:=by intro X hP hw hK hc i aa s σ H E I hf st hg;subst hP hw hK;obtain⟨xs,hq,hx⟩:=hg;obtain⟨its,rv,p,hz⟩:=I.tuple hq;obtain⟨f0,f1,f2,f3,f4,f5⟩:=hf it (by simp);have hl:=rv.length;exact wpAny_pyNext_tuple_end (I.ok.hd hc) st (show s.heap.IsTuple a its.toArray from p) (by simp;lia) λh' eb=>⟨rfl,I.turned (t':=s.toks) (λb o hb e=>eb b o hb e) f0 f1 f3 f4 f5⟩
 self:=λ_ _ _ _ _ st h=>wpAny_pyIter_tupleiter st h
def tR{K:SB}{tg:Expr}(it:Addr)(lo:Int)(n:Nat):Turn P w K tg (La lo n) [it] it (λi h=>IsRangeIter h it (lo+(i:Nat)*1) ((n:Int)-(i:Nat)) 1) where
 mem:=by simp
 obj:=λi h st b hb=>by grind
 keep:=λi h h' st k=>k it (by simp) _ st
 item:=by intro X hP hw hK hc i aa s σ H E I hf st hg;subst hP hw hK;obtain⟨f0,f1,f2,f3,f4,f5⟩:=hf it (by simp);have W:=Walks.range (prog:=X.prog) (w:=X.w) (I.ok.hd hc) it lo 1 n;refine W.item i s _ _ hg st λv h' tk hv st' kk=>?_;obtain⟨t,rfl⟩:=hv;have I1:Inv X aa σ H {s with heap:=h',toks:=tk}:=I.turned (λb o hb e=>kk b o (by simpa using hb) e) f0 f1 f3 f4 f5;refine⟨_,rfl,qQ (s:={s with heap:=h',toks:=tk}) (n:="range_iterator") st' rfl rfl (by decide) ⟨.int (lo+i),H,I1,⟨t,?_⟩,⟨rfl,rfl⟩,st',λb hb=>(hf b hb).1⟩⟩;rw[Int.mul_one]
 done:=by intro X hP hw hK hc i aa s σ H E I hf st hg;subst hP hw hK;obtain⟨f0,f1,f2,f3,f4,f5⟩:=hf it (by simp);exact wpAny_pyNext_range_end (I.ok.hd hc) st (by have:n<=i:=hg;lia) λh' eb=>⟨rfl,I.turned (t':=s.toks) (λb o hb e=>eb b o hb e) f0 f1 f3 f4 f5⟩
 self:=λ_ _ _ _ _ st h=>wpAny_pyIter_rangeiter st h
section
def cu(K:SB)(tl:TE):TI:=λσ H R=>tl σ H λx H1=>∃a,x=.ref a/\(∃xs,SqL K H1 a xs)/\R (Bq K a) H1
def bW{tl:TE}(hl:PE X l tl):PI X tg l (cu X.K tl):=by
 intro aa s σ H R I h;refine bQ (hl aa s σ H _ I h) λv s1 ⟨x,H1,I1,r1,q1⟩=>?_;obtain⟨a,e,⟨xs,hq⟩,q⟩:=q1;subst e;cases r1;obtain⟨its,rv,p,hz⟩:=I1.list hq;refine Qr p.isList ?_;refine⟨s1.heap.objs.size,[s1.heap.objs.size],_,_,H1,rfl,I1.kept (t':=s1.toks) λb o e=>Ot _ e,nS a _,⟨_,Oy _ rfl,rfl,rfl⟩,λb hb=>?_,q⟩;have e:b=s1.heap.objs.size:=by simpa using hb
 subst e;exact I1.nM (Ou _) (I1.aF.fresh (Ou _))
def yC{s:Sz}{R:It->Hp->Prop}{E:SD->Sz->Prop}{lo hi:Int}{t u v:Tok}{tk:Nat}(I:Inv X aa σ H s)(h1:-(2^62)<=lo)(h2:lo<2^62)(h3:-(2^62)<=hi)(h4:hi<2^62)
 (q:R (La lo (hi-lo).toNat) H):wX X (pyIter (.ref s.heap.objs.size)) (IF X aa σ tg R) E { s with heap:=s.heap.push { cls:=.type "range",data:=.fields #[.int lo t,.int hi u,.int 1 v] },toks:=tk }:=by
 refine wpAny_pyIter_range (IsRange.new ..) (small_one h1 h2 h3 h4) ?_;have I1:Inv X aa σ H { s with heap:=s.heap.push { cls:=.type "range",data:=.fields #[.int lo t,.int hi u,.int 1 v] },toks:=tk }:=I.kept λb o e=>Ot _ e;refine⟨(s.heap.push { cls:=.type "range",data:=.fields #[.int lo t,.int hi u,.int 1 v] }).objs.size,[(s.heap.push { cls:=.type "range",data:=.fields #[.int lo t,.int hi u,.int 1 v] }).objs.size],_,_,H,rfl,
  I1.kept (t':=tk) λb o e=>Ot _ e,tR _ lo (hi-lo).toNat,?_,λb hb=>?_,q⟩
 .have e1:lo+((0:Nat):Int)*1=lo:=by simp
  have e2:(((hi-lo).toNat:Nat):Int)-((0:Nat):Int)=Builtin.Range.rangeSize lo hi 1:=by rw[rangeSize_one];split<;>lia
  show IsRangeIter _ _ (lo+((0:Nat):Int)*1) ((((hi-lo).toNat:Nat):Int)-((0:Nat):Int)) 1;rw[e1,e2];exact Oy _ rfl
 .have e:b=(s.heap.push { cls:=.type "range",data:=.fields #[.int lo t,.int hi u,.int 1 v] }).objs.size:=by simpa using hb
  subst e;exact I1.nM (Ou _) (I1.aF.fresh (Ou _))
def IG(ta:TA):TI:=λσ H R=>ta σ H λvs H1=>∃j:Int,vs=[.int j]/\-(2^62)<=j/\j<2^62/\R (La 0 j.toNat) H1
def wH{a:Expr}{ta:TA}{p pos:Pos}(hg:Gl X "range") (hm:X.mg "range"=none) (ha:PA X [a] ta) (hs:autoParam (starEach [a] X.env=[(false,eval a X.env)]) SN):PI X tg (.Call (.Name "range" p) [a] [] pos) (IG ta):=by
 intro aa s σ H R I h;refine Call_ (oZ I hg hm boot_range (PyProof.Rows.callWith_type1 (bQ (ha pos aa s σ H _ I h) λus s1 ⟨vs,H1,I1,r1,q1⟩=>?_) hs rfl));obtain⟨j,e,q1,q2,q⟩:=q1;subst e;cases r1 with
 |cons r rr=>cases rr;obtain⟨t,rfl⟩:=r;exact call_range_1 (yC I1 (by lia) (by lia) q1 q2 (by simpa using q))
def dD(wi:TI)(g:TG)(tb:TS):TS:=λD σ H=>wi σ H λJ H1=>∃W:Nat->Nat->St->Hp->Prop,(∃m,W 0 m σ H1)/\∀i m σ H,W i m σ H->
 (J.stop i H/\D.nx σ H)\/(J.go i H/\∃N:St->Hp->Prop,(∀σ' H',N σ' H'->∃m',m'<m/\W (i+1) m' σ' H')/\∀x H',J.yx i H x H'->g x σ H' λσ2 H2=>tb {D with nx:=N,ct:=N,bk:=D.nx} σ2 H2)
noncomputable def lC(fp:List Addr)(h:Heap):List (Addr×Obj):=fp.filterMap λb=>(h.get? b).map λo=>(b,o)
def fL(hb:b∈fp)(e:h.get? b=some o):(b,o)∈lC fp h:=Rr.mpr ⟨b,hb,by rw[e];rfl⟩
def wI(hp:p∈lC fp h):p.1∈fp/\h.get? p.1=some p.2:=by
 obtain⟨b,hb,e⟩:=Rr.mp hp;cases q:h.get? b with
 |none=>rw[q]at e;cases e
 |some o=>rw[q]at e;have e':(b,o)=p:=PC e;subst e';exact⟨hb,q⟩
def Inv.pinned(I:Inv X aa σ H s)(hf:∀b∈fp,ia X aa H b)(ho:∀b∈fp,∃o,s.heap.get? b=some o/\∀v,o.data≠.cell v):Inv X (aa++lC fp s.heap) σ H s:=
 I.wB λp hp=>(OF.mp hp).elim (λz=>I.pin p (ON _ z)) λz=>by
  obtain⟨hb,e⟩:=wI z;obtain⟨f0,f1,f2,_⟩:=hf p.1 hb
  grind
def Inv.jz(I:Inv X (aa++pl) σ H s):Inv X aa σ H s:=I.wB λp hp=>I.pin p (ON _ (OX _ hp))
def b_(hp:PassesOwn (model X.prog X.w) X.A X.env X.xe)(hc:X.calm=true)(hi:PI X tg iter wi)(hg:PG X tg g)(hb:PSs X body tb)
 (hs:autoParam (∀x,foldedSetIterable iter X.env x=pure x) SM):PS X (.For tg iter body [] pos) (dD wi g tb):=by
 intro aa s σ H D I h;refine wpAny_For (bQ (hi aa s σ H _ I h) λv s1 h1=>bQ h1 λitv s2 h2=>?_) hs;obtain⟨it,fp,tn,J,H2,e,I2,T,st2,f2,W,⟨m0,w0⟩,turn⟩:=h2;subst e;have stat:∀{H':Hp},(∀b∈fp,H' b=none)->∀b∈fp,ia X aa H' b:=λhn b hb=>⟨hn b hb,(f2 b hb).2⟩;refine codeAny_forLoop_any (λn s'=>∃i σ' H',Inv X aa σ' H' s'/\tn i s'.heap/\(∀b∈fp,H' b=none)/\W i n σ' H') ?_ m0 ⟨0,σ,H2,I2,st2,λb hb=>(f2 b hb).1,w0⟩;rintro n s3 ⟨i,σ3,H3,I3,st3,fr3,w3⟩;rcases turn i n σ3 H3 w3 with⟨stop,qn⟩|⟨go,N,hN,step⟩
 .refine QD hp (bQ (T.done X rfl rfl rfl hc i aa s3 σ3 H3 X.xe I3 (stat fr3) st3 stop) λr s4 ⟨hr,I4⟩=>?_);subst hr;exact Sa ⟨σ3,H3,I4,qn⟩
 .refine QD hp (bQ (T.item X rfl rfl rfl hc i aa s3 σ3 H3 X.xe I3 (stat fr3) st3 go) λr s4 ⟨u,hr,h4⟩=>?_);subst hr;refine QD hp (bQ h4 λ_ s5 ⟨x,H5,I5,r5,y5,st5,fr5⟩=>?_);have I5':=I5.pinned (stat fr5) (T.obj _ _ st5);refine QD hp (bQ (hg _ s5 σ3 H5 x u _ I5' r5 (step x H5 y5)) λ_ s6 ⟨σ6,H6,I6,q6⟩=>?_);refine QD hp (bQ (hb _ s6 σ6 H6 _ I6 q6) λf s7 q7=>?_);have again:∀{σ7:St}{H7:Hp},Inv X (aa++lC fp s5.heap) σ7 H7 s7->N σ7 H7->∃m,m<n/\∃i σ' H',Inv X aa σ' H' s7/\tn i s7.heap/\(∀b∈fp,H' b=none)/\W i m σ' H':=λ{σ7 H7} I7 n7=>by obtain⟨m',hm,w7⟩:=hN σ7 H7 n7;refine⟨m',hm,i+1,σ7,H7,I7.jz,T.keep _ _ _ st5 λb hb o e=>(I7.pin (b,o) (ON _ (ON _ (fL hb e)))).1,λb hb=>?_,w7⟩;obtain⟨o,e,d⟩:=T.obj _ _ st5 b hb;exact(I7.pin (b,o) (ON _ (ON _ (fL hb e)))).2.1
  cases f with
  |next=>obtain⟨σ7,H7,I7,n7⟩:=q7;exact again I7 n7
  |cont=>obtain⟨σ7,H7,I7,n7⟩:=q7;exact again I7 n7
  |brk=>obtain⟨σ7,H7,I7,q7⟩:=q7;exact⟨σ7,H7,I7.jz,q7⟩
  |ret v=>obtain⟨x7,σ7,H7,I7,r7,q7⟩:=q7;exact⟨x7,σ7,H7,I7.jz,r7,q7⟩
end
def cc{K:SB}{a:Addr}{xs:List V}{g:TG}{tb:TS}{D:Ends}{σ:St}{H:Hp}(Pv:Nat->St->Hp->Prop)(h0:Pv 0 σ H)(hl:∀i σ H,i<=xs.length->Pv i σ H->SqL K H a xs)
 (hs:∀i x σ H,xs[i]?=some x->Pv i σ H->g x σ H λσ2 H2=>tb {D with nx:=Pv (i+1),ct:=Pv (i+1),bk:=D.nx} σ2 H2) (hd:∀σ H,Pv xs.length σ H->D.nx σ H) :
 ∃W:Nat->Nat->St->Hp->Prop,(∃m,W 0 m σ H)/\∀i m σ H,W i m σ H->
  ((Bq K a).stop i H/\D.nx σ H)\/((Bq K a).go i H/\∃N:St->Hp->Prop,(∀σ' H',N σ' H'->∃m',m'<m/\W (i+1) m' σ' H')/\∀x H',(Bq K a).yx i H x H'->g x σ H' λσ2 H2=>tb {D with nx:=N,ct:=N,bk:=D.nx} σ2 H2):=by
 refine⟨λi m σ H=>m=xs.length-i/\i<=xs.length/\Pv i σ H,⟨xs.length,by simp,OR _,h0⟩,?_⟩;rintro i m σ H ⟨rfl,hi,p⟩;have q:=hl i σ H hi p;by_cases hlt:i<xs.length
 .refine .inr ⟨⟨xs,xs[i],q,by simp[hlt]⟩,Pv (i+1),λσ' H' p'=>⟨xs.length-(i+1),by lia,rfl,hlt,p'⟩,λx H' y=>?_⟩;obtain⟨e,y⟩:=y;subst e;exact hs i x σ _ (y xs q) p
 .have e:i=xs.length:=by lia
  subst e;exact .inl ⟨⟨xs,q,Ou _⟩,hd σ H p⟩
abbrev R2:=V->V->Hp->VK->Prop
def OpR(X:Cx)(f:SD->SD->Sem SD)(r:R2):Prop:=
 ∀(aa:List (Addr×Obj))(s:Sz)(σ:St)(H:Hp)(x y:V)(v u:SD)(Q:VK),Inv X aa σ H s->RelV x v->RelV y u->r x y H Q->
  wpAny (model X.prog X.w) X.A (f v u) (EP X aa σ Q) X.xe s
def CallR(X:Cx)(f:SD)(r:List V->Hp->VK->Prop):Prop:=
 ∀(aa:List (Addr×Obj))(s:Sz)(σ:St)(H:Hp)(xs:List V)(us:List SD)(Q:VK),Inv X aa σ H s->Vals xs us->r xs H Q->
  wpAny (model X.prog X.w) X.A (call f us) (EP X aa σ Q) X.xe s
def LC(X:Cx)(r:V->Hp->(Bool->Hp->Prop)->Prop):Prop:=
 ∀(aa:List (Addr×Obj))(s:Sz)(σ:St)(H:Hp)(x:V)(v:SD)(Q:Bool->Hp->Prop),Inv X aa σ H s->RelV x v->r x H Q->
  wpAny (model X.prog X.w) X.A (truthy v) (TP X aa σ Q) X.xe s
noncomputable def nT(r:R2)(ta tb:TE):TE:=λσ H Q=>ta σ H λx H1=>tb σ H1 λy H2=>r x y H2 Q
noncomputable def rI(C:Int->Int->Prop)(g:Int->Int->V):R2:=λx y H Q=>∃i j,x=.int i/\y=.int j/\C i j/\Q (g i j) H
noncomputable def BL(g:Int->Int->V):R2:=λx y H Q=>∃i j,x=.int i/\y=.int j/\Q (g i j) H
section
def Fd(ha:PE X a ta)(hb:PE X b tb){R:V->V->Hp->Prop}(I:Inv X aa σ H s)
 (h:ta σ H λx H1=>tb σ H1 λy H2=>R x y H2) {Q:SD->Sz->Prop} {f:SD->SD->Sem SD}
 (hf:∀v u s2 x y H2,Inv X aa σ H2 s2->RelV x v->RelV y u->R x y H2->wX X (f v u) Q X.xe s2) :
 wX X (eval a X.env) (λv s₁=>wX X (eval b X.env) (λu s₂=>wX X (f v u) Q X.xe s₂) X.xe s₁) X.xe s:=by
 refine bQ (ha aa s σ H _ I h) λv s1 ⟨x,H1,I1,r1,q1⟩=>?_;refine bQ (hb aa s1 σ H1 _ I1 q1) λu s2 ⟨y,H2,I2,r2,q2⟩=>?_;exact hf v u s2 x y H2 I2 r1 r2 q2
def yD{op:Operator}(ho:OpR X (binaryOp op) r)(ha:PE X a ta)(hb:PE X b tb):PE X (.BinOp a op b pos) (nT r ta tb):=by intro aa s σ H Q I h;exact wpAny_BinOp (Fd ha hb I h λv u s2 x y H2 I2 rx ry q=>ho aa s2 σ H2 x y v u Q I2 rx ry q)
def LD{f:SD->SD->Sem SD}{C:Int->Int->Prop}{g:Int->Int->Int}
 (rule:∀(i j:Int)(t u:Tok)(s:Sz)(Q:SD->Sz->Prop)(E:SD->Sz->Prop),C i j->Q (.int (g i j) s.toks) {s with toks:=s.toks+1}->wX X (f (.int i t) (.int j u)) Q E s) :
 OpR X f (rI C λi j=>.int (g i j)):=by
 intro aa s σ H x y v u Q I rx ry h;obtain⟨i,j,rfl,rfl,hc,q⟩:=h;obtain⟨t,rfl⟩:=rx;obtain⟨t',rfl⟩:=ry;exact rule i j t t' s _ _ hc ⟨.int (g i j),H,I.tok _,⟨_,rfl⟩,q⟩
def IH{f:SD->SD->Sem SD}{g:Int->Int->Int}
 (rule:∀(i j:Int)(t u:Tok)(s:Sz)(Q:SD->Sz->Prop)(E:SD->Sz->Prop),Q (.int (g i j) s.toks) {s with toks:=s.toks+1}->wX X (f (.int i t) (.int j u)) Q E s) :
 OpR X f (BL λi j=>.int (g i j)):=by
 intro aa s σ H x y v u Q I rx ry h;obtain⟨i,j,rfl,rfl,q⟩:=h;obtain⟨t,rfl⟩:=rx;obtain⟨t',rfl⟩:=ry;exact rule i j t t' s _ _ ⟨.int (g i j),H,I.tok _,⟨_,rfl⟩,q⟩
def Fe{f:SD->SD->Sem SD}{g:Int->Int->Bool}
 (rule:∀(i j:Int)(t u:Tok)(s:Sz)(Q:SD->Sz->Prop)(E:SD->Sz->Prop),Q (.bool (g i j)) s->wX X (f (.int i t) (.int j u)) Q E s) :
 OpR X f (BL λi j=>.bl (g i j)):=by
 intro aa s σ H x y v u Q I rx ry h;obtain⟨i,j,rfl,rfl,q⟩:=h;obtain⟨t,rfl⟩:=rx;obtain⟨t',rfl⟩:=ry;exact rule i j t t' s _ _ ⟨.bl (g i j),H,I,rfl,q⟩
def LF(i j:Int):Prop:=0<j/\j<1073741824
def CMul(i j:Int):Prop:=(-(2^64)<i/\i<2^64)\/(-(2^64)<j/\j<2^64)
def CMul.ok(h:CMul i j):IntMulOk i j:=by
 rcases h with⟨h1,h2⟩|⟨h1,h2⟩
 .exact .of_left (intBits_le_64 h1 h2)
 .exact .of_right (intBits_le_64 h1 h2)
def op_add:OpR X (binaryOp .Add) (BL λi j=>.int (i+j)):=IH λ_ _ _ _ _ _ _ q=>add_int q
def Ff:OpR X (binaryOp .Sub) (BL λi j=>.int (i-j)):=IH λ_ _ _ _ _ _ _ q=>sub_int q
def Fg:OpR X (binaryOp .Mult) (rI CMul λi j=>.int (i*j)):=LD λ_ _ _ _ _ _ _ hc q=>mul_int q hc.ok
def BM:OpR X (binaryOp .FloorDiv) (rI LF λi j=>.int (i/j)):=LD λi j _ _ _ _ _ hc q=>by have h1:(0:Int)<j:=hc.1;have h2:j<1073741824:=hc.2;exact floordiv_int (by lia) (by rw[Int.fdiv_eq_ediv_of_nonneg i (by lia)];exact q) (.inl (PyProof.noPylong_small (by lia)))
def Fh:OpR X (binaryOp .Mod) (rI (λ_ j=>0<j) λi j=>.int (i%j)):=LD λi j _ _ _ _ _ hc q=>by have h1:(0:Int)<j:=hc;exact mod_int' (by lia) (by rw[Int.fmod_eq_emod_of_nonneg i (by lia)];exact q)
end
noncomputable def LG:V->V->Bool
 |.ba,.ba=>true|.ba,.int _=>true|.int _,.ba=>true|.ba,.bl _=>true|.bl _,.ba=>true|.ba,.str _=>true|.str _,.ba=>true
 |.int _,.int _=>true|.bl _,.bl _=>true|.str _,.str _=>true|.yw _,.yw _=>true
 |.int _,.str _=>true|.str _,.int _=>true|.bl _,.str _=>true|.str _,.bl _=>true
 |_,_=>false
def Lb:R2:=λx y H Q=>LG x y=true/\Q (.bl (decide (x=y))) H
def BN:decide (V.int i=V.int j)=(i==j):=by rw[PL];simp
def Fi:decide (V.bl i=V.bl j)=(i==j):=by rw[PL];simp
def BO:decide (V.str i=V.str j)=(i==j):=by rw[PL];simp
def BP:decide (V.yw i=V.yw j)=(i.toList==j.toList):=by rw[PL];cases i;cases j;simp
section
def cg(I:Inv X aa σ H s)(q:Q (.bl k) H)(e:k=k'):EP X aa σ Q (.bool k') s:=by subst e;exact⟨.bl k,H,I,rfl,q⟩
def D9:OpR X (compareOp .Eq) Lb:=by
 intro aa s σ H x y v u Q I rx ry h;obtain⟨hs,q⟩:=h;cases x with
 |ba=>
  cases rx;cases y with
  |ba=>cases ry;exact PySem.EqNone.eq_none_none (cg I q (by simp))
  |bl j=>cases ry;exact PySem.EqNone.eq_none_bool (cg I q (by simp))
  |int j=>obtain⟨t',rfl⟩:=ry;exact PySem.EqNone.eq_none_int (cg I q (by simp))
  |str j=>obtain⟨t',rfl⟩:=ry;exact PySem.EqNone.eq_none_str (cg I q (by simp))
  |_=>exact absurd (show false=true from hs) OS
 |bl i=>
  cases rx;cases y with
  |ba=>cases ry;exact PySem.EqNone.eq_bool_none (cg I q (by simp))
  |bl j=>cases ry;exact eq_bool (cg I q Fi)
  |str j=>obtain⟨t',rfl⟩:=ry;exact PySem.EqMixed.eq_bool_str (cg I q (by simp))
  |_=>exact absurd (show false=true from hs) OS
 |int i=>
  obtain⟨t,rfl⟩:=rx;cases y with
  |ba=>cases ry;exact PySem.EqNone.eq_int_none (cg I q (by simp))
  |int j=>obtain⟨t',rfl⟩:=ry;exact eq_int (cg I q BN)
  |str j=>obtain⟨t',rfl⟩:=ry;exact PySem.EqMixed.eq_int_str (cg I q (by simp))
  |_=>exact absurd (show false=true from hs) OS
 |str i=>
  obtain⟨t,rfl⟩:=rx;cases y with
  |ba=>cases ry;exact PySem.EqNone.eq_str_none (cg I q (by simp))
  |bl j=>cases ry;exact PySem.EqMixed.eq_str_bool (cg I q (by simp))
  |int j=>obtain⟨t',rfl⟩:=ry;exact PySem.EqMixed.eq_str_int (cg I q (by simp))
  |str j=>obtain⟨t',rfl⟩:=ry;exact eq_str (cg I q BO)
  |_=>exact absurd (show false=true from hs) OS
 |yw i=>
  obtain⟨t,rfl⟩:=rx;cases y with
  |yw j=>obtain⟨t',rfl⟩:=ry;exact PySem.W.eq_bytes (cg I q BP)
  |_=>exact absurd (show false=true from hs) OS
 |_=>cases y<;>exact absurd (show false=true from hs) OS
def II:OpR X (compareOp .Lt) (BL λi j=>.bl (decide (i<j))):=Fe λ_ _ _ _ _ _ _ q=>lt_int q
def IJ:OpR X (compareOp .Gt) (BL λi j=>.bl (decide (j<i))):=Fe λ_ _ _ _ _ _ _ q=>gt_int q
def IK:OpR X (compareOp .GtE) (BL λi j=>.bl (decide (j<=i))):=Fe λ_ _ _ _ _ _ _ q=>ge_int q
def OpR.or(h:OpR X f r)(h':OpR X f r'):OpR X f (λx y H Q=>r x y H Q\/r' x y H Q):=by
 intro aa s σ H x y v u Q I rx ry q;rcases q with q|q
 .exact h aa s σ H x y v u Q I rx ry q
 .exact h' aa s σ H x y v u Q I rx ry q
def dE(b:Expr)(h:autoParam (op≠.In) ab)(h2:autoParam (op≠.NotIn) ab):behindInMarks op b=false:=by
 have e1:(op==CmpOp.In)=false:=by cases op<;>first|rfl|exact absurd rfl h
 have e2:(op==CmpOp.NotIn)=false:=by cases op<;>first|rfl|exact absurd rfl h2
 cases b<;>simp[behindInMarks,e1,e2]
def o6(ho:OpR X (compareOp op) r)(ha:PE X a ta)(hb:PE X b tb)(hm:behindInMarks op b=false):PE X (.Compare a [op] [b] pos) (nT r ta tb):=by intro aa s σ H Q I h;exact wpAny_Compare1 (Fd ha hb I h λv u s2 x y H2 I2 rx ry q=>ho aa s2 σ H2 x y v u Q I2 rx ry q) hm
noncomputable def lD(t:TE):TT:=λσ H Q=>t σ H λx H'=>∃k,x=.bl k/\Q k H'
def g0(ho:OpR X (compareOp op) r)(ha:PE X a ta)(hb:PE X b tb)(hm:behindInMarks op b=false):PT X (.Compare a [op] [b] pos) (lD (nT r ta tb)):=by intro aa s σ H Q I h;refine wpAny_isTrue_Compare1 (bQ (ha aa s σ H _ I h) λv s1 ⟨x,H1,I1,r1,q1⟩=>bQ (hb aa s1 σ H1 _ I1 q1) λu s2 ⟨y,H2,I2,r2,q2⟩=>bQ (ho aa s2 σ H2 x y v u _ I2 r1 r2 q2) λc s3 ⟨z,H3,I3,r3,k,e,q3⟩=>?_) hm;subst e;cases r3;exact Q0 ⟨H3,I3,q3⟩
def BQ(K:SB)(x:V)(H:Hp)(k:Bool):Prop:=
 match x with
 |.ba=>k=false
 |.bl b=>k=b
 |.int i=>k=(i != 0)
 |.str y=>y.length<=sizeLine/\k=((y.length:Int) != 0)
 |.yw y=>y.size<=sizeLine/\k=((y.size:Int) != 0)
 |.ref p=>(∃xs,SqL K H p xs/\k=!xs.isEmpty)\/(∃xs,SqT K H p xs/\k=!xs.isEmpty)\/∃kvs,H p=some (.dK kvs)/\k=!kvs.isEmpty
 |_=>False
def tS{κ:Type}{kvs:List (κ×V)}{vs:List (κ×SD)}(r:KV kvs vs):(!vs.isEmpty)=!kvs.isEmpty:=by cases r<;>rfl
def lE(r:Vals xs its):(!its.toArray.isEmpty)=!xs.isEmpty:=by cases r<;>simp
def jE:(sizeLine:Nat)<2^63:=by rw[Pg];decide
def Fj:LC X (λx H Q=>∃k,BQ X.K x H k/\Q k H):=by
 intro aa s σ H x v Q I rx h;obtain⟨k,e,q⟩:=h;have hl:=jE;have hs:sizeLine=16777216:=Pg;cases x with
 |ba=>cases rx;have e':k=false:=e;subst e';exact truthy_none ⟨H,I,q⟩
 |bl b=>cases rx;have e':k=b:=e;subst e';exact Q0 ⟨H,I,q⟩
 |int i=>obtain⟨t,rfl⟩:=rx;have e':k=(i != 0):=e;subst e';exact PySem.P.truthy_int ⟨H,I,q⟩
 |str y=>obtain⟨t,rfl⟩:=rx;obtain⟨hy,e'⟩ : y.length<=sizeLine/\k=((y.length:Int) != 0):=e;subst e';exact PySem.P.truthy_str (by lia) ⟨H,I.tok _,q⟩
 |yw y=>obtain⟨t,rfl⟩:=rx;obtain⟨hy,e'⟩ : y.size<=sizeLine/\k=((y.size:Int) != 0):=e;subst e';exact PySem.W.truthy_bytes (by lia) ⟨H,I.tok _,q⟩
 |ref p=>
  cases rx;have e':(∃xs,SqL X.K H p xs/\k=!xs.isEmpty)\/(∃xs,SqT X.K H p xs/\k=!xs.isEmpty)\/∃kvs,H p=some (.dK kvs)/\k=!kvs.isEmpty:=e;rcases e' with⟨xs,hx,e'⟩|⟨xs,hx,e'⟩|⟨kvs,hx,e'⟩
  .subst e';obtain⟨its,r,pl,hz⟩:=I.list hx;have bR:=r.length;exact wpAny_truthy_list pl.isList (by simp only[Oz];lia) ⟨H,I.tok _,by rw[lE r];exact q⟩
  .subst e';obtain⟨its,r,pl,hz⟩:=I.tuple hx;have bR:=r.length;exact truthy_tuple pl (by simp only[Oz];lia) ⟨H,I.tok _,by rw[lE r];exact q⟩
  .subst e';obtain⟨hz,hS,vs,r,m⟩ : kvs.length<=sizeLine/\(p==sysModules)=false/\∃vs,KV kvs vs/\s.heap.DictOf (aj X.prog X.w) p vs:=I.aF p _ hx;have bR:kvs.length=vs.length:=QN r;exact wpAny_truthy_dict hS m (by lia) ⟨H,I.tok _,by rw[tS r];exact q⟩
 |_=>exact(show False from e).elim
def qR(ha:PE X a ta)(he:∀whole,isTrue a X.env whole=(do let v <- whole;standAt a.pos;holding [v] (truthy v))) :
 PT X a (λσ H Q=>ta σ H λx H'=>∃k,BQ X.K x H' k/\Q k H'):=by
 intro aa s σ H Q I h;exact isTrue_plain (bQ (ha aa s σ H _ I h) λv s1 ⟨x,H1,I1,r1,q1⟩=>Fj aa s1 σ H1 x v Q I1 r1 q1) (he _)
def tT:OpR X (binaryOp .Add) (λx y H Q=>∃i j,x=.str i/\y=.str j/\i.length+j.length<=sizeLine/\Q (.str (i++j)) H):=by intro aa s σ H x y v u Q I rx ry h;obtain⟨i,j,rfl,rfl,hz,q⟩:=h;obtain⟨t,rfl⟩:=rx;obtain⟨t',rfl⟩:=ry;exact add_str (λt' tk=>⟨.str (i++j),H,I.tok _,⟨_,rfl⟩,q⟩) hz
def db(r:Vals [x] us):∃u,us=[u]/\RelV x u:=by
 cases r with
 |cons r1 r2=>cases r2;exact⟨_,rfl,r1⟩
def lF(r:Vals [x,y] us):∃u w',us=[u,w']/\RelV x u/\RelV y w':=by
 cases r with
 |cons r1 r2=>
  cases r2 with
  |cons r3 r4=>cases r4;exact⟨_,_,rfl,r1,r3⟩
def wJ(hc:X.calm=true):CallR X (.builtin "max") (λxs H Q=>∃i j,xs=[.int i,.int j]/\Q (.int (if j>i then j else i)) H):=by
 intro aa s σ H xs us Q I r h;obtain⟨i,j,rfl,q⟩:=h;obtain⟨u,w',rfl,⟨t,rfl⟩,⟨t',rfl⟩⟩:=lF r;refine max_two_ints (I.ok.hd hc) λh' tk k=>⟨_,H,I.kept k,?_,q⟩;by_cases hj:j>i
 .rw[Ow hj,Ow hj];exact⟨_,rfl⟩
 .rw[Ox hj,Ox hj];exact⟨_,rfl⟩
def wK(hc:X.calm=true):CallR X (.builtin "min") (λxs H Q=>∃i j,xs=[.int i,.int j]/\Q (.int (if j<i then j else i)) H):=by
 intro aa s σ H xs us Q I r h;obtain⟨i,j,rfl,q⟩:=h;obtain⟨u,w',rfl,⟨t,rfl⟩,⟨t',rfl⟩⟩:=lF r;refine min_two_ints (I.ok.hd hc) λh' tk k=>⟨_,H,I.kept k,?_,q⟩;by_cases hj:j<i
 .rw[Ow hj,Ow hj];exact⟨_,rfl⟩
 .rw[Ox hj,Ox hj];exact⟨_,rfl⟩
end
structure vf(h:Heap) (x dx C:Addr) (mA:Str->Option SD):Prop where
 obj:h.get? x=some (instObj C dx)
 ns:h.Ns1 dx mA
 ne:dx≠x
def wL{h:Heap}{mA:Str->Option SD}(n:h.Ns1 dx mA):∃od,h.get? dx=some od/\∀name,lookIn name od=some (mA name):=by
 obtain⟨o,es,ep,ho,hd,hk,_,hm⟩:=n;refine⟨o,ho,λname=>?_⟩;have e:=hm name;unfold nsFind findBy at e;rw[<- Array.find?_toList]at e;unfold lookIn;rw[hd];dsimp only;split
 .rename_i y q;rw[q]at e;exact Qn some e
 .rename_i q;rw[q]at e;have a:es.toList.any (·.refKey)=false:=by rw[List.any_eq_false];intro y hy;obtain⟨z,t,dh⟩:=hk y (Array.mem_toList_iff.mp hy);simp[DictEntry.refKey,dh]
  have a':¬es.toList.any (·.refKey)=true:=by rw[a];exact OS
  rw[Ox a'];exact Qn some e
def vf.look(I:vf h x dx C mA):∃od,PySem.W.InstAt h x (instObj C dx) C (some od)/\∀name,lookIn name od=some (mA name):=
 let ⟨od,ho,hl⟩:=wL I.ns
 ⟨od,⟨I.obj,rfl,rfl,ho⟩,hl⟩
section
variable{prog:SC}{w:World}{A:SE}{E:SD->Sz->Prop}{s:Sz}{K:SB}{x dx C f:Addr}{mA:Str->Option SD}{name:Str}{v:SD}
def BR(X:K.In s.heap)(I:vf s.heap x dx C mA)(hg:plainGet K C name=true)(hh:hasDictIn K C=true)
 (ha:findIn K (.ref C) name=some none) (hv:mA name=some v) (hv':PySem.W.handedIn v=true) (h:Q v {s with toks:=s.toks+1}) :
 wpAny (model prog w) A (getAttr (.ref x) name expr) Q E s:=by
 obtain⟨od,J,hl⟩:=I.look;exact PySem.W.get_value X J (Sb hg).1 (PySem.W.findObj_own hh ha rfl (by rw[hl,hv])) hv' h
def yE(X:K.In s.heap)(I:vf s.heap x dx C mA)(hg:plainGet K C name=true)
 (hf:findIn K (.ref C) name=some (some (.ref f))) (ht:isFn K (.ref f)=true) (hv:mA name=none) (h:Q (.ref f,[.ref x]) s) :
 wpAny (model prog w) A (getMethod (.ref x) name pl) Q E s:=by
 obtain⟨od,J,hl⟩:=I.look;exact PySem.W.method_fn X J (Sb hg).1 (Sb hg).2 hf (Sn.mp ht) (by show(lookIn name od).map (·.isSome)=some false;rw[hl,hv];rfl) h
def BS(X:K.In s.heap)(I:vf s.heap x dx C mA)
 (hs:findIn K (.ref C) "__setattr__"=some (some (.builtin "object.__setattr__"))) (hp:PySem.W.plainOver K C=true) (ht:PySem.W.takerIn K C name=some none) (hh:hasDictIn K C=true)
 (hw:PySem.Within mA ns) (hsz:ns.length<=sizeLine)
 (h:∀h',vf h' x dx C (λy=>if y=name then some v else mA y)->Heap.SameBut dx s.heap h'->Q () {s with heap:=h',toks:=s.toks+2}) :
 wpAny (model prog w) A (setAttr (.ref x) name v) Q E s:=by
 obtain⟨od,J,hl⟩:=I.look;refine PySem.W.set_plain X J hs (PySem.W.osa_open (s:={s with toks:=s.toks+1}) (r:=none) X J hp ht λb=>?_);obtain⟨cd,hc,hd'⟩:=PySem.W.any_some hh;have hx:s.heap.get? x=some ⟨.ref C,some dx,.plain,#[]⟩:=I.obj;refine KE (Os (KE (KE (wpAny_loadPart hx (KE (PySem.W.Looks.here (s:={s with toks:=s.toks+1}) (PySem.W.looks_clsIn X hc) ?_))))));rw[hd'];refine Os (a:=some dx) (KE (Os (KE ?_)));refine wpAny_nsSet1 (s:={s with toks:=s.toks+1}) I.ns λh' hn2 hs2=>?_;obtain⟨oD,esD,epD,hoD,hdD,hcD⟩:=hn2.count (PySem.Within.cons name v hw);refine KE (wpAny_lookBehind hoD (by rw[hdD];exact pastItsLine_dict (O3 hcD (by rw[OV];lia))) ?_);exact Os (h _ ⟨(hs2.2 _ (PV I.ne)).trans I.obj,hn2,I.ne⟩ hs2)
def yF(X:K.In s.heap)(hm:PySem.W.makesIn K C=true)
 (hi:findIn K (.ref C) "__init__"=some (some (.ref f))) (hf:PySem.W.typeIn K (.ref f)=some (.type "function"))
 (h:codeAny (model prog w) (A.under (.builtin "type.__call__" ⟨.ref C::vs,kw⟩)) (.call (.ref f) ⟨.ref (s.heap.objs.size+1)::vs,kw⟩) (PySem.W.InitBack (s.heap.objs.size+1) R)
   {s with heap:=(s.heap.push emptyDict).push (instObj C s.heap.objs.size)}) :
 codeAny (model prog w) A (.call (.ref C) ⟨vs,kw⟩) R s:=by
 obtain⟨hh,g,d,t,os⟩:=s;exact PySem.W.make_core (PySem.W.makes_of X hm) (PySem.W.looks_findIn X hi) (λself=>PySem.W.bind_fn X self hf) (.inl rfl) h
end
noncomputable def gm(f:Str)(v:V):List (Str×V)->List (Str×V)
 |[]=>[(f,v)]
 |(g,x)::r=>if g=f then(g,v)::r else(g,x)::gm f v r
theorem j6(f g:Str)(v:V):∀fs:List (Str×V),(gm f v fs).lookup g=if g=f then some v else fs.lookup g
 |[]=>by
  show List.lookup g [(f,v)]=_
  grind
 |(k,x)::r=>by
  have ih:=j6 f g v r
  grind [gm]
theorem jF(f:Str)(v:V):∀fs:List (Str×V),f∈(gm f v fs).map (·.1)/\∀g,g∈fs.map (·.1)->g∈(gm f v fs).map (·.1)
 |[]=>⟨by simp[gm],λg h=>by simp at h⟩
 |(k,x)::r=>by
  obtain⟨i1,i2⟩:=jF f v r
  grind [gm]
theorem j7(f:Str)(v:V):∀fs:List (Str×V),(gm f v fs).length<=fs.length+1
 |[]=>by simp[gm]
 |(k,x)::r=>by
  have ih:=j7 f v r;rw[show gm f v ((k,x)::r)=(if k=f then(k,v)::r else(k,x)::gm f v r)from rfl];by_cases hk:k=f
  .rw[Ow hk,OV,OV];lia
  .rw[Ox hk,OV,OV];lia
def RelO.some_of(r:RelO (some v) o):∃u,o=some u/\RelV v u:=by
 cases o with
 |none=>exact(show False from r).elim
 |some u=>exact⟨u,rfl,r⟩
def RelO.none_of(r:RelO none o):o=none:=by
 cases o with
 |none=>rfl
 |some u=>exact(show False from r).elim
def wM(r:RelV v u):PySem.W.handedIn u=true:=by
 cases v with
 |ba=>cases(show u=Value.none from r);rfl
 |bl b=>cases(show u=Value.bool b from r);rfl
 |int i=>obtain⟨t,e⟩:=(show ∃t,u=Value.int i t from r);cases e;rfl
 |str x=>obtain⟨t,e⟩:=(show ∃t,u=Value.str x t from r);cases e;rfl
 |yw b=>obtain⟨t,e⟩:=(show ∃t,u=Value.bytes b t from r);cases e;rfl
 |HV b=>obtain⟨t,e⟩:=(show ∃t,u=Value.float b t from r);cases e;rfl
 |ref a=>cases(show u=Value.ref a from r);rfl
 |ty n=>cases(show u=Value.type n from r);rfl
section
def kQ(aF:HOk P w H h)(e:H a=some (.ins C dx fs)):∃mA,vf h a dx C mA/\(∀f,RelO (fs.lookup f) (mA f))/\PySem.Within mA (fs.map (·.1))/\fs.length<=1000/\H dx=some (.own a):=by obtain⟨d,z,ne,ob,mA,n,r,q⟩:=(show ObjOk P w H h a (.ins C dx fs)from aF a _ e);exact⟨mA,⟨ob,n,ne⟩,r,q,z,d⟩
end
structure tJ(K:SB) (C:Addr):Prop where
 pg:plainGet K C Str.empty=true
 hd:hasDictIn K C=true
 po:PySem.W.plainOver K C=true
 sa:findIn K (.ref C) "__setattr__"=some (some (.builtin "object.__setattr__"))
theorem tJ.get{K:SB}(c:tJ K C)(f:Str):plainGet K C f=true:=c.pg
def NoAttr(K:SB)(C:Addr)(f:Str):Prop:=findIn K (.ref C) f=some none
def NoAttr.taker{K:SB}(n:NoAttr K C f):PySem.W.takerIn K C f=some none:=by unfold PySem.W.takerIn;rw[show findIn K (.ref C) f=some none from n];rfl
structure Meth(K:SB) (C:Addr) (m:Str) (f:Addr):Prop where
 at_:findIn K (.ref C) m=some (some (.ref f))
 fn:isFn K (.ref f)=true
 kp:keepIn K (.ref f)=true
section
def tU(I:Inv X aa σ H s)(e:H a=some (.ins C dx fs))(c:tJ X.K C)(n:NoAttr X.K C f)(l:fs.lookup f=some v)
 (h:∀u s',Inv X aa σ H s'->RelV v u->Q u s'):wpAny (model X.prog X.w) A (getAttr (.ref a) f b) Q E s:=by
 obtain⟨mA,O,r,_,_,_⟩:=kQ I.aF e;obtain⟨u,hu,ru⟩:=RelO.some_of (v:=v) (o:=mA f) (by rw[<- l];exact r f);exact BR I.kq O (c.get f) c.hd n hu (wM ru) (h u _ (I.tok _) ru)
def lG(I:Inv X aa σ H s)(e:H a=some (.ins C dx fs))(c:tJ X.K C)(k:Meth X.K C m g)(l:fs.lookup m=none)
 (h:Q (.ref g,[.ref a]) s):wpAny (model X.prog X.w) A (getMethod (.ref a) m pl) Q E s:=by
 obtain⟨mA,O,r,_,_,_⟩:=kQ I.aF e;have hn:mA m=none:=RelO.none_of (by rw[<- l];exact r m);exact yE I.kq O (c.get m) k.at_ k.fn hn h
def tV(I:Inv X aa σ H s)(e:H a=some (.ins C dx fs))(c:tJ X.K C)(n:NoAttr X.K C f)(hl:fs.length<1000)(ry:RelV y u)
 (h:∀s',Inv X aa σ (upd H a (.ins C dx (gm f y fs))) s'->Q () s'):wpAny (model X.prog X.w) A (setAttr (.ref a) f u) Q E s:=by
 obtain⟨mA,O,r,wi,_,ho⟩:=kQ I.aF e;have hz:(fs.map (·.1)).length<=sizeLine:=by rw[Ov,Pg];lia
 refine BS I.kq O c.sa c.po n.taker c.hd wi hz λh' O' sb=>h _ ?_;have hd:∃o,h'.get? dx=some o:=let ⟨o,_,_,e',_⟩:=O'.ns;⟨o,e'⟩;refine I.write (x:=a) (e:=dx) (by rw[e];exact True.intro) (.inr ho) (λb q hb z=>(sb.2 b hb).trans z) hd ?_;refine⟨by rw[ah O.ne];exact ho,?_,O.ne,O'.obj,_,O'.ns,λg=>?_,λg hg=>?_⟩
 .have:=j7 f y fs;lia
 .grind [RelO,gm,j6]
 .by_cases q:g=f
  .rw[q];exact(jF f y fs).1
  .refine(jF f y fs).2 g (wi g λz=>hg ?_);show(if g=f then some u else mA g)=none;rw[Ox q];exact z
def Inv.made(I:Inv X aa σ H s):Inv X aa σ (upd (upd H s.heap.objs.size (.own (s.heap.objs.size+1))) (s.heap.objs.size+1) (.ins C s.heap.objs.size []))
 {s with heap:=(s.heap.push emptyDict).push (instObj C s.heap.objs.size)}:=by
 have e1:(s.heap.push emptyDict).get? s.heap.objs.size=some emptyDict:=Oy s.heap rfl;have e2:((s.heap.push emptyDict).push (instObj C s.heap.objs.size)).get? (s.heap.objs.size+1)=some (instObj C s.heap.objs.size):=by
  have:=Oy (s.heap.push emptyDict) (o:=instObj C s.heap.objs.size) rfl
  rwa [Q7]at this
 have e3:(s.heap.push emptyDict).Ns s.heap.objs.size (λ_=>none):=⟨emptyDict,#[],_,e1,rfl,(λe he=>absurd he (by simp)),λ_=>rfl⟩;have I1:=I.laid (a:=s.heap.objs.size) (o:=.own (s.heap.objs.size+1)) (h':=s.heap.push emptyDict) (t':=s.toks) (λb u q=>Ot _ q) (Ou _) ⟨_,e1⟩;refine I1.laid (a:=s.heap.objs.size+1) (o:=.ins C s.heap.objs.size []) (t':=s.toks) (λb u q=>Ot _ q) (Nat.le_of_eq (Q7 _ _)) ?_;have ne:s.heap.objs.size≠s.heap.objs.size+1:=OJ (Rf _);refine⟨by rw[ah ne,ac],OR _,ne,e2,λ_=>none,(Heap.Ns1.of_empty e3).at λo q=>Ot _ q,λ_=>True.intro,λy hy=>absurd rfl hy⟩
def BU(hb:attributeBase e f env (eval e env)=eval e env)
 (h:wpAny (model prog w) A (eval e env) (λo s₁=>wpAny (model prog w) A (getAttr o f true) Q E s₁) E s):wpAny (model prog w) A (eval (.Attribute e f pos) env) Q E s:=
 Attribute_any_ h (by rw[arm_eval_Attribute,hb])
end
def fm(K:SB)(ta:TE)(f:Str):TE:=λσ H Q=>ta σ H λx H1=>∃a C dx fs v,x=.ref a/\H1 a=some (.ins C dx fs)/\tJ K C/\NoAttr K C f/\fs.lookup f=some v/\Q v H1
def qS(K:SB)(ta tv:TE)(f:Str):TS:=λD σ H=>tv σ H λy H1=>ta σ H1 λx H2=>∃a C dx fs,x=.ref a/\H2 a=some (.ins C dx fs)/\tJ K C/\NoAttr K C f/\fs.length<1000/\
 D.nx σ (upd H2 a (.ins C dx (gm f y fs)))
section
def bF(he:PE X e ta)(hb:attributeBase e f X.env (eval e X.env)=eval e X.env):PE X (.Attribute e f pos) (fm X.K ta f):=by intro aa s σ H Q I h;refine BU hb (bQ (he aa s σ H _ I h) λu s1 z=>?_);obtain⟨x,H1,I1,rx,a,C,dx,fs,v,rfl,ea,c,n,l,q⟩:=z;obtain rfl:u=Value.ref a:=rx;exact tU I1 ea c n l λu' s2 I2 ru=>⟨v,H1,I2,ru,q⟩
def iB(ha:PE X o ta)(hv:PE X value tv)(hs:swapsWith value (some (.Attribute o f pos')) pos.line X.env=pure false):PS X (.Assign [.Attribute o f pos'] value pos) (qS X.K ta tv f):=by intro aa s σ H D I h;refine plainObj_wpAny_Assign_Attribute (bQ (hv aa s σ H _ I h) λu s1 ⟨y,H1,I1,ry,q⟩=>bQ (ha aa s1 σ H1 _ I1 q) λov s2 z=>?_) hs;obtain⟨x,H2,I2,rx,a,C,dx,fs,rfl,ea,c,n,l,q2⟩:=z;obtain rfl:ov=Value.ref a:=rx;exact tV I2 ea c n l ry λs3 I3=>⟨σ,_,I3,q2⟩
end
section
inductive jX(K:SB) (H:Hp):V->SD->Prop where
 |ba:jX K H .ba (.type "NoneType")
 |bl (x:Bool):jX K H (.bl x) (.type "bool")
 |int (i:Int):jX K H (.int i) (.type "int")
 |str (x:Str):jX K H (.str x) (.type "str")
 |HV (x:UInt64):jX K H (.HV x) (.type "float")
 |lst {a:Addr} {xs:List V} (e:H a=some (.lst xs)):jX K H (.ref a) (.type "list")
 |aV {a:Addr} {o:Obj} {xs:List V} (e:H a=some (.aV o (.lst xs))):jX K H (.ref a) (.type "list")
 |tup {a:Addr} {xs:List V} (e:H a=some (.tup xs)):jX K H (.ref a) (.type "tuple")
 |dK {a:Addr} {kvs:List (aG×V)} (e:H a=some (.dK kvs)):jX K H (.ref a) (.type "dict")
 |dT {a:Addr} {kvs:List (List aG×V)} (e:H a=some (.dT kvs)):jX K H (.ref a) (.type "dict")
 |ins {a C dx:Addr} {fs:List (Str×V)} (e:H a=some (.ins C dx fs)) (cl:tJ K C) (ha:findIn K (.ref C) "__class__"=some (some (.builtin "object.__class__")))
  (hn:PySem.W.specialIn K (.builtin "object.__class__") "__get__"=some (some (.builtin "getset_descriptor.__get__"))) (htk:PySem.W.takesIn K (.builtin "object.__class__")=some true)
  (hm:PySem.W.mroIn K C (.type "object")=some true):jX K H (.ref a) (.ref C)
def wN(I:Inv X aa σ H s)(rx:RelV x u)(ty:jX X.K H x t)(e:PySem.W.kitOne X.K t c=some b)(h:∀tk,Q (.bool b) {s with toks:=tk}) :
 wpAny (model X.prog X.w) A (call (.builtin "isinstance") [u,c]) Q E s:=by
 cases ty with
 |ba=>cases(show u=Value.none from rx);exact PM PySem.W.kitx_none I.kq True.intro e (λz=>nomatch z) h
 |bl y=>cases(show u=Value.bool y from rx);exact PM PySem.W.kitx_bool I.kq True.intro e (λz=>nomatch z) h
 |int i=>obtain⟨t,q⟩:=(show ∃t,u=Value.int i t from rx);cases q;exact PM PySem.W.kitx_int I.kq True.intro e (λz=>nomatch z) h
 |str y=>obtain⟨t,q⟩:=(show ∃t,u=Value.str y t from rx);cases q;exact PM PySem.W.kitx_str I.kq True.intro e (λz=>nomatch z) h
 |HV y=>obtain⟨t,q⟩:=(show ∃t,u=Value.float y t from rx);cases q;exact PM PySem.W.kitx_float I.kq True.intro e (λz=>nomatch z) h
 |@lst a xs ea=>cases(show u=Value.ref a from rx);obtain⟨_,_,n,_,h1⟩:=(show ObjOk X.prog X.w H s.heap a (.lst xs)from I.aF a _ ea);exact PM PySem.W.kitx_list I.kq ⟨_,h1,rfl⟩ e (λz=>nomatch z) h
 |@aV a ob xs ea=>cases(show u=Value.ref a from rx);obtain⟨_,_,_,n,_,h1⟩:=(show ObjOk X.prog X.w H s.heap a (.aV ob (.lst xs))from I.aF a _ ea);exact PM PySem.W.kitx_list I.kq ⟨_,h1,rfl⟩ e (λz=>nomatch z) h
 |@tup a xs ea=>cases(show u=Value.ref a from rx);obtain⟨_,_,_,p⟩:=(show ObjOk X.prog X.w H s.heap a (.tup xs)from I.aF a _ ea);obtain⟨o,h1,h2,_⟩:=p;exact PM PySem.W.kitx_tuple I.kq ⟨o,h1,h2⟩ e (λz=>nomatch z) h
 |@dK a kvs ea=>cases(show u=Value.ref a from rx);obtain⟨_,_,vs,_,p⟩:=(show ObjOk X.prog X.w H s.heap a (.dK kvs)from I.aF a _ ea);obtain⟨o,es,ep,h1,h2,_⟩:=p;exact PM Sq I.kq ⟨o,h1,h2.1⟩ e (λz=>nomatch z) h
 |@dT a kvs ea=>cases(show u=Value.ref a from rx);obtain⟨_,_,xs,_,o,es,ep,h1,h2,_⟩:=(show ObjOk X.prog X.w H s.heap a (.dT kvs)from I.aF a _ ea);exact PM Sq I.kq ⟨o,h1,h2.1⟩ e (λz=>nomatch z) h
 |@ins a C dx fs ea cl ha hn htk hm=>cases(show u=Value.ref a from rx);obtain⟨mA,O,_⟩:=kQ I.aF ea;obtain⟨od,J,_⟩:=O.look;exact PM (PySem.W.kitx_own (cl.get _) cl.hd ha hn htk hm) I.kq J e (λz=>nomatch z) h
end
structure cI(k:Nat) (A:SE):Prop where
 hd:A.handled=none
 dp:A.depth+3*k+5<recursionLimit
 un:A.units+16*k+200<cLine
def cI.mono(r:cI k A)(h:j<=k):cI j A:=⟨r.hd,by have:=r.dp;lia,by have:=r.un;lia⟩
theorem cI.deeper(r:cI (k+1) A)(env:Env):cI k (A.deeper env):=⟨r.hd,by have:=r.dp;show A.depth+1+3*k+5<_;lia,by have:=r.un;show A.units+3+16*k+200<_;lia⟩
def tW{A:SE}{C:Addr}:(A.under (.builtin "type.__call__" ⟨.ref C::us,kw⟩)).depth=A.depth+1:=by
 first|rfl|simp[Around.under,Code.weight,Code.isCreation,Code.isGuard,Code.isCaller,Code.frames,Code.isFrame,guardIds]
def tX{A:SE}{C:Addr}:(A.under (.builtin "type.__call__" ⟨.ref C::us,kw⟩)).units=A.units+1:=by
 first|rfl|simp[Around.under,Code.cUnits,Code.frames,Code.isFrame]
def cI.make(r:cI (k+1) A) (C:Addr) (us:List SD) (kw:List (Str×SD)):cI k (A.under (.builtin "type.__call__" ⟨.ref C::us,kw⟩)):=⟨r.hd,by have:=r.dp;rw[tW];lia,by have:=r.un;rw[tX];lia⟩
theorem cI.depth(r:cI k A):A.depth<recursionLimit:=by have:=r.dp;lia
theorem cI.units(r:cI k A):A.units+64<cLine:=by have:=r.un;lia
noncomputable def tNil:TA:=λ_ H Q=>Q [] H
noncomputable def tCons(ta:TE)(tr:TA):TA:=λσ H Q=>ta σ H λx H1=>tr σ H1 λxs H2=>Q (x::xs) H2
section
def ax:PA X [] tNil:=λ_ _ _ _ H Q I h=>Calls.spliced_nil ⟨[],H,I,.nil,h⟩
def af(ha:PE X e te)(hr:PA X es t)(hs:autoParam (starEach (e::es) X.env=(false,eval e X.env)::starEach es X.env) SN):PA X (e::es) (tCons te t):=by intro pos aa s σ H Q I h;rw[hs];show wpAny _ _ (spliced ((false,eval e X.env)::backTo pos (starEach es X.env))) _ _ s;refine Calls.spliced_cons (bQ (ha aa s σ H _ I h) λu s1 ⟨x,H1,I1,r1,q1⟩=>?_);exact bQ (hr pos aa s1 σ H1 _ I1 q1) λus s2 ⟨xs,H2,I2,r2,q2⟩=>⟨x::xs,H2,I2,.cons r1 r2,q2⟩
def ib(t:TA):TE:=λσ H Q=>t σ H λxs H1=>xs.length<=sizeLine/\∀p,H1 p=none->Q (.ref p) (upd H1 p (.tup xs))
def nq(t:TA):TE:=λσ H Q=>t σ H λxs H1=>xs.length<=sizeLine/\∀p,H1 p=none->Q (.ref p) (upd H1 p (.lst xs))
def eV{x1}(h:PA X es t):PE X (.Tuple es x1 pos) (ib t):=by intro aa s σ H Q I hq;refine wpAny_Tuple_spliced (bQ (h pos aa s σ H _ I hq) λus s1 ⟨xs,H1,I1,r,z,q⟩=>⟨by rw[<- r.length];exact z,?_⟩);have hf:H1 s1.heap.objs.size=none:=I1.aF.fresh (Ou _);refine⟨.ref s1.heap.objs.size,upd H1 s1.heap.objs.size (.tup xs),I1.laid (t':=s1.toks) (λb u e=>Ot _ e) (Ou _) ?_,rfl,q _ hf⟩;exact⟨z,us,r,⟨_,Oy _ rfl,rfl,_,rfl⟩⟩
def gu(h:PA X es t):PE X (.List es pos) (nq t):=by intro aa s σ H Q I hq;refine wpAny_List_spliced (bQ (h pos aa s σ H _ I hq) λus s1 ⟨xs,H1,I1,r,z,q⟩=>⟨by rw[<- r.length];exact z,?_⟩);have hf:H1 s1.heap.objs.size=none:=I1.aF.fresh (Ou _);refine⟨.ref s1.heap.objs.size,upd H1 s1.heap.objs.size (.lst xs),I1.laid (t':=s1.toks) (λb u e=>Ot _ e) (Ou _) ?_,rfl,q _ hf⟩;exact⟨z,us,0,r,Oy _ rfl⟩
end
abbrev Sp:=List V->Hp->VK->XK->Prop
abbrev Br:=List Env->Hp->Sz->XK->SD->Sz->Prop
structure ve(P:SC) (w:World) (K:SB) (mg:Str->Option SD) (base:Heap) (A:SE) (outer:List Env) (s:Sz) (H:Hp):Prop where
 frames:A.frames=some outer
 mod:Mod K mg base
 bs:∀b o,base.get? b=some o->s.heap.get? b=some o/\H b=none
 BA:base.objs.size<=s.heap.objs.size
 j5:s.heap.FunFrames base outer
 EO:∀b∈yz outer,H b=none
 aF:HOk P w H s.heap
 bare:AllBare s.gens
 kt:IB K H
def CE(outer:List Env)(P:SC)(w:World)(H:Hp)(s:Sz)(Q:VK)(u:SD)(s':Sz):Prop:=∃v H',s'.os=s.os/\AllBare s'.gens/\Un (yz outer) [] H H' s.heap s'.heap/\HOk P w H' s'.heap/\RelV v u/\Q v H'
def CR(CX:Br)(outer:List Env)(P:SC)(w:World)(H:Hp)(s:Sz)(Q:VK)(E:XK)(r:Result)(s':Sz):Prop:=
 match r with
 |.ok (.ret u)=>CE outer P w H s Q u s'
 |.ok _=>False
 |.error e=>CX outer H s E e s'
structure bu(P:SC) (w:World) (K:SB) (mg:Str->Option SD) (base:Heap) (CX:Br) (k:Nat) (f:Addr) (fd:FuncData) (ps:List Str) (sp:Sp):Prop where
 len:∀vs H Q E,sp vs H Q E->vs.length=ps.length
 run:∀(A:SE)(outer:List Env)(s:Sz)(H:Hp)(args:Args)(us:List SD)(vs:List V)(Q:VK)(E:XK),cI k A->ve P w K mg base A outer s H->BindsTo s fd args (ps.zip us)->Vals vs us->sp vs H Q E->
  codeAny (model P w) A (.call (.ref f) args) (CR CX outer P w H s Q E) s
def bu.imp{P:SC}{w:World}{K:SB}{mg:Str->Option SD}{base:Heap}{CX:Br}(F:bu P w K mg base CX k f fd ps sp)
 (h:∀vs H Q E,sp' vs H Q E->sp vs H Q E):bu P w K mg base CX k f fd ps sp':=
 ⟨λvs H Q E q=>F.len vs H Q E (h _ _ _ _ q),λA outer s H args us vs Q E hr he hb hv hs=>F.run A outer s H args us vs Q E hr he hb hv (h _ _ _ _ hs)⟩
def ve.make{P:SC}{w:World}{K:SB}{mg:Str->Option SD}{base:Heap}(e:ve P w K mg base A outer s H)(C:Addr)(us:List SD)(kw:List (Str×SD)) :
 ve P w K mg base (A.under (.builtin "type.__call__" ⟨.ref C::us,kw⟩)) outer s H:=⟨by first|exact e.frames|(simpa[Around.under,Code.envs,Code.isFrame,pushEnvs]using e.frames),e.mod,e.bs,e.BA,e.j5,e.EO,e.aF,e.bare,e.kt⟩
section
def Inv.K7(I:Inv X aa σ H s):ve X.prog X.w X.K X.mg X.base X.A X.stack s H:=⟨I.ok.frames,I.ok.mod,I.bs,O3 I.ok.BA I.sz,I.stack,I.wD,I.aF,I.bare,I.kt⟩
def Inv.after(I:Inv X aa σ H s)(h:CE X.stack X.prog X.w H s Q u s'):EP X aa σ Q u s':=by obtain⟨v,H',os,bare,un,aF,r,q⟩:=h;obtain⟨hh,g,d,t,os'⟩:=s';obtain rfl:os'=s.os:=os;exact⟨v,H',I.call (h':=hh) (g':=g) (d':=d) (t':=t) (ch:=[]) un aF bare (λb z=>absurd z (by simp)),r,q⟩
end
noncomputable def ig(sp:Sp)(dvs:List V)(E:XK)(t:TA):TE:=λσ H Q=>t σ H λvs H1=>sp (vs++dvs) H1 Q E
def dF(C:Addr)(m:Str)(sp:Sp)(dvs:List V)(E:XK)(ta:TE)(t:TA):TE:=λσ H Q=>ta σ H λx H1=>∃a dx fs,x=.ref a/\H1 a=some (.ins C dx fs)/\fs.lookup m=none/\
 t σ H1 λvs H2=>sp (x::(vs++dvs)) H2 Q E
def D_(C:Addr)(sp:Sp)(dvs:List V)(E:XK)(t:TA):TE:=λσ H Q=>t σ H λvs H1=>∀x dx,H1 x=none->H1 dx=none->dx≠x->
 sp (.ref x::(vs++dvs)) (upd (upd H1 dx (.own x)) x (.ins C dx [])) (λv H2=>v=.ba/\Q (.ref x) H2) E
def Binds(K:SB)(fd:FuncData)(ps:List Str)(ds:List SD):Prop:=∀(s:Sz)(us:List SD),K.In s.heap->(us++ds).length=ps.length->BindsTo s fd ⟨us,[]⟩ (ps.zip (us++ds))
def Binds.all{K:SB}(h:∀us:List SD,us.length=ps.length->bindArgs fd ⟨us,[]⟩=pure (ps.zip us)):Binds K fd ps []:=λs us _ hl=>by rw[Qj]at hl ⊢;exact .of_eq (h us hl)
def eY(CX:Br)(X:Cx)(E:XK):Prop:=∀(aa:List (Addr×Obj))(σ:St)(H:Hp)(s:Sz)(e:SD)(s':Sz),Inv X aa σ H s->CX X.stack H s E e s'->X.xe e s'
section
def tY(F:bu X.prog X.w X.K X.mg X.base CX k f fd ps sp)(hr:cI k X.A)(hb:Binds X.K fd ps ds)(hd:Vals dvs ds)(hx:eY CX X E)
 (I:Inv X aa σ H s) (r:Vals vs us) (h:sp (vs++dvs) H Q E):wX X (call (.ref f) us) (EP X aa σ Q) X.xe s:=by
 have r2:Vals (vs++dvs) (us++ds):=r.append hd;have hl:(us++ds).length=ps.length:=by rw[<- r2.length];exact F.len _ _ _ _ h
 refine wpAny_call (RT (F.run X.A X.stack s H ⟨us,[]⟩ (us++ds) (vs++dvs) Q E hr I.K7 (hb s us I.kq hl) r2 h) λr s' hq=>?_);cases r with
 |error e=>exact hx aa σ H s e s' I hq
 |ok fl=>
  cases fl with
  |ret u=>exact I.after hq
  |next=>exact False.elim hq
  |brk=>exact False.elim hq
  |cont=>exact False.elim hq
def d6(F:bu X.prog X.w X.K X.mg X.base CX k f fd ps sp)(hr:cI k X.A)(hg:Gl X x)(hm:X.mg x=some (.ref f))(hk:keepIn X.K (.ref f)=true)(hb:Binds X.K fd ps ds)(hd:Vals dvs ds)(hx:eY CX X E)
 (ha:PA X (e::es) t) (hdb:autoParam (dB x) ab) (he:autoParam (sE X e es) SN) (hpl:autoParam (bT X pos es) SN) :
 PE X (.Call (.Name x p) (e::es) [] pos) (ig sp dvs E t):=by
 intro aa s σ H Q I h;refine Rt (vi I hg hm ?_ hdb);refine Sh (h₀:=X.base) I.ok.mod.K3 hk (bQ (ha pos aa s σ H _ I h) λus s1 ⟨vs,H1,I1,r,q⟩=>⟨I1.kq,?_⟩) he hpl;exact tY F hr hb hd hx I1 r q
def di(he:PE X o ta)(c:tJ X.K C)(hm:Meth X.K C m f)(F:bu X.prog X.w X.K X.mg X.base CX k f fd ps sp)(hr:cI k X.A)(hb:Binds X.K fd ps ds)(hd:Vals dvs ds)(hx:eY CX X E)(ha:PA X (e::es) t)
 (hst:autoParam (starEach (e::es) X.env=(false,eval e X.env)::starEach es X.env) SN) (hpl:autoParam (bT X pos es) SN)
 (ht:autoParam (eval (.Call (.Attribute o m apos) (e::es) [] pos) X.env=(do
   let ov <- eval o X.env
   standAt apos.atName
   let (f,first) <- holding [ov] (getMethod ov m pl)
   callWith pos f first (backTo pos (starEach (e::es) X.env)) (backToKw pos (keywordEach [] X.env)))) SN) :
 PE X (.Call (.Attribute o m apos) (e::es) [] pos) (dF C m sp dvs E ta t):=by
 intro aa s σ H Q I h;refine PySem.W.methodCall_KW (pl:=pl) (bQ (he aa s σ H _ I h) λu s1 z=>?_) ht;obtain⟨x,H1,I1,rx,a,dx,fs,rfl,ea,l,q⟩:=z;obtain rfl:u=Value.ref a:=rx;refine lG I1 ea c hm l ?_;refine Sh (first:=[.ref a]) (h₀:=X.base) I.ok.mod.K3 hm.kp (bQ (ha pos aa s1 σ H1 _ I1 q) λus s2 ⟨vs,H2,I2,r,q2⟩=>⟨I2.kq,?_⟩) hst hpl;exact tY (us:=.ref a::us) (vs:=.ref a::vs) F hr hb hd hx I2 (.cons rfl r) q2
def qT(he:PE X o ta)(c:tJ X.K C)(hm:Meth X.K C m f)(F:bu X.prog X.w X.K X.mg X.base CX k f fd ps sp)(hr:cI k X.A)(hb:Binds X.K fd ps ds)(hd:Vals dvs ds)(hx:eY CX X E)
 (ht:autoParam (eval (.Call (.Attribute o m apos) [] [] pos) X.env=(do
   let ov <- eval o X.env
   standAt apos.atName
   let (f,first) <- holding [ov] (getMethod ov m pl)
   callWith pos f first (backTo pos (starEach [] X.env)) (backToKw pos (keywordEach [] X.env)))) SN) :
 PE X (.Call (.Attribute o m apos) [] [] pos) (dF C m sp dvs E ta tNil):=by
 intro aa s σ H Q I h;refine PySem.W.methodCall_KW (pl:=pl) (bQ (he aa s σ H _ I h) λu s1 z=>?_) ht;obtain⟨x,H1,I1,rx,a,dx,fs,rfl,ea,l,q⟩:=z;obtain rfl:u=Value.ref a:=rx;refine lG I1 ea c hm l ?_;exact PySem.W.callWith_K0 (first:=[.ref a]) I1.kq hm.kp (tY (us:=[.ref a]) (vs:=[.ref a]) F hr hb hd hx I1 (.cons rfl .nil) q)
structure Mk(K:SB) (C f:Addr):Prop where
 makes:PySem.W.makesIn K C=true
 init:findIn K (.ref C) "__init__"=some (some (.ref f))
 fn:isFn K (.ref f)=true
 kp:keepIn K (.ref C)=true
def yG(M:Mk X.K C f)(F:bu X.prog X.w X.K X.mg X.base CX k f fd ps sp)(hr:cI (k+1) X.A)(hb:Binds X.K fd ps ds)(hd:Vals dvs ds)
 (hx:eY CX X E) (I:Inv X aa σ H s) (r:Vals vs us)
 (h:∀x dx,H x=none->H dx=none->dx≠x->sp (.ref x::(vs++dvs)) (upd (upd H dx (.own x)) x (.ins C dx [])) (λv H2=>v=.ba/\Q (.ref x) H2) E) :
 wX X (call (.ref C) us) (EP X aa σ Q) X.xe s:=by
 have hq:=h (s.heap.objs.size+1) s.heap.objs.size (I.aF.fresh (Nat.le_succ _)) (I.aF.fresh (Ou _)) (OJ (Rf _));have I2:=Inv.made (C:=C) I;have r2:Vals (V.ref (s.heap.objs.size+1)::(vs++dvs)) (Value.ref (s.heap.objs.size+1)::(us++ds)):=.cons rfl (r.append hd);have hl:(Value.ref (s.heap.objs.size+1)::us++ds).length=ps.length:=by have e:=r2.length;rw[F.len _ _ _ _ hq]at e;exact e.symm
 refine wpAny_call (yF (f:=f) I.kq M.makes M.init (Sn.mp M.fn) (RT (F.run _ X.stack _ _ ⟨Value.ref (s.heap.objs.size+1)::us,[]⟩ (Value.ref (s.heap.objs.size+1)::(us++ds)) _ _ E (hr.make C us [])
  (I2.K7.make C us []) (hb _ (Value.ref (s.heap.objs.size+1)::us) I2.kq hl) r2 hq) λr s' hq'=>?_))
 cases r with
 |error e=>exact hx aa σ _ _ e s' I2 hq'
 |ok fl=>
  cases fl with
  |ret u=>obtain⟨v,H',I3,rv,ev,q3⟩:=I2.after hq';subst ev;exact⟨rv,⟨V.ref (s.heap.objs.size+1),H',I3,rfl,q3⟩⟩
  |next=>exact False.elim hq'
  |brk=>exact False.elim hq'
  |cont=>exact False.elim hq'
def BV(M:Mk X.K C f)(F:bu X.prog X.w X.K X.mg X.base CX k f fd ps sp)(hr:cI (k+1) X.A)(hg:Gl X x)(hm:X.mg x=some (.ref C))(hb:Binds X.K fd ps ds)(hd:Vals dvs ds)(hx:eY CX X E)
 (ha:PA X (e::es) t) (hdb:autoParam (dB x) ab) (he:autoParam (sE X e es) SN) (hpl:autoParam (bT X pos es) SN) :
 PE X (.Call (.Name x p) (e::es) [] pos) (D_ C sp dvs E t):=by
 intro aa s σ H Q I h;refine Rt (vi I hg hm ?_ hdb);refine Sh (h₀:=X.base) I.ok.mod.K3 M.kp (bQ (ha pos aa s σ H _ I h) λus s1 ⟨vs,H1,I1,r,q⟩=>⟨I1.kq,?_⟩) he hpl;exact yG M F hr hb hd hx I1 r q
end
structure aN(N P:List Str) (sc:Scope):Prop where
 kind:sc.kind=.function
 co:sc.isCoroutine=false
 gen:sc.isGenerator=false
 nd:N.Nodup
 pre:N.take P.length=P
 par:∀x∈P,sc.names.lookup x=some .local\/sc.names.lookup x=some .cell
 Ih:∀y∈sc.names,y.2≠.free
theorem nU{kindOf:Str->Option NameKind}:∀{binds:List (Str×SD)}{m:Str->Option SD},(∀v,(x,v)∉binds)->bindL kindOf binds m x=m x
 |[],_,_=>rfl
 |(n,v)::r,m,h=>by
  unfold bindL;rw[nU λw hw=>h w (OW _ hw)];split
  .have:x≠n:=by rintro rfl;exact h v OZ
   simp[this]
  .rfl
theorem nV{kindOf:Str->Option NameKind}:∀{binds:List (Str×SD)}{m:Str->Option SD},(∀v,(x,v)∉binds)->bindC kindOf binds m x=m x
 |[],_,_=>rfl
 |(n,v)::r,m,h=>by
  unfold bindC;rw[nV λw hw=>h w (OW _ hw)];split
  .rfl
  .have:x≠n:=by rintro rfl;exact h v OZ
   simp[this]
theorem nW{kindOf:Str->Option NameKind}:∀{P:List Str}{vs:List SD}{i:Nat}{m:Str->Option SD},P.Nodup->P[i]?=some x->vs[i]?=some v->kindOf x=some .local->
 bindL kindOf (P.zip vs) m x=some v
 |[],_,_,_,_,h,_,_=>by simp at h
 |_::_,[],_,_,_,_,h,_=>by simp at h
 |p::P,w::vs,0,m,nd,h1,h2,hk=>by simp at h1 h2;subst h1;subst h2;show bindL kindOf ((p,w)::P.zip vs) m p=_;unfold bindL;rw[nU λv hv=>(QE.mp nd).1 (List.of_mem_zip hv).1,Ow hk];simp
 |p::P,w::vs,i+1,m,nd,h1,h2,hk=>by show bindL kindOf ((p,w)::P.zip vs) m x=_;unfold bindL;exact nW (i:=i) (QE.mp nd).2 (by simpa using h1) (by simpa using h2) hk
theorem nX{kindOf:Str->Option NameKind}:∀{P:List Str}{vs:List SD}{i:Nat}{m:Str->Option SD},P.Nodup->P[i]?=some x->vs[i]?=some v->kindOf x≠some .local->
 bindC kindOf (P.zip vs) m x=some v
 |[],_,_,_,_,h,_,_=>by simp at h
 |_::_,[],_,_,_,_,h,_=>by simp at h
 |p::P,w::vs,0,m,nd,h1,h2,hk=>by simp at h1 h2;subst h1;subst h2;show bindC kindOf ((p,w)::P.zip vs) m p=_;unfold bindC;rw[nV λv hv=>(QE.mp nd).1 (List.of_mem_zip hv).1,Ox hk];simp
 |p::P,w::vs,i+1,m,nd,h1,h2,hk=>by show bindC kindOf ((p,w)::P.zip vs) m x=_;unfold bindC;exact nX (i:=i) (QE.mp nd).2 (by simpa using h1) (by simpa using h2) hk
noncomputable def start(N:List Str)(vs:List V):St:=vs.map some++List.replicate (N.length-vs.length) none
noncomputable def tZ(CX:Br)(P:SC)(w:World)(K:SB)(mg:Str->Option SD)(base:Heap)(N:List Str)(qual:Str)(scope:Scope)(f:Addr)(cd:SD)(A:SE)(outer:List Env)(s:Sz)(H:Hp)(E:XK):Cx where
 prog:=P
 w:=w
 K:=K
 mg:=mg
 base:=base
 A:=A.deeper (envOfC qual scope s.heap.objs.size f cd)
 N:=N
 s₀:=s
 H₀:=H
 env:=envOfC qual scope s.heap.objs.size f cd
 outer:=outer
 stack:=envOfC qual scope s.heap.objs.size f cd::outer
 ex:=[]
 calm:=true
 fn:=λ_=>true
 pn:=[]
 xe:=λe s'=>wpAny (model P w) (A.deeper (envOfC qual scope s.heap.objs.size f cd)) (leaving (envOfC qual scope s.heap.objs.size f cd) e) (λ_ s''=>CX outer H s E e s'') (λe' s''=>CX outer H s E e' s'') s'
def qU{sc:Scope}(h:sc.names.lookup x=some .cell):∃c,(cellsFrom n sc.names []).lookup x=some c:=by have q:=PySem.W.cellsFrom_some sc.names n [] (.inl h);exact QF.mp q
def wO{CX:Br}{P:SC}{w:World}{K:SB}{mg:Str->Option SD}{base:Heap}{N ps:List Str}{qual:Str}{scope:Scope}
 (S:aN N ps scope) (hd:A.handled=none) (e0:ve P w K mg base A outer s H) (hl:vs.length=ps.length) (r:Vals vs us)
 (x:InCallC s s.heap.objs.size (bindL (envOfC qual scope s.heap.objs.size f cd).kindOf (ps.zip us) λ_=>none) (cellsFrom (s.heap.objs.size+1) scope.names []) (bindC (envOfC qual scope s.heap.objs.size f cd).kindOf (ps.zip us) λ_=>none) s1) :
 Inv (tZ CX P w K mg base N qual scope f cd A outer s H E) [] (start N vs) H s1:=by
 have hpl:ps.length<=N.length:=by have:=Qn List.length S.pre;rw[PQ]at this;lia
 obtain⟨h1,tk,rfl,hk⟩:=x.done;have noA:∀b:Addr,b∉(tZ CX P w K mg base N qual scope f cd A outer s H E).ex:=λb z=>absurd (show b∈([]:List Addr)from z) (by simp);refine⟨⟨e0.mod,S.kind,rfl,rfl,Ou _,λy z c h1 h2=>?_,λy hy=>?_,λy c _ h=>?_,λ_=>hd,Around.frames_deeper e0.frames,.inr ⟨rfl,rfl⟩,λb z=>absurd z (noA b),e0.bs,e0.BA,λb _ _=>noA b,λb z=>absurd z (noA b),e0.j5,e0.EO,e0.kt⟩,
  rfl,e0.bare,Un.kept hk,⟨_,x.toInCall.ns,λi y v h1 h2 h3=>?_⟩,λy c h=>⟨_,x.cell y c h⟩,e0.aF.fresh (Ou _),λy c h=>?_,λp hp=>absurd (show p∈([]:List (Addr×Obj))from hp) (by simp),e0.aF.kept hk,?_⟩
 .exact name_of_addr x.apart (Qd h1) (Qd h2)
 .have hy:scope.names.lookup y=some .cell\/scope.names.lookup y=some .free:=hy;rcases hy with hy|hy
  .exact qU hy
  .exact absurd rfl (S.Ih _ (Qd hy))
 .exact P_ (x.above y c (Qd h))
 .have hi:i<vs.length:=by
   grind [start]
  have ha:vs[i]?=some v:=by grind [start]
  obtain⟨u,hu,rv⟩:=r.get ha;have hp:ps[i]?=some y:=by rw[<- S.pre,List.getElem?_take_of_lt (by lia)];exact h1
  have ndP:ps.Nodup:=by rw[<- S.pre];exact S.nd.sublist (List.take_sublist _ _)
  refine⟨u,rv,?_⟩;rcases S.par y (Pn hp)with k|k
  .exact .inl ⟨k,nW ndP hp hu k⟩
  .obtain⟨c,e⟩:=qU (n:=s.heap.objs.size+1) k;refine .inr ⟨.inl k,c,e,?_⟩;have q:=x.cell y c e;rw[nX ndP hp hu (by show scope.names.lookup y≠_;rw[k];decide)]at q;exact q
 .exact e0.aF.fresh (P_ (x.above y c (Qd h)))
 .unfold start;show _=N.length;rw[OC,Ov,RU];lia
def IL{CX:Br}{P:SC}{w:World}{K:SB}{mg:Str->Option SD}{base:Heap}{k:Nat}{f:Addr}{name qual:Str}{params:Arguments}{body:List Stmt}{scope:Scope}{dV kV doc pm cdv ct oc:SD}{an od:Option Addr}
 {osl:Array (Option SD)} {N ps:List Str} {sp:Sp} (lk:K.lookup f=some ⟨oc,od,.func (fnOf name qual params body scope dV kV doc pm an cdv ct),osl⟩) (hcd:codeIn K cdv qual=true) (S:aN N ps scope)
 (len:∀vs H Q E,sp vs H Q E->vs.length=ps.length)
 (hbody:∀(A:SE)(outer:List Env)(s:Sz)(H:Hp)(vs:List V)(Q:VK)(E:XK),cI k (A.deeper (envOfC qual scope s.heap.objs.size f cdv))->sp vs H Q E->
   ∃t,PSs (tZ CX P w K mg base N qual scope f cdv A outer s H E) body t/\t {nx:=λ_ H'=>Q .ba H',rt:=Q} (start N vs) H) :
 bu P w K mg base CX (k+1) f (fnOf name qual params body scope dV kV doc pm an cdv ct) ps sp:=by
 refine⟨len,λA outer s H args us vs Q E hr e0 hb r hsp=>?_⟩;have hl:=len _ _ _ _ hsp;have KX:K.In s.heap:=e0.mod.K3.keeps λb o e=>(e0.bs b o e).1;have lim:s.heap.NoLimit:=e0.mod.nolimit.keeps λb o e=>(e0.bs b o e).1;have hkind:∀y∈ps.zip us,scope.names.lookup y.1=some .local\/(scope.names.lookup y.1=some .cell/\((cellsFrom (s.heap.objs.size+1) scope.names []).lookup y.1).isSome=true):=λ⟨n,v⟩ hy=>by
  rcases S.par n (List.of_mem_zip hy).1 with q|q
  .exact .inl q
  .exact .inr ⟨q,PySem.W.cellsFrom_some _ _ _ (.inl q)⟩
 refine codeAny_call_function hr.depth (KX _ _ lk) rfl S.co S.gen rfl (PySem.W.codeRec_of KX hcd) (hb _ _ _ _ ?_);refine wpAny_newFunctionEnv_cells S.kind hkind λenv he s1 x=>?_;subst he;refine⟨lim.keeps x.toInCall.keep,codeAny_func ?_⟩;obtain⟨t,ht,hq⟩:=hbody A outer s H vs Q E (hr.deeper _) hsp;have I:Inv (tZ CX P w K mg base N qual scope f cdv A outer s H E) [] (start N vs) H s1:=wO S hr.hd e0 hl r x;refine Qc (ht [] s1 (start N vs) H _ I hq) (λfl s' hs=>?_) λe s' hs=>hs;have fin:∀{σ':St}{H':Hp}{v:V}{u:SD},Inv (tZ CX P w K mg base N qual scope f cdv A outer s H E) [] σ' H' s'->RelV v u->Q v H'->CE outer P w H s Q u s':=λ{σ' H' v u} J rv q=>⟨v,H',J.os,J.bare,J.base,J.aF,rv,q⟩;cases fl with
 |ret u=>obtain⟨v,σ',H',J,rv,q⟩:=hs;exact fin J rv q
 |next=>obtain⟨σ',H',J,q⟩:=hs;exact fin (v:=V.ba) (u:=Value.none) J rfl q
 |brk=>obtain⟨_,_,_,q⟩:=hs;exact False.elim q
 |cont=>obtain⟨_,_,_,q⟩:=hs;exact False.elim q
section
variable{X:Cx}{x:Str}{p pos:Pos}{e:Expr}{es:List Expr}{t:TA}{id T:String}{r:List V->Hp->VK->Prop}
noncomputable def tCB(r:List V->Hp->VK->Prop)(t:TA):TE:=λσ H Q=>t σ H λvs H1=>r vs H1 Q
def bo(hc:CallR X (.builtin id) r) (hg:Gl X x) (hm:X.mg x=none) (hv:bootBuiltins x=some (.builtin id)) (ha:PA X (e::es) t) (hn:autoParam (x≠"__name__") ab) (hdb:autoParam (dB x) ab)
 (he:autoParam (starEach (e::es) X.env=(false,eval e X.env)::starEach es X.env) SN) (hpl:autoParam (bT X pos es) SN):PE X (.Call (.Name x p) (e::es) [] pos) (tCB r t):=by
 intro aa s σ H Q I h;refine Rt (oZ I hg hm hv ?_ hn hdb);exact PyProof.Rows.callWith_builtin1 (bQ (ha pos aa s σ H _ I h) λus s1 ⟨vs,H1,I1,r1,q1⟩=>hc aa s1 σ H1 vs us Q I1 r1 q1) he hpl
def g6(hc:CallR X (.type T) r) (hg:Gl X x) (hm:X.mg x=none) (hv:bootBuiltins x=some (.type T)) (ha:PA X (e::es) t) (hn:autoParam (x≠"__name__") ab) (hdb:autoParam (dB x) ab)
 (he:autoParam (starEach (e::es) X.env=(false,eval e X.env)::starEach es X.env) SN) (hpl:autoParam (bT X pos es) SN):PE X (.Call (.Name x p) (e::es) [] pos) (tCB r t):=by
 intro aa s σ H Q I h;refine Rt (oZ I hg hm hv ?_ hn hdb);exact PyProof.Rows.callWith_type1 (bQ (ha pos aa s σ H _ I h) λus s1 ⟨vs,H1,I1,r1,q1⟩=>hc aa s1 σ H1 vs us Q I1 r1 q1) he hpl
end
end L2
namespace HT
open PySem PyProof.Rows
section
def cat_tup(ht:IsTup s.heap t vs.toArray)(hb:IsTup s.heap b ws.toArray)(hv:vs≠[])
 (h1:ws=[]->Q (.ref t) s) (h2:ws≠[]->Q (.ref s.heap.objs.size) { s with heap:=s.heap.push { cls:=.type "tuple",data:=.seq (vs++ws).toArray } })
 (hsz:vs.length+ws.length<=sizeLine):wpAny (model prog w) A (binaryOp .Add (.ref t) (.ref b)) Q E s:=by
 obtain⟨⟨cls,dd,data,sl⟩,ho,hc,n,hd⟩:=id ht;obtain⟨⟨cls2,dd2,data2,sl2⟩,ho2,hc2,n2,hd2⟩:=id hb;simp only at hc hd hc2 hd2;subst hc hd hc2 hd2;have e:vs.toArray++ws.toArray=(vs++ws).toArray:=by simp
 by_cases hw:ws=[]
 .exact concat_meets ⟨_,ho,rfl⟩ ⟨_,ho2,rfl⟩ noFill_tuple_add seq_tuple_add PySem.F.slot_tuple_add PySem.F.entry_tuple_add (PySem.F.args_tuple_add_2 _ _)
   (tuple_addW1 t b vs.toArray ws.toArray n n2 dd dd2 sl sl2 (by simpa using hv) (by simp[hw])) ⟨ho,ho2,h1 hw⟩
 .refine concat_meets ⟨_,ho,rfl⟩ ⟨_,ho2,rfl⟩ noFill_tuple_add seq_tuple_add PySem.F.slot_tuple_add PySem.F.entry_tuple_add (PySem.F.args_tuple_add_2 _ _)
   (tuple_addW2 t b vs.toArray ws.toArray n n2 dd dd2 sl sl2 (by simpa using hv) (by simpa using hw) (by rw[Oz,Oz];exact hsz)) ⟨ho,ho2,?_⟩
  rw[e];exact h2 hw
noncomputable def sIx(n d:Nat):Option Int->Nat
 |none=>d
 |some v=>if v<0 then(v+(n:Int)).toNat else min v.toNat n
def sIx_nat(n d k:Nat):sIx n d (some (k:Int))=min k n:=by show(if(k:Int)<0 then((k:Int)+(n:Int)).toNat else min (k:Int).toNat n)=min k n;rw[Ox (by lia),QG]
def Fk(n d:Nat)(hd:d<=n)(o:Option Int):sIx n d o<=n:=by
 cases o with
 |none=>exact hd
 |some v=>
  show(if v<0 then(v+(n:Int)).toNat else min v.toNat n)<=n
  grind
def vk(v:Int)(n d:Nat):(if v<0 then max (v+(n:Int)) 0 else min v (n:Int))=((sIx n d (some v):Nat):Int):=by
 show(if v<0 then max (v+(n:Int)) 0 else min v (n:Int))=(((if v<0 then(v+(n:Int)).toNat else min v.toNat n):Nat):Int)
 grind
def t7(lo hi:Option Int)(n:Nat):Builtin.Slice.sliceAdjust lo hi 1 (n:Int)=(((sIx n 0 lo:Nat):Int),((sIx n n hi:Nat):Int)):=by
 have h1:¬((1:Int)<0):=by lia
 unfold Builtin.Slice.sliceAdjust;simp only[h1,Pk];refine Sy ?_ ?_
 .cases lo with
  |none=>rfl
  |some v=>exact vk v n 0
 .cases hi with
  |none=>rfl
  |some v=>exact vk v n n
def t8(i j:Nat):Builtin.Slice.slicePlaces (i:Int) (j:Int) 1=j-i:=by
 unfold Builtin.Slice.slicePlaces
 grind
def lH(p:IsPart v o)(h:Q o s):wpAny (model prog w) A (Builtin.Slice.slicePartIndex v) Q E s:=by
 cases p with
 |none=>exact slicePart_none h
 |int i t=>exact slicePart_int h
def sliceApplied_gen{lo hi:Option Int}{n:Nat}{Q:Int×Int×Nat->Sz->Prop}(hs:s.heap.IsSliceOf sl vl vu .none)(pl:IsPart vl lo)(pu:IsPart vu hi)
 (h:Q (((sIx n 0 lo:Nat):Int),1,sIx n n hi-sIx n 0 lo) s):wpAny (model prog w) A (Builtin.Slice.sliceApplied (.ref sl) (pure (n:Int))) Q E s:=by
 obtain⟨os,hos,hcs,hds⟩:=id hs;unfold Builtin.Slice.sliceApplied Builtin.Slice.sliceFields;refine KE (KE (RI hos hds (x:=vl) rfl (KE (RI hos hds (x:=vu) rfl (KE (RI hos hds (x:=.none) rfl (Os ?_)))))));refine KE (slicePart_none ?_);show wpAny _ _ (if((1:Int)==0)=true then _ else _) _ _ s;rw[Ox (by decide)];refine KE (lH pl (KE (lH pu (KE (Os ?_)))));show wpAny _ _ (match Builtin.Slice.sliceAdjust lo hi 1 (n:Int)with|(lo,hi)=>pure (lo,(1:Int),Builtin.Slice.slicePlaces lo hi 1)) _ _ s;rw[t7 lo hi n];show wpAny _ _ (pure (((sIx n 0 lo:Nat):Int),(1:Int),Builtin.Slice.slicePlaces ((sIx n 0 lo:Nat):Int) ((sIx n n hi:Nat):Int) 1)) _ _ s;rw[t8];exact Os h
def yH(xs:Array SD)(i k:Nat):((List.range k).filterMap λ(m:Nat)=>xs[((i:Int)+(m:Int)*1).toNat]?).toArray=((xs.toList.drop i).take k).toArray:=by
 have e:(λ(m:Nat)=>xs[((i:Int)+(m:Int)*1).toNat]?)=λm=>xs[i+m]?:=by grind
 rw[e];have:=pick_run xs i k;rw[List.filterMap_map]at this;have e2:((λx=>xs[x]?) ∘ λx=>i+x)=λm=>xs[i+m]?:=rfl;rw[e2]at this;rw[this]
def getItem_tuple_cut{vl vu:SD}{lo hi:Option Int}{Q:SD->Sz->Prop}(ht:IsTup s.heap t items)(hs:s.heap.IsSliceOf sl vl vu .none)(pl:IsPart vl lo)(pu:IsPart vu hi)
 (hw:¬(sIx items.size 0 lo=0/\sIx items.size items.size hi=items.size))
 (h:Q (.ref s.heap.objs.size) { s with heap:=s.heap.push { cls:=.type "tuple",data:=.seq ((items.toList.drop (sIx items.size 0 lo)).take (sIx items.size items.size hi-sIx items.size 0 lo)).toArray } })
 (hsz:items.size<=sizeLine):wpAny (model prog w) A (getItem (.ref t) (.ref sl)) Q E s:=by
 have htake:sizeOk (.seq ((items.toList.drop (sIx items.size 0 lo)).take (sIx items.size items.size hi-sIx items.size 0 lo)).toArray):=by
  show((items.toList.drop (sIx items.size 0 lo)).take (sIx items.size items.size hi-sIx items.size 0 lo)).toArray.size<=sizeLine
  grind
 have hj:sIx items.size items.size hi<=items.size:=Fk _ _ (Ou _) hi;obtain⟨os,hos,hcs,hds⟩:=id hs;have hTs:s.TypeIs (.ref sl) "slice":=⟨os,hos,hcs⟩;unfold getItem
 try with_reducible refine Pd ?_
 first|refine KE (Os ?_)|skip
 refine KE (wpAny_sequenceKey ht.typeIs (by decide) ?_);refine KE (PB (name:=Str.ofString "__getitem__") ht.typeIs Pu
  (O_ Pu ht.typeIs entry_tuple_getitem ?_ (args_tuple_getitem _ _)))
 show wpAny _ _ (Builtin.Tuple.tupleItemsOf (.ref t) >>= _) _ _ s;refine KE (tupleItemsOf_ ht ?_);refine KE (QA hTs ?_);rw[Ow (by decide)];refine KE (sliceApplied_gen hs pl pu ?_);have hno:¬((((sIx items.size 0 lo:Nat):Int)==0&&(1:Int)==1&&(sIx items.size items.size hi-sIx items.size 0 lo)==items.size)=true):=by grind
 show wpAny _ _ (if(((sIx items.size 0 lo:Nat):Int)==0&&(1:Int)==1&&(sIx items.size items.size hi-sIx items.size 0 lo)==items.size)=true then _ else _) _ _ s;rw[Ox hno,yH]
 first
  |exact KE (m:=Builtin.Tuple.tupleExact _) (Pe (Os ⟨_,rfl,Os h⟩) htake)
  |exact KE (m:=Builtin.Tuple.tupleExact _) (Pe (KE (Os (Os ⟨_,rfl,Os h⟩))) htake)
  |exact KE (KE (m:=Builtin.Tuple.tupleExact _) (Pe (Os (Os ⟨_,rfl,Os h⟩)) htake))
  |exact KE (KE (m:=Builtin.Tuple.tupleExact _) (Pe (Os ⟨_,rfl,Os h⟩) htake))
end
end HT
namespace L2
open PySem PySem.Spec PyProof.Rows
abbrev TO:=St->Hp->(Option Int->Hp->Prop)->Prop
def PO(X:Cx)(e:Option Expr)(t:TO):Prop:=
 ∀(aa:List (Addr×Obj))(s:Sz)(σ:St)(H:Hp)(Q:Option Int->Hp->Prop),Inv X aa σ H s->t σ H Q->
  wpAny (model X.prog X.w) X.A (evalPart e X.env) (λu s'=>∃o H',Inv X aa σ H' s'/\IsPart u o/\Q o H') X.xe s
noncomputable def BW:TO:=λ_ H Q=>Q none H
noncomputable def IM(t:TE):TO:=λσ H Q=>t σ H λx H1=>∃i,x=.int i/\Q (some i) H1
section
variable{X:Cx}{e:Expr}{te:TE}{lo hi:Option Expr}{tl th:TO}{pos p2:Pos}
def BX:PO X none BW:=by intro aa s σ H Q I h;rw[evalPart_none];exact Os ⟨none,H,I,.none,h⟩
def BY(h:PE X e te):PO X (some e) (IM te):=by intro aa s σ H Q I hw;rw[evalPart_some];refine bQ (h aa s σ H _ I hw) λu s1 ⟨x,H1,I1,r1,q1⟩=>?_;obtain⟨i,rfl,q⟩:=q1;obtain⟨t,rfl⟩:=r1;exact⟨some i,H1,I1,.int i t,q⟩
def SlR(X:Cx)(r:V->Option Int->Option Int->Hp->VK->Prop):Prop:=
 ∀(aa:List (Addr×Obj))(s:Sz)(σ:St)(H:Hp)(x:V)(v vl vu:SD)(lo hi:Option Int)(sl:Addr)(Q:VK),Inv X aa σ H s->RelV x v->s.heap.IsSliceOf sl vl vu .none->IsPart vl lo->IsPart vu hi->r x lo hi H Q->
  ∃T id,typeLookup (.type T) "__getitem__"=pure (some (.builtin id))/\s.TypeIs v T/\wpAny (model X.prog X.w) X.A (getItem v (.ref sl)) (EP X aa σ Q) X.xe s
def SlR.or(h:SlR X r)(h':SlR X r'):SlR X (λx lo hi H Q=>r x lo hi H Q\/r' x lo hi H Q):=by
 intro aa s σ H x v vl vu lo hi sl Q I rx hs pl pu q;rcases q with q|q
 .exact h aa s σ H x v vl vu lo hi sl Q I rx hs pl pu q
 .exact h' aa s σ H x v vl vu lo hi sl Q I rx hs pl pu q
noncomputable def NH(r:V->Option Int->Option Int->Hp->VK->Prop)(te:TE)(tl th:TO):TE:=λσ H Q=>te σ H λx H1=>tl σ H1 λl H2=>th σ H2 λu H3=>r x l u H3 Q
def yI(hr:SlR X r)(he:PE X e te)(hl:PO X lo tl)(hu:PO X hi th):PE X (.Subscript e (.Slice lo hi none p2) pos) (NH r te tl th):=by intro aa s σ H Q I h;refine Subscript_ (bQ (he aa s σ H _ I h) λv s1 ⟨x,H1,I1,r1,q1⟩=>?_);refine wpAny_Slice (bQ (hl aa s1 σ H1 _ I1 q1) λvl s2 ⟨l,H2,I2,pl,q2⟩=>bQ (hu aa s2 σ H2 _ I2 q2) λvu s3 ⟨u,H3,I3,pu,q3⟩=>?_);rw[evalPart_none];refine Os ?_;have I4:Inv X aa σ H3 { s3 with heap:=s3.heap.push { cls:=.type "slice",data:=.fields #[vl,vu,.none] } }:=I3.kept (t':=s3.toks) λb ob q=>Ot _ q;obtain⟨T,id,hT,ht,hg⟩:=hr aa { s3 with heap:=s3.heap.push { cls:=.type "slice",data:=.fields #[vl,vu,.none] } } σ H3 x v vl vu l u s3.heap.objs.size Q I4 r1 (Heap.IsSliceOf.new ..) pl pu q3;show wX X (subscriptTail e (.Slice lo hi none p2) v (.ref s3.heap.objs.size)) (EP X aa σ Q) X.xe { s3 with heap:=s3.heap.push { cls:=.type "slice",data:=.fields #[vl,vu,.none] } };exact tail_any (ops:=[.ref s3.heap.objs.size,v]) ht hT hg (by with_unfolding_all rfl)
def qV(xs:List V)(lo hi:Option Int):List V:=(xs.drop (HT.sIx xs.length 0 lo)).take (HT.sIx xs.length xs.length hi-HT.sIx xs.length 0 lo)
def j8(xs:List V)(lo hi:Option Int):(qV xs lo hi).length<=xs.length:=by unfold qV;rw[PQ,Rg];lia
def LH(K:SB):V->Option Int->Option Int->Hp->VK->Prop:=λx lo hi H Q=>∃a xs,x=.ref a/\SqT K H a xs/\
 ¬(HT.sIx xs.length 0 lo=0/\HT.sIx xs.length xs.length hi=xs.length)/\∀p,H p=none->Q (.ref p) (upd H p (.tup (qV xs lo hi)))
def sl_tup:SlR X (LH X.K):=by
 intro aa s σ H x v vl vu lo hi sl Q I rx hs pl pu h;obtain⟨a,xs,rfl,hx,hw,q⟩:=h;cases rx;obtain⟨its,r,ht,hz⟩:=I.tuple hx;have bR:its.toArray.size=xs.length:=by rw[Oz];exact r.length.symm
 refine⟨"tuple",_,Pu.lookup,ht.typeIs,?_⟩;refine HT.getItem_tuple_cut ht hs pl pu (by rw[bR];exact hw) ?_ (by rw[bR];exact hz);rw[bR];refine⟨.ref s.heap.objs.size,_,I.laid (t':=s.toks) (o:=.tup (qV xs lo hi)) (λb ob q=>Ot _ q) (Ou _) ?_,rfl,q _ (I.aF.fresh (Ou _))⟩;exact⟨O3 (j8 xs lo hi) hz,_,(r.drop (HT.sIx xs.length 0 lo)).take (HT.sIx xs.length xs.length hi-HT.sIx xs.length 0 lo),IsTup.new _ _⟩
def IN(K:SB):R2:=λx y H Q=>∃a b xs ys,x=.ref a/\y=.ref b/\SqT K H a xs/\SqT K H b ys/\xs≠[]/\xs.length+ys.length<=sizeLine/\
 (ys=[]->Q (.ref a) H)/\(ys≠[]->∀p,H p=none->Q (.ref p) (upd H p (.tup (xs++ys))))
def Vals.qG(r:Vals xs us):us=[]↔xs=[]:=by
 cases r with
 |nil=>simp
 |cons _ _=>simp
def op_catT:OpR X (binaryOp .Add) (IN X.K):=by intro aa s σ H x y v u Q I rx ry h;obtain⟨a,b,xs,ys,rfl,rfl,ha,hb,hx,hz,q1,q2⟩:=h;cases rx;cases ry;obtain⟨its,r1,p1,_⟩:=I.tuple ha;obtain⟨its2,r2,p2,_⟩:=I.tuple hb;refine HT.cat_tup p1 p2 (λz=>hx (r1.qG.mp z)) (λz=>⟨.ref a,H,I,rfl,q1 (r2.qG.mp z)⟩) (λz=>?_) (by rw[<- r1.length,<- r2.length];exact hz);refine⟨.ref s.heap.objs.size,_,I.laid (t':=s.toks) (o:=.tup (xs++ys)) (λb ob q=>Ot _ q) (Ou _) ?_,rfl,q2 (λw=>z (r2.qG.mpr w)) _ (I.aF.fresh (Ou _))⟩;exact⟨by rw[OC];exact hz,_,r1.append r2,IsTup.new _ _⟩
end
noncomputable def yp(n:Nat)(i:Int):Option Nat:=if 0<=i then(if i<n then some i.toNat else none)else if -(n:Int)<=i then some (i+n).toNat else none
def dG{α:Type}(xs:List α)(i:Int):Option α:=(yp xs.length i).bind λj=>xs[j]?
def BZ(h:yp n i=some j):seqIndex? i n=some j/\j<n/\-(n:Int)<=i/\i<n:=by
 unfold yp at h;by_cases h0:0<=i
 .rw[Ow h0]at h;by_cases h1:i<n
  .rw[Ow h1]at h;have e:i.toNat=j:=PC h;exact⟨by rw[seqIndex_of h0 h1,e],by lia,by lia,h1⟩
  .rw[Ox h1]at h;cases h
 .rw[Ox h0]at h;by_cases h1:-(n:Int)<=i
  .rw[Ow h1]at h;have e:(i+n).toNat=j:=PC h;exact⟨by rw[seqIndex_neg (by lia) h1,e],by lia,h1,by lia⟩
  .rw[Ox h1]at h;cases h
def o7{α:Type}{xs:List α}{i:Int}{v:α}(h:dG xs i=some v):∃j,seqIndex? i xs.length=some j/\xs[j]?=some v/\j<xs.length/\-(xs.length:Int)<=i/\i<xs.length:=by
 unfold dG at h;cases e:yp xs.length i with
 |none=>rw[e]at h;cases h
 |some j=>rw[e]at h;obtain⟨h1,h2,h3,h4⟩:=BZ e;exact⟨j,h1,h,h2,h3,h4⟩
def o8{α:Type}{xs:List α}{j:Nat}{v:α}(h:xs[j]?=some v):dG xs (j:Int)=some v:=by grind [yp,dG]
def vm(b:Expr):Prop:=∀o i,subscripted b false o i=operate [o,i] (getItem o i)
def IxR(X:Cx)(r:R2):Prop:=
 ∀(value slice:Expr)(aa:List (Addr×Obj))(s:Sz)(σ:St)(H:Hp)(x y:V)(v u:SD)(Q:VK),Inv X aa σ H s->RelV x v->RelV y u->r x y H Q->
  subscripted slice false v u=operate [v,u] (getItem v u)->wpAny (model X.prog X.w) X.A (subscriptTail value slice v u) (EP X aa σ Q) X.xe s
def Fo(X:Cx)(id:String)(r:V->List V->Hp->VK->Prop):Prop:=
 ∀(aa:List (Addr×Obj))(s:Sz)(σ:St)(H:Hp)(x:V)(xs:List V)(v:SD)(us:List SD)(Q:VK),Inv X aa σ H s->RelV x v->Vals xs us->r x xs H Q->
  wpAny (model X.prog X.w) X.A (call (.builtin id) (v::us)) (EP X aa σ Q) X.xe s
section
variable{X:Cx}
def IxR.or(h:IxR X r)(h':IxR X r'):IxR X (λx y H Q=>r x y H Q\/r' x y H Q):=by
 intro value slice aa s σ H x y v u Q I rx ry q hs;rcases q with q|q
 .exact h value slice aa s σ H x y v u Q I rx ry q hs
 .exact h' value slice aa s σ H x y v u Q I rx ry q hs
def bv(hr:IxR X r)(ha:PE X a ta)(hb:PE X b tb)(hs:vm b):PE X (.Subscript a b pos) (nT r ta tb):=by intro aa s σ H Q I h;exact Subscript_ (Fd ha hb I h λv u s2 x y H2 I2 rx ry q=>hr a b aa s2 σ H2 x y v u Q I2 rx ry q (hs _ _))
def Fp(K:SB):R2:=λx y H Q=>∃p xs i v,x=.ref p/\y=.int i/\SqL K H p xs/\dG xs i=some v/\Q v H
def B1(K:SB):R2:=λx y H Q=>∃p xs i v,x=.ref p/\y=.int i/\SqT K H p xs/\dG xs i=some v/\Q v H
def IQ:R2:=λx y H Q=>∃z i c,x=.str z/\y=.int i/\z.length<=sizeLine/\dG z.cps.toList i=some c/\Q (.str ⟨#[c]⟩) H
def ix_list:IxR X (Fp X.K):=by
 intro value slice aa s σ H x y v u Q I rx ry h hs;obtain⟨p,xs,i,z,rfl,rfl,hq,he,q⟩:=h;cases rx;obtain⟨t,rfl⟩:=ry;obtain⟨its,r,pl,hz⟩:=I.list hq;obtain⟨j,h1,h2,h3,h4,h5⟩:=o7 he;obtain⟨w,ew,rw'⟩:=r.get h2;have hl:=r.length;have hn:=jE;have fin:EP X aa σ Q w s:=⟨z,H,I,rw',q⟩;by_cases h0:0<=i
 .have hj:i.toNat=j:=by rw[seqIndex_of h0 h5]at h1;exact PC h1
  exact item_listR pl.isList h0 (by lia) (by rw[hj];simpa using ew) fin hs
 .have hj:(i+(its.toArray.size:Int)).toNat=j:=by rw[seqIndex_neg (by lia) h4]at h1;rw[Oz,<- hl];exact PC h1
  exact subscriptTail_builtinR (x:=w) pl.isList.typeIs slot_list_getitem.lookup
   (wpAny_getItem_list_neg (Q:=λr s'=>r=w/\EP X aa σ Q r s') pl.isList (by lia) (by rw[Oz]<;>lia) (by lia) (by rw[hj];simpa using ew) ⟨rfl,fin⟩) hs
def ix_tup:IxR X (B1 X.K):=by
 intro value slice aa s σ H x y v u Q I rx ry h hs;obtain⟨p,xs,i,z,rfl,rfl,hq,he,q⟩:=h;cases rx;obtain⟨t,rfl⟩:=ry;obtain⟨its,r,pl,hz⟩:=I.tuple hq;obtain⟨j,h1,h2,h3,h4,h5⟩:=o7 he;obtain⟨w,ew,rw'⟩:=r.get h2;have hl:=r.length;have hn:=jE;have fin:EP X aa σ Q w s:=⟨z,H,I,rw',q⟩;exact subscriptTail_builtinR (x:=w) pl.typeIs slot_tuple_getitem.lookup
  (getItem_tuple (j:=j) (Q:=λr s'=>r=w/\EP X aa σ Q r s') pl (by lia) (by lia) (by rw[Oz,<- hl];exact h1) (by simpa using ew) ⟨rfl,fin⟩) hs
def Fq:IxR X IQ:=by
 intro value slice aa s σ H x y v u Q I rx ry h hs;obtain⟨z,i,c,rfl,rfl,hz,he,q⟩:=h;obtain⟨t,rfl⟩:=rx;obtain⟨t',rfl⟩:=ry;obtain⟨j,h1,h2,h3,h4,h5⟩:=o7 he;have hl:z.cps.toList.length=z.length:=by simp[Str.length]
 rw[hl]at h1 h4 h5;have hn:=jE;exact tail_any (typeIs_str s z t) slot_str_getitem.lookup (getItem_str (c:=c) (by have e1:decide (i < -(2^63:Int))=false:=Po (by lia);have e2:decide (i>=2^63)=false:=Po (by lia);rw[e1,e2,Bool.or_false]) (by rw[h1];simpa using h2) ⟨.str ⟨#[c]⟩,H,I.tok _,⟨_,rfl⟩,q⟩) hs
def NI(K:SB):R2:=λx y H Q=>Fp K x y H Q\/B1 K x y H Q\/IQ x y H Q
def Fs:IxR X (NI X.K):=ix_list.or (ix_tup.or Fq)
def o9(lo hi:Option Int)(n:Nat):(sliceBounds lo hi none n).1=((HT.sIx n 0 lo:Nat):Int)/\(sliceBounds lo hi none n).2.1=((HT.sIx n n hi:Nat):Int)/\(sliceBounds lo hi none n).2.2=1:=by
 refine⟨?_,?_,rfl⟩
 .cases lo with
  |none=>simp[sliceBounds,HT.sIx]
  |some i=>
   simp only[sliceBounds,HT.sIx,Su,show(1:Int)>0 by decide,Qy]
   grind
 .cases hi with
  |none=>simp[sliceBounds,HT.sIx]
  |some i=>
   simp only[sliceBounds,HT.sIx,Su,show(1:Int)>0 by decide,Qy]
   grind
def nu(its:List SD)(lo hi:Option Int):slicePick its.toArray lo hi none=((its.drop (HT.sIx its.length 0 lo)).take (HT.sIx its.length its.length hi-HT.sIx its.length 0 lo)).toArray:=by obtain⟨h1,h2,h3⟩:=o9 lo hi its.toArray.size;unfold slicePick;rw[h1,h2,h3];simp only[sliceRange_one,pick_run,Oz]<;>rfl
def LI(K:SB):V->Option Int->Option Int->Hp->VK->Prop:=λx lo hi H Q=>∃a xs,x=.ref a/\SqL K H a xs/\∀p,H p=none->Q (.ref p) (upd H p (.lst (qV xs lo hi)))
def sl_list:SlR X (LI X.K):=by intro aa s σ H x v vl vu lo hi sl Q I rx hs pl pu h;obtain⟨a,xs,rfl,hx,q⟩:=h;cases rx;obtain⟨its,r,ht,hz⟩:=I.list hx;have bR:=r.length;refine⟨"list",_,slot_list_getitem.lookup,ht.isList.typeIs,?_⟩;refine wpAny_getItem_list_slice ht.isList hs pl pu .none (by simp) ?_ (by rw[Oz]<;>lia);rw[nu,<- bR];refine⟨.ref s.heap.objs.size,_,I.laid (t':=s.toks) (o:=.lst (qV xs lo hi)) (λb ob q=>Ot _ q) (Ou _) ?_,rfl,q _ (I.aF.fresh (Ou _))⟩;exact⟨O3 (j8 xs lo hi) hz,_,0,(r.drop (HT.sIx xs.length 0 lo)).take (HT.sIx xs.length xs.length hi-HT.sIx xs.length 0 lo),Oy _ rfl⟩
noncomputable def j9:V->Bool
 |.ba=>true
 |.bl _=>true
 |.int _=>true
 |.str _=>true
 |_=>false
noncomputable def Ea:V->V->Bool
 |.ba,.ba=>true
 |.bl a,.bl b=>a==b
 |.bl a,.int b=>(if a then 1 else 0)==b
 |.int a,.bl b=>a==(if b then 1 else 0)
 |.int a,.int b=>a==b
 |.str a,.str b=>a==b
 |_,_=>false
def Ft(ry:RelV y u)(rx:RelV x v)(fy:j9 y=true)(fx:j9 x=true):SeqAt.EqAt A s u v (Ea y x):=by
 cases y with
 |ba=>
  cases ry;cases x with
  |ba=>cases rx;exact Se _
  |bl b=>cases rx;exact SeqAt.EqAt.none_bool b
  |int b=>obtain⟨t,rfl⟩:=rx;exact SeqAt.EqAt.none_int b t
  |str b=>obtain⟨t,rfl⟩:=rx;exact SeqAt.EqAt.none_str b t
  |_=>exact absurd (show false=true from fx) OS
 |bl a=>
  cases ry;cases x with
  |ba=>cases rx;exact SeqAt.EqAt.bool_none a
  |bl b=>cases rx;exact SeqAt.EqAt.bool_bool a b
  |int b=>obtain⟨t,rfl⟩:=rx;exact SeqAt.EqAt.bool_int a b t
  |str b=>obtain⟨t,rfl⟩:=rx;exact SeqAt.EqAt.bool_str a b t
  |_=>exact absurd (show false=true from fx) OS
 |int a=>
  obtain⟨t',rfl⟩:=ry;cases x with
  |ba=>cases rx;exact SeqAt.EqAt.int_none a t'
  |bl b=>cases rx;exact SeqAt.EqAt.int_bool a t' b
  |int b=>obtain⟨t,rfl⟩:=rx;exact SeqAt.EqAt.int_int a t' b t
  |str b=>obtain⟨t,rfl⟩:=rx;exact SeqAt.EqAt.int_str a t' b t
  |_=>exact absurd (show false=true from fx) OS
 |str a=>
  obtain⟨t',rfl⟩:=ry;cases x with
  |ba=>cases rx;exact SeqAt.EqAt.str_none a t'
  |bl b=>cases rx;exact SeqAt.EqAt.str_bool a t' b
  |int b=>obtain⟨t,rfl⟩:=rx;exact SeqAt.EqAt.str_int a t' b t
  |str b=>obtain⟨t,rfl⟩:=rx;exact SeqAt.EqAt.str_str a t' b t
  |_=>exact absurd (show false=true from fx) OS
 |_=>exact absurd (show false=true from fy) OS
def B2(x:V)(u:SD):Bool:=match u with
 |.none=>Ea .ba x
 |.bool b=>Ea (.bl b) x
 |.int i _=>Ea (.int i) x
 |.str z _=>Ea (.str z) x
 |_=>false
def yJ(r:RelV y u)(f:j9 y=true):B2 x u=Ea y x:=by
 cases y with
 |ba=>cases r;rfl
 |bl b=>cases r;rfl
 |int i=>obtain⟨t,rfl⟩:=r;rfl
 |str z=>obtain⟨t,rfl⟩:=r;rfl
 |_=>exact absurd (show false=true from f) OS
theorem o_:∀{xs:List V}{us:List SD},Vals xs us->xs.all j9=true->us.any (B2 x)=xs.any λy=>Ea y x
 |_,_,.nil,_=>rfl
 |y::xs,u::us,.cons r t,f=>by rw[List.all_cons,Pa]at f;rw[Qe,Qe,yJ r f.1,o_ t f.2]
theorem lI(rx:RelV x v)(fx:j9 x=true):∀{xs:List V}{us:List SD},Vals xs us->xs.all j9=true->∀u∈us,SeqAt.EqAt A s u v (B2 x u)
 |_,_,.nil,_=>λu hu=>by cases hu
 |y::xs,u::us,.cons r t,f=>λu' hu=>by
  rw[List.all_cons,Pa]at f;rcases OE.mp hu with rfl|hu
  .rw[yJ r f.1];exact Ft r rx f.1 fx
  .exact lI rx fx t f.2 u' hu
def Lc(x:V)(xs:List V):Bool:=xs.any λy=>Ea y x
def LJ(K:SB)(neg:Bool):R2:=λx y H Q=>∃p xs,y=.ref p/\(SqL K H p xs\/SqT K H p xs)/\j9 x=true/\xs.all j9=true/\Q (.bl (if neg then !Lc x xs else Lc x xs)) H
def wQ:OpR X (compareOp .In) (LJ X.K false):=by
 intro aa s σ H x y v u Q I rx ry h;obtain⟨p,xs,rfl,hq,fx,fs,q⟩:=h;cases ry;rcases hq with hq|hq
 .obtain⟨its,r,pl,hz⟩:=I.list hq;refine SeqAt.in_listAt (B2 x) pl.isList (λw hw=>lI rx fx r fs w (by simpa using hw)) ⟨.bl _,H,I,rfl,?_⟩;rw[show its.toArray.any (B2 x)=its.any (B2 x) by simp,o_ r fs];exact q
 .obtain⟨its,r,pl,hz⟩:=I.tuple hq;refine SeqAt.in_tupleAt (B2 x) pl (λw hw=>lI rx fx r fs w (by simpa using hw)) ⟨.bl _,H,I,rfl,?_⟩;rw[show its.toArray.any (B2 x)=its.any (B2 x) by simp,o_ r fs];exact q
def call_len_seq:CallR X (.builtin "len") (λxs H Q=>∃p ys,xs=[.ref p]/\(SqL X.K H p ys\/SqT X.K H p ys)/\Q (.int ys.length) H):=by
 intro aa s σ H xs us Q I r h;obtain⟨p,ys,rfl,hq,q⟩:=h;obtain⟨u,rfl,rx⟩:=db r;cases rx;have hn:=jE;rcases hq with hq|hq
 .obtain⟨its,r',pl,hz⟩:=I.list hq;have bR:=r'.length;exact Calls.call_len_list pl.isList (by simp only[Oz]<;>lia) ⟨.int ys.length,H,I.tok _,⟨s.toks+1,by rw[Oz,bR]⟩,q⟩
 .obtain⟨its,r',pl,hz⟩:=I.tuple hq;have bR:=r'.length;exact len_tuple pl (by simp only[Oz]<;>lia) ⟨.int ys.length,H,I.tok _,⟨s.toks+1,by rw[Oz,bR]⟩,q⟩
def pc:CallR X (.builtin "len") (λxs H Q=>∃z,xs=[.str z]/\z.length<=sizeLine/\Q (.int z.length) H):=by intro aa s σ H xs us Q I r h;obtain⟨z,rfl,hz,q⟩:=h;obtain⟨u,rfl,t,rfl⟩:=db r;have hn:=jE;exact len_str (by lia) ⟨.int z.length,H,I.tok _,⟨_,rfl⟩,q⟩
def CallR.or(h:CallR X f r)(h':CallR X f r'):CallR X f (λxs H Q=>r xs H Q\/r' xs H Q):=by
 intro aa s σ H xs us Q I rs q;rcases q with q|q
 .exact h aa s σ H xs us Q I rs q
 .exact h' aa s σ H xs us Q I rs q
def pd:CallR X (.type "list") (λxs H Q=>∃p ys,xs=[.ref p]/\(SqL X.K H p ys\/SqT X.K H p ys)/\∀l,H l=none->Q (.ref l) (upd H l (.lst ys))):=by
 intro aa s σ H xs us Q I r h;obtain⟨p,ys,rfl,hq,q⟩:=h;obtain⟨u,rfl,rx⟩:=db r;cases rx;have fin:∀(its:List SD),Vals ys its->ys.length<=sizeLine->∀(h':Heap)(c':Nat),(∀b o',s.heap.get? b=some o'->h'.get? b=some o')->
  h'.get? s.heap.objs.size=some { cls:=.type "list",dict:=none,data:=.seq its.toArray c',slots:=#[] }->EP X aa σ Q (.ref s.heap.objs.size) {s with heap:=h'}:=λits r' hz h' c' kp e=>
  ⟨.ref s.heap.objs.size,_,I.laid (t':=s.toks) kp (Ou _) (show ObjOk X.prog X.w _ h' _ (.lst ys)from⟨hz,its,c',r',e⟩),rfl,q _ (I.aF.fresh (Ou _))⟩
 rcases hq with hq|hq
 .obtain⟨its,r',pl,hz⟩:=I.list hq;have bR:=r'.length;obtain⟨o,ho,hc,n,hd⟩:=pl.isList;exact call_list_seq p (.inl rfl) ho hc hd (λh' c' kp e=>fin its r' hz h' c' kp e) (by simp only[Oz]<;>lia)
 .obtain⟨its,r',pl,hz⟩:=I.tuple hq;have bR:=r'.length;obtain⟨o,ho,hc,n,hd⟩:=pl;exact call_list_seq p (.inr rfl) ho hc hd (λh' c' kp e=>fin its r' hz h' c' kp e) (by simp only[Oz]<;>lia)
def B3(K:SB)(T:String)(x:V)(H:Hp):Prop:=match x with
 |.str _=>T="str"
 |.int _=>T="int"
 |.ref p=>(T="list"/\∃xs,SqL K H p xs)\/(T="tuple"/\∃o,K.lookup p=some o/\o.cls=.type "tuple"/\o.dict=none)\/
  (T="dict"/\((∃kvs,H p=some (.dK kvs))\/∃kvs,H p=some (.dT kvs)))\/(T="set"/\∃S n,H p=some (.set S n))
 |_=>False
def yK(I:Inv X aa σ H s)(r:RelV x v)(ty:B3 X.K T x H) :
 s.TypeIs v T/\∀a,v=.ref a->∃ob,s.heap.get? a=some ob/\ob.dict=none:=by
 cases x with
 |str z=>obtain⟨t,rfl⟩:=r;cases(show T="str" from ty);exact⟨typeIs_str s z t,λ_ e=>nomatch e⟩
 |int i=>obtain⟨t,rfl⟩:=r;cases(show T="int" from ty);exact⟨typeIs_int s i t,λ_ e=>nomatch e⟩
 |ref p=>
  cases r;rcases ty with⟨rfl,xs,hq⟩|⟨rfl,o,hk,hc,hd⟩|⟨rfl,hk⟩|⟨rfl,S,n,hk⟩
  .obtain⟨its,_,pl,_⟩:=I.list hq;refine⟨pl.isList.typeIs,λa e=>?_⟩;cases e;obtain⟨o,n,e,c,hd,_⟩:=pl;exact⟨o,e,hd⟩
  .refine⟨⟨o,I.kq p o hk,hc⟩,λa e=>?_⟩;cases e;exact⟨o,I.kq _ o hk,hd⟩
  .have z:∃o,s.heap.get? p=some o/\o.ExactDict:=by
    rcases hk with⟨kvs,hk⟩|⟨kvs,hk⟩
    .obtain⟨_,_,_,_,o,_,_,e,ex,_⟩:=I.aF p _ hk;exact⟨o,e,ex⟩
    .obtain⟨_,_,_,_,o,_,_,e,ex,_⟩:=I.aF p _ hk;exact⟨o,e,ex⟩
   obtain⟨o,e,ex⟩:=z;refine⟨⟨o,e,ex.1⟩,λa e2=>?_⟩;cases e2;exact⟨o,e,ex.2.1⟩
  .obtain⟨o,_,_,_,e,ex,_⟩:=I.aF p _ hk;refine⟨⟨o,e,ex.1⟩,λa e2=>?_⟩;cases e2;exact⟨o,e,ex.2.1⟩
 |_=>exact False.elim ty
noncomputable def Fu(K:SB)(T:String)(r:V->List V->Hp->VK->Prop)(to:TE):TE:=λσ H Q=>to σ H λx H1=>B3 K T x H1/\r x [] H1 Q
noncomputable def qJ(K:SB)(T:String)(r:V->List V->Hp->VK->Prop)(to:TE)(t:TA):TE:=λσ H Q=>to σ H λx H1=>B3 K T x H1/\t σ H1 λxs H2=>r x xs H2 Q
variable{o e:Expr}{es:List Expr}{to:TE}{t:TA}{name:Str}{apos cpos:Pos}{T id:String}{r:V->List V->Hp->VK->Prop}
def Fv(pa:PlainAttrs T)(slot:Slot T name id)(hty:typeOf (.builtin id)=pure (.type "method_descriptor")) (hm:Fo X id r) (ho:PE X o to)
 (hbase:autoParam (attributeBase o name X.env (eval o X.env)=eval o X.env) SN) (hline:autoParam ((apos.endLine==cpos.line)=true) SN):PE X (.Call (.Attribute o name apos) [] [] cpos) (Fu X.K T r to):=by
 intro aa s σ H Q I h;refine wpAny_Call_method0_late hbase hline (bQ (ho aa s σ H _ I h) λv s1 ⟨x,H1,I1,r1,ty,q1⟩=>?_);obtain⟨h1,h2⟩:=yK I1 r1 ty;exact⟨T,id,pa,slot,hty,h1,h2,QU rfl (PySem.evalArgs_none (hm aa s1 σ H1 x [] v [] Q I1 r1 .nil q1))⟩
def d7(pa:PlainAttrs T)(slot:Slot T name id)(hty:typeOf (.builtin id)=pure (.type "method_descriptor")) (hm:Fo X id r) (ho:PE X o to) (ha:PA X (e::es) t)
 (hbase:autoParam (attributeBase o name X.env (eval o X.env)=eval o X.env) SN)
 (hfew:autoParam (((backTo cpos (starEach (e::es) X.env)).all (λx=>!x.1)&&(backToKw cpos (keywordEach [] X.env)).all (λx=>x.1.isSome)
   && decide ((e::es).length+([]:List Keyword).length+(if([]:List Keyword).isEmpty then 0 else 1)<30))=true) SN)
 (hline:autoParam ((apos.endLine==cpos.line)=true) SN) (hs:autoParam (starEach (e::es) X.env=(false,eval e X.env)::starEach es X.env) SN) (hplain:autoParam (bT X cpos es) SN) :
 PE X (.Call (.Attribute o name apos) (e::es) [] cpos) (qJ X.K T r to t):=by
 intro aa s σ H Q I h;refine wpAny_Call_method_late hbase hfew hline rfl (bQ (ho aa s σ H _ I h) λv s1 ⟨x,H1,I1,r1,ty,q1⟩=>?_);obtain⟨h1,h2⟩:=yK I1 r1 ty;refine⟨T,id,pa,slot,hty,h1,h2,?_⟩;have hA:=ha cpos aa s1 σ H1 _ I1 q1;rw[hs]at hA ⊢;refine QU (by show(false ||(backTo cpos (starEach es X.env)).any (·.1))=false;rw[hplain]<;>rfl) (Calls.evalArgs_plain ?_);exact bQ hA λus s2 ⟨vs,H2,I2,r2,q2⟩=>hm aa s2 σ H2 x vs v us Q I2 r1 r2 q2
end
def LK(X:Cx)(id:String)(r:V->List V->Hp->VK->Prop):Prop:=
 ∀(aa:List (Addr×Obj))(s:Sz)(σ:St)(H:Hp)(x:V)(xs:List V)(v:SD)(us:List SD)(Q:VK),Inv X aa σ H s->RelV x v->Vals xs us->r x xs H Q->
  wpAny (model X.prog X.w) X.A (call (.builtin id) (v::us)) (EP X aa σ Q) X.xe s
def Vals.one{x:V}{us:List SD}(h:Vals [x] us):∃u,us=[u]/\RelV x u:=db h
def Vals.zero:∀{us:List SD},Vals [] us->us=[]
 |_,.nil=>rfl
theorem Vals.dropLast(h:Vals xs us):Vals xs.dropLast us.dropLast:=by
 induction h with
 |nil=>exact .nil
 |cons r t ih=>
  cases t with
  |nil=>exact .nil
  |cons q t'=>exact .cons r ih
def t9{α:Type}(l:List α):l.eraseIdx (l.length-1)=l.dropLast:=by
 induction l with
 |nil=>rfl
 |cons a r ih=>
  cases r with
  |nil=>rfl
  |cons b r=>
   have e:(a::b::r).length-1=((b::r).length-1)+1:=by have h1:(a::b::r).length=r.length+2:=rfl;have h2:(b::r).length=r.length+1:=rfl;lia
   rw[e,List.eraseIdx_cons_succ,ih]
   all_goals rfl
section
def Inv.HZ{its its':List SD}{f:Array SD->Array SD}(I:Inv X aa σ H s)(hH:H l=some (.lst xs))
 (e:s.heap.get? l=some { cls:=.type "list",data:=.seq its.toArray n }) (hf:f its.toArray=its'.toArray) (hv:Vals ys its') (hz:ys.length<=sizeLine) :
 Inv X aa σ (upd H l (.lst ys)) {s with heap:=s.heap.update l (Obj.mapSeq f),toks:=t'}:=by
 have q:=PySem.IsL.update e f;rw[hf]at q;refine I.write (x:=l) (e:=l) (by rw[hH];exact trivial) (.inl rfl) (λb' u hb hu=>(Qx s.heap (Obj.mapSeq f) (PV hb)).trans hu) ⟨_,q⟩ ?_;exact⟨hz,its',_,hv,q⟩
def Inv.MX(I:Inv X aa σ H s)(hv:Vals ys its)(hz:ys.length<=sizeLine) :
 Inv X aa σ (upd H s.heap.objs.size (.lst ys)) { s with heap:=s.heap.push { cls:=.type "list",data:=.seq its.toArray },toks:=t' }:=
 I.laid (λ_ _ q=>Ot _ q) (Ou _) ⟨hz,its,0,hv,Oy _ rfl⟩
theorem Inv.fresh(I:Inv X aa σ H s):H s.heap.objs.size=none:=I.aF.fresh (Ou _)
def Inv.D2(I:Inv X aa σ H s)(hH:H l=some (.lst xs)):xs.length<=sizeLine/\∃(its:List SD)(n:Nat),Vals xs its/\xs.length=its.length/\s.heap.get? l=some { cls:=.type "list",data:=.seq its.toArray n }:=by obtain⟨z,its,n,r,e⟩:=I.aF l _ hH;exact⟨z,its,n,r,r.length,e⟩
def yL(h:n<=sizeLine):Builtin.List.listTooLong n=false:=by unfold Builtin.List.listTooLong;exact Po (by lia)
end
section
def g7:V->List V->Hp->VK->Prop:=λx vs H Q=>∃l xs y,x=.ref l/\vs=[y]/\H l=some (.lst xs)/\xs.length<sizeLine/\Q .ba (upd H l (.lst (xs++[y])))
def fq:LK X "list.append" g7:=by intro aa s σ H x vs v us Q I rx rv h;obtain⟨l,xs,y,rfl,rfl,hH,hz,q⟩:=h;cases rx;obtain⟨u,rfl,ru⟩:=rv.one;obtain⟨z,its,n,r,hl,e⟩:=I.D2 hH;refine call_meets F.slot_list_append ⟨_,e,rfl⟩ F.entry_list_append (F.args_list_append_2 _ _) (PySem.list_append l its.toArray n u (by rw[Oz];lia)) ⟨e,?_⟩;refine⟨.ba,_,I.HZ (its':=its++[u]) hH e (by simp) (r.append (.cons ru .nil)) ?_,rfl,q⟩;rw[OC,P6];lia
def vn:V->List V->Hp->VK->Prop:=λx vs H Q=>∃l b xs zs,x=.ref l/\vs=[.ref b]/\H l=some (.lst xs)/\H b=some (.lst zs)/\xs.length+zs.length<=sizeLine/\Q .ba (upd H l (.lst (xs++zs)))
def wR:LK X "list.extend" vn:=by
 intro aa s σ H x vs v us Q I rx rv h;obtain⟨l,b,xs,zs,rfl,rfl,hH,hB,hz,q⟩:=h;cases rx;obtain⟨u,rfl,ru⟩:=rv.one;cases ru;obtain⟨z,its,n,r,hl,e⟩:=I.D2 hH;obtain⟨z2,its2,n2,r2,hl2,e2⟩:=I.D2 hB;have hsz:its.toArray.size+its2.toArray.size<=sizeLine:=by rw[Oz,Oz];lia
 have hlong:¬(!its.toArray.isEmpty&&Builtin.List.listTooLong (its.toArray.size+its2.toArray.size))=true:=by rw[yL hsz,RP];exact OS
 refine call_meets F.slot_list_extend ⟨_,e,rfl⟩ F.entry_list_extend (F.args_list_extend_2 _ _)
  (AutoSeq1.list_extend_list_list_0 l its.toArray n b its2.toArray n2 hlong (by rw[Oz];lia) (by lia)) ⟨e,e2,?_⟩
 refine⟨.ba,_,I.HZ (its':=its++its2) hH e (by simp) (r.append r2) ?_,rfl,q⟩;rw[OC];lia
def IR:V->List V->Hp->VK->Prop:=λx vs H Q=>∃l xs y,x=.ref l/\vs=[]/\H l=some (.lst xs)/\xs[xs.length-1]?=some y/\Q y (upd H l (.lst xs.dropLast))
def Fy:LK X "list.pop" IR:=by
 intro aa s σ H x vs v us Q I rx rv h;obtain⟨l,xs,y,rfl,rfl,hH,hy,q⟩:=h;cases rx;have hus:=rv.zero;subst hus;obtain⟨z,its,n,r,hl,e⟩:=I.D2 hH;obtain⟨u,hu,ru⟩:=r.get hy;have hy':its.toArray[its.toArray.size-1]?=some u:=by show its.toArray[its.length-1]?=some u;rw[<- OU,<- hl];exact hu
 refine call_meets F.slot_list_pop ⟨_,e,rfl⟩ F.entry_list_pop (F.args_list_pop_1 _) (MeetsSeq.list_pop_last l its.toArray n u hy' (by rw[Oz];lia)) ⟨e,?_⟩;refine⟨y,_,I.HZ (its':=its.dropLast) hH e ?_ r.dropLast ?_,ru,q⟩
 .show its.toArray.eraseIdxIfInBounds (its.toArray.size-1)=its.dropLast.toArray;rw[Oz,List.eraseIdxIfInBounds_toArray,t9]
 .rw[List.length_dropLast];lia
end
section
variable{κ:Type}[DecidableEq κ]
noncomputable def aL(kvs:List (κ×V))(k:κ):Option V:=(kvs.find? λkv=>decide (kv.1=k)).map (·.2)
noncomputable def bp(kvs:List (κ×V))(k:κ)(v:V):List (κ×V):=if(kvs.any λkv=>decide (kv.1=k))=true then kvs.map (λkv=>if kv.1=k then(kv.1,v)else kv)else kvs++[(k,v)]
def aW{p:κ×V}(e:p.1=k):aL (p::r) k=some p.2:=by simp[aL,QY,e]
def a_{p:κ×V}(e:¬p.1=k):aL (p::r) k=aL r k:=by simp[aL,QY,e]
theorem gv(k:κ):∀kvs:List (κ×V),(kvs.any λkv=>decide (kv.1=k))=(aL kvs k).isSome
 |[]=>rfl
 |p::r=>by
  rw[Qe];by_cases e:p.1=k
  .simp only[aW e,OT e,Bool.true_or,Option.isSome_some]
  .rw[a_ e,Po e,Bool.false_or];exact gv k r
theorem cp(kvs:List (κ×V))(k:κ)(v:V):(bp kvs k v).length<=kvs.length+1:=by grind [bp]
def dH{kvs:List (κ×V)}(v:V)(h:aL kvs k=none):bp kvs k v=kvs++[(k,v)]:=by unfold bp;rw[gv,h];exact Ox (by decide)
def RelO.cq(r:RelO o u):o.isSome=u.isSome:=by
 cases o with
 |none=>cases u with
  |none=>rfl
  |some _=>exact(show False from r).elim
 |some _=>cases u with
  |none=>exact(show False from r).elim
  |some _=>rfl
theorem RelO.getD(r:RelO o u)(rd:RelV d d'):RelV (o.getD d) (u.getD d'):=by
 cases o with
 |none=>cases u with
  |none=>exact rd
  |some _=>exact(show False from r).elim
 |some _=>cases u with
  |none=>exact(show False from r).elim
  |some _=>exact r
def KV.val{kvs:List (κ×V)}(r:KV kvs vs)(k:κ):RelO (aL kvs k) (valueAt vs k):=by
 unfold KV at r;induction r with
 |nil=>exact True.intro
 |@cons p q ps qs h t ih=>
  obtain⟨h1,h2⟩:=h;by_cases e:p.1=k
  .have e':q.1=k:=h1.symm.trans e;have b:valueAt (q::qs) k=some q.2:=by simp[valueAt,QY,e']
   rw[aW e,b];exact h2
  .have e':¬q.1=k:=λz=>e (h1.trans z);have b:valueAt (q::qs) k=valueAt qs k:=by simp[valueAt,QY,e']
   rw[a_ e,b];exact ih
theorem KV.any(r:KV kvs vs)(k:κ):(kvs.any λkv=>decide (kv.1=k))=vs.any λkv=>decide (kv.1=k):=by
 unfold KV at r;induction r with
 |nil=>rfl
 |cons h t ih=>rw[Qe,Qe,ih,h.1]
def KV.vh(r:KV kvs vs)(k:κ)(ry:RelV y u) :
 KV (kvs.map λkv=>if kv.1=k then(kv.1,y)else kv) (vs.map λkv=>if kv.1=k then(kv.1,u)else kv):=by
 unfold KV at r ⊢;induction r with
 |nil=>exact .nil
 |@cons p q ps qs h t ih=>
  rw[OH,OH];refine .cons ?_ ih
  grind
def KV.put(r:KV kvs vs)(k:κ)(ry:RelV y u):KV (bp kvs k y) (stored vs k u):=by
 unfold bp stored;rw[r.any k];by_cases e:(vs.any λkv=>decide (kv.1=k))=true
 .rw[Ow e,Ow e];exact r.vh k ry
 .rw[Ox e,Ox e];exact Paired.snoc r ⟨rfl,ry⟩
theorem KV.length(r:KV kvs vs):kvs.length=vs.length:=QN r
end
def gw(r:RelV (kV k) u):(aj P w).is k u=true:=by
 cases k with
 |inl i=>obtain⟨t,e⟩:=(show ∃t,u=Value.int i t from r);subst e;exact qK P w i t
 |inr x=>obtain⟨t,e⟩:=(show ∃t,u=Value.str x t from r);subst e;exact qL P w x t
theorem nY:∀{ks:List aG}{us:List SD},Vals (ks.map kV) us->ItemsAre (aj P w) ks us
 |[],_,r=>by rw[RV]at r;cases r;exact .nil
 |k::ks,_,r=>by
  rw[OH]at r;cases r with
  |cons h t=>exact .cons (gw h) (nY t)
abbrev KT(H:Hp):List (List aG×V)->List (List aG×Addr×SD)->Prop:=Paired λp q=>p.1=q.1/\H q.2.1=some (.tup (p.1.map kV))/\RelV p.2 q.2.2
def KT.val{H:Hp}(r:KT H kvs xs)(k:List aG):RelO (aL kvs k) ((atKey xs k).map (·.2)):=by
 induction r with
 |nil=>exact True.intro
 |@cons p q ps qs h t ih=>
  obtain⟨h1,_,h2⟩:=h;by_cases e:p.1=k
  .have e':q.1=k:=h1.symm.trans e;have b:atKey (q::qs) k=some q.2:=by simp[atKey,QY,e']
   rw[aW e,b];exact h2
  .have e':¬q.1=k:=λz=>e (h1.trans z);have b:atKey (q::qs) k=atKey qs k:=by simp[atKey,QY,e']
   rw[a_ e,b];exact ih
def KT.vh(r:KT H kvs xs)(k:List aG)(ry:RelV y u) :
 KT H (kvs.map λkv=>if kv.1=k then(kv.1,y)else kv) (xs.map (putAt k u)):=by
 induction r with
 |nil=>exact .nil
 |@cons p q ps qs h t ih=>
  rw[OH,OH];refine .cons ?_ ih;obtain⟨h1,h2,h3⟩:=h;unfold putAt
  grind
def KT.put(r:KT H kvs xs)(k:List aG)(hb:H b=some (.tup (k.map kV)))(ry:RelV y u) :
 KT H (bp kvs k y) (storedH xs k b u):=by
 have e:(kvs.any λkv=>decide (kv.1=k))=(atKey xs k).isSome:=by rw[gv,(r.val k).cq,Q1]
 unfold bp storedH;rw[e];by_cases q:(atKey xs k).isSome=true
 .rw[Ow q,Ow q];exact r.vh k ry
 .rw[Ox q,Ox q];exact Paired.snoc r ⟨rfl,hb,ry⟩
def KT.keeps(r:KT H kvs xs)(ht:∀b ys,H b=some (.tup ys)->H' b=some (.tup ys)):KT H' kvs xs:=Paired.HX r λ_ _ z=>⟨z.1,ht _ _ z.2.1,z.2.2⟩
section
def Eb(ok:HOk P w H h)(e:Rd H a u):ObjOk P w H h a u:=e.ok ok
def iV(ok:HOk P w H h)(e:Rd H a (.dK kvs)):kvs.length<=sizeLine/\(a==sysModules)=false/\∃vs,KV kvs vs/\h.DictOf (aj P w) a vs:=show ObjOk P w H h a (.dK kvs)from Eb ok e
def Ec(ok:HOk P w H h)(e:H a=some (.dK kvs)):kvs.length<=sizeLine/\(a==sysModules)=false/\∃vs,KV kvs vs/\h.DictOf (aj P w) a vs:=iV ok (.inl e)
theorem cO(ok:HOk P w H h)(e:H a=some (.tup (ks.map kV))):(tupleKind (aj P w)).is h ks a:=by obtain⟨_,its,r,o,h1,h2,n,h3⟩:=(show ObjOk P w H h a (.tup (ks.map kV))from ok a _ e);exact⟨o,its.toArray,n,h1,h2,h3,by simpa using nY r⟩
def j_(ok:HOk P w H h)(e:Rd H a (.dT kvs)):kvs.length<=sizeLine/\(a==sysModules)=false/\
 ∃xs,KT H kvs xs/\h.DictOfH (tupleKind (aj P w)) a xs:=by
 obtain⟨z,y,xs,r,o,es,ep,h1,h2,h3,h4,h5⟩:=(show ObjOk P w H h a (.dT kvs)from Eb ok e);refine⟨z,y,xs,r,o,es,ep,h1,h2,h3,h4,λx hx=>?_,h5⟩;have all:∀{l:List (List aG×V)}{m:List (List aG×Addr×SD)},KT H l m->∀x∈m,(tupleKind (aj P w)).is h x.1 x.2.1:=by
  intro l m q;induction q with
  |nil=>intro x hx;exact nomatch hx
  |@cons p q ps qs hq t ih=>grind [cO]
 exact all r x hx
def Ed(ok:HOk P w H h)(e:H a=some (.dT kvs)):kvs.length<=sizeLine/\(a==sysModules)=false/\
 ∃xs,KT H kvs xs/\h.DictOfH (tupleKind (aj P w)) a xs:=j_ ok (.inl e)
end
def DGet(H:Hp)(a:Addr)(y:V)(r:Option V):Prop:=(∃kvs k,Rd H a (.dK kvs)/\y=kV k/\r=aL kvs k)\/∃kvs k b,Rd H a (.dT kvs)/\y=.ref b/\H b=some (.tup (k.map kV))/\r=aL kvs k
def DPut(H:Hp)(a:Addr)(y v:V)(H':Hp):Prop:=
 (∃kvs k,H a=some (.dK kvs)/\y=kV k/\kvs.length<sizeLine/\H'=upd H a (.dK (bp kvs k v)))\/
 ∃kvs k b,H a=some (.dT kvs)/\y=.ref b/\H b=some (.tup (k.map kV))/\kvs.length<sizeLine/\H'=upd H a (.dT (bp kvs k v))
theorem DGet.k{kvs:List (aG×V)}{k:aG}(e:H a=some (.dK kvs)):DGet H a (kV k) (aL kvs k):=.inl ⟨kvs,k,.inl e,rfl,rfl⟩
def DGet.t{kvs:List (List aG×V)}{k:List aG}(e:H a=some (.dT kvs))(eb:H b=some (.tup (k.map kV))):DGet H a (.ref b) (aL kvs k):=.inr ⟨kvs,k,b,.inl e,rfl,eb,rfl⟩
theorem DPut.k{kvs:List (aG×V)}{k:aG}{v:V}(e:H a=some (.dK kvs))(hl:kvs.length<sizeLine):DPut H a (kV k) v (upd H a (.dK (bp kvs k v))):=.inl ⟨kvs,k,e,rfl,hl,rfl⟩
section
def Inv.big(I:Inv X aa σ H s):sysModules<s.heap.objs.size:=by have h:mainGlobals<s.heap.objs.size:=(I.mod.glob.keeps I.bk).lt;exact Si (by decide) h
def wU(hu:A.units+1<cLine)(I:Inv X aa σ H s)(g:DGet H a y (some v))(ry:RelV y u)(h:∀w' s',Inv X aa σ H s'->RelV v w'->Q w' s') :
 wpAny (model X.prog X.w) A (getItem (.ref a) u) Q E s:=by
 rcases g with⟨kvs,k,e,ey,l⟩|⟨kvs,k,b,e,ey,eb,l⟩
 .subst ey;obtain⟨z,hd,vs,rel,dd⟩:=iV I.aF e;obtain⟨w',hw,rw'⟩:=RelO.some_of (v:=v) (o:=valueAt vs k) (by rw[l];exact rel.val k);exact wpAny_getItem_of (gw ry) dd.mapOf hw (h w' _ (I.tok _) rw')
 .subst ey;cases(show u=Value.ref b from ry);obtain⟨z,hd,xs,rel,dd⟩:=j_ I.aF e;obtain⟨w',hw,rw'⟩:=RelO.some_of (v:=v) (o:=(atKey xs k).map (·.2)) (by rw[l];exact rel.val k);obtain⟨p,hp,hp2⟩:=OY.mp hw;refine wpAny_getItem_heap (Qo hu) (cO I.aF eb) dd hp ?_;rw[hp2];exact h w' _ (I.tok _) rw'
def LL(hu:A.units+1<cLine)(I:Inv X aa σ H s)(g:DGet H a y o)(ry:RelV y u)(h:∀s',Inv X aa σ H s'->Q (.bool o.isSome) s') :
 wpAny (model X.prog X.w) A (compareOp .In u (.ref a)) Q E s:=by
 rcases g with⟨kvs,k,e,ey,l⟩|⟨kvs,k,b,e,ey,eb,l⟩
 .subst ey;obtain⟨z,hd,vs,rel,dd⟩:=iV I.aF e;refine wpAny_in_of (gw ry) hd dd.mapOf ?_;rw[<- (rel.val k).cq,<- l];exact h _ (I.tok _)
 .subst ey;cases(show u=Value.ref b from ry);obtain⟨z,hd,xs,rel,dd⟩:=j_ I.aF e;refine wpAny_in_heap (Qo hu) (cO I.aF eb) hd dd ?_;have q:=(rel.val k).cq;rw[Q1]at q;rw[<- q,<- l];exact h _ (I.tok _)
def B4(hu:A.units+1<cLine)(I:Inv X aa σ H s)(g:DGet H a y o)(ry:RelV y u)(h:∀s',Inv X aa σ H s'->Q (.bool (!o.isSome)) s') :
 wpAny (model X.prog X.w) A (compareOp .NotIn u (.ref a)) Q E s:=by
 rcases g with⟨kvs,k,e,ey,l⟩|⟨kvs,k,b,e,ey,eb,l⟩
 .subst ey;obtain⟨z,hd,vs,rel,dd⟩:=iV I.aF e;refine wpAny_notIn_of (gw ry) hd dd.mapOf ?_;rw[<- (rel.val k).cq,<- l];exact h _ (I.tok _)
 .subst ey;cases(show u=Value.ref b from ry);obtain⟨z,hd,xs,rel,dd⟩:=j_ I.aF e;refine wpAny_notIn_heap (Qo hu) (cO I.aF eb) hd dd ?_;have q:=(rel.val k).cq;rw[Q1]at q;rw[<- q,<- l];exact h _ (I.tok _)
def fO(I:Inv X aa σ H s)(mu:E6 (H a))(hs:Heap.SameBut a s.heap h')(he:∃q,h'.get? a=some q)(new:ObjOk X.prog X.w (upd H a ob) h' a ob) :
 Inv X aa σ (upd H a ob) {s with heap:=h',toks:=t'}:=
 I.write (x:=a) (e:=a) mu (.inl rfl) (λb q hb z=>(hs.2 b hb).trans z) he new
def ph(z:kvs.length<=sizeLine)(hd:(a==sysModules)=false)(rel:KV kvs vs)(dd:h'.DictOf (aj P w) a vs) :
 ObjOk P w H' h' a (.dK kvs):=⟨z,hd,vs,rel,dd⟩
def wV(hu:A.units+1<cLine)(I:Inv X aa σ H s)(g:DPut H a y v H')(ry:RelV y u)(rv:RelV v r)(h:∀s',Inv X aa σ H' s'->Q () s') :
 wpAny (model X.prog X.w) A (setItem (.ref a) u r) Q E s:=by
 rcases g with⟨kvs,k,e,ey,l,eH⟩|⟨kvs,k,b,e,ey,eb,l,eH⟩
 .subst ey eH;obtain⟨z,hd,vs,rel,dd⟩:=Ec I.aF e;have hz:vs.length<=sizeLine:=by rw[<- rel.length];exact z
  have hl:(bp kvs k v).length<=sizeLine:=by have:=cp kvs k v;lia
  refine wpAny_setItem_pairs (hsz:=hz) (gw ry) dd λh' dd' hs=>h _ ?_;have he:∃q,h'.get? a=some q:=let ⟨q,_,_,hq,_⟩:=dd';⟨q,hq⟩;exact fO I (by rw[e];exact True.intro) hs he (ph hl hd (rel.put k rv) dd')
 .subst ey eH;cases(show u=Value.ref b from ry);obtain⟨z,hd,xs,rel,dd⟩:=Ed I.aF e;have hz:xs.length<=sizeLine:=by rw[<- QN rel];exact z
  have hl:(bp kvs k v).length<=sizeLine:=by have:=cp kvs k v;lia
  refine wpAny_setItem_heap (hsz:=hz) (Qo hu) (cO I.aF eb) dd λh' dd' hs=>h _ ?_;obtain⟨q,es,ep,hq,h2,h3,h4,_,h5⟩:=dd';refine fO I (by rw[e];exact True.intro) hs ⟨q,hq⟩ ⟨hl,hd,_,(rel.put k eb rv).keeps λc ys ec=>?_,q,es,ep,hq,h2,h3,h4,h5⟩;rw[ah (yy ec e (λz=>nomatch z))];exact ec
end
def IS(i:Expr):Prop:=∀ov iv,subscripted i false ov iv=operate [ov,iv] (getItem ov iv)
def B5{E:SD->Sz->Prop}{env:Env}{value slice:Expr}{pos:Pos}{T id:String}{Q:SD->Sz->Prop}
 (hl:typeLookup (.type T) "__getitem__"=pure (some (.builtin id))) (hs:IS slice)
 (h:wpAny (model prog w) A (eval value env) (λo s₁=>wpAny (model prog w) A (eval slice env) (λi s₂=>s₂.TypeIs o T/\wpAny (model prog w) A (getItem o i) Q E s₂) E s₁) E s) :
 wpAny (model prog w) A (eval (.Subscript value slice pos) env) Q E s:=by
 refine Subscript_ (Qc h (λo s₁ h₁=>Qc h₁ (λi s₂ h₂=>?_) λ_ _ x=>x) λ_ _ x=>x);obtain⟨hT,h₂⟩:=h₂;unfold subscriptTail;refine KE ?_;rw[getitemInPython_of_ne hT.not_modules];refine KE (QH hT hl ?_);have fin:wpAny (model prog w) A (subscripted slice false o i) (λr s₃=>wpAny (model prog w) A (letTemporaryGo value o r >>= λ_=>pure r) Q E s₃) E s₂:=by rw[hs o i];exact wpAny_operating (Qc h₂ (λr s₃ h₃=>KE (wpAny_letTemporaryGo (Os h₃))) λ_ _ x=>x)
 first
  |exact Os (KE fin)
  |exact KE (Os (KE fin))
  |exact KE fin
def qW(I:Inv X aa σ H s)(g:DGet H a y o):s.TypeIs (.ref a) "dict":=by
 rcases g with⟨kvs,k,e,_,_⟩|⟨kvs,k,b,e,_,_,_⟩
 .obtain⟨_,_,vs,_,dd⟩:=iV I.aF e;exact dd.typeIs
 .obtain⟨_,_,xs,_,dd⟩:=j_ I.aF e;exact dd.typeIs
noncomputable def iW(td ty:TE):TE:=λσ H Q=>td σ H λx H1=>ty σ H1 λy H2=>∃a v,x=.ref a/\DGet H2 a y (some v)/\Q v H2
noncomputable def nZ(td ty tv:TE):TS:=λD σ H=>tv σ H λv H1=>td σ H1 λx H2=>ty σ H2 λy H3=>∃a H4,x=.ref a/\DPut H3 a y v H4/\D.nx σ H4
section
def pj(hu:X.A.units+1<cLine)(ho:PE X o td)(hi:PE X i ty)(hs:IS i):PE X (.Subscript o i pos) (iW td ty):=by intro aa s σ H Q I h;refine B5 PySem.F.slot_dict_getitem.lookup hs (bQ (ho aa s σ H _ I h) λu s1 ⟨x,H1,I1,rx,q1⟩=>bQ (hi aa s1 σ H1 _ I1 q1) λiv s2 ⟨y,H2,I2,ry,a,v,ex,g,q2⟩=>?_);subst ex;obtain rfl:u=Value.ref a:=rx;exact⟨qW I2 g,wU hu I2 g ry λw' s3 I3 rw'=>⟨v,H2,I3,rw',q2⟩⟩
def kR(hu:X.A.units+1<cLine)(ho:PE X o td)(hi:PE X i ty)(hv:PE X value tv)(hs:swapsWith value (some (.Subscript o i pos')) pos.line X.env=pure false) :
 PS X (.Assign [.Subscript o i pos'] value pos) (nZ td ty tv):=by
 intro aa s σ H D I h;refine wpAny_Assign_Subscript (bQ (hv aa s σ H _ I h) λr s1 ⟨v,H1,I1,rv,q1⟩=>bQ (ho aa s1 σ H1 _ I1 q1) λu s2 ⟨x,H2,I2,rx,q2⟩=>bQ (hi aa s2 σ H2 _ I2 q2) λiv s3 ⟨y,H3,I3,ry,a,H4,ex,g,q3⟩=>?_) hs;subst ex;obtain rfl:u=Value.ref a:=rx;exact wV hu I3 g ry rv λs4 I4=>⟨σ,H4,I4,q3⟩
end
def qX(h:Heap)(hb:sysModules<h.objs.size):ObjOk P w H (h.push { cls:=.type "dict",data:=.dict #[] }) h.objs.size (.dK []):=⟨OR _,QO.mpr (PV (OJ hb)),[],.nil,Heap.DictOf.new h⟩
def yM(h:Heap)(hb:sysModules<h.objs.size):ObjOk P w H (h.push { cls:=.type "dict",data:=.dict #[] }) h.objs.size (.dT []):=⟨OR _,QO.mpr (PV (OJ hb)),[],.nil,_,#[],0,Oy _ rfl,⟨rfl,rfl,rfl⟩,rfl,rfl,Qf⟩
def ci:TE:=λ_ H Q=>∀p,H p=none->Q (.ref p) (upd H p (.dK []))
def pq:TE:=λ_ H Q=>∀p,H p=none->Q (.ref p) (upd H p (.dT []))
section
def bI:PE X (.Dict [] [] pos) ci:=λaa s σ H Q I h=>wpAny_Dict_empty ⟨.ref s.heap.objs.size,_,I.laid (a:=s.heap.objs.size) (o:=.dK []) (t':=s.toks) (λ_ _ q=>Ot _ q) (Ou _) (qX s.heap I.big),rfl,h _ (I.aF.fresh (Ou _))⟩
def lJ:PE X (.Dict [] [] pos) pq:=λaa s σ H Q I h=>wpAny_Dict_empty ⟨.ref s.heap.objs.size,_,I.laid (a:=s.heap.objs.size) (o:=.dT []) (t':=s.toks) (λ_ _ q=>Ot _ q) (Ou _) (yM s.heap I.big),rfl,h _ (I.aF.fresh (Ou _))⟩
end
noncomputable def t_:List (TE×TE)->St->Hp->(List (V×V)->Hp->Prop)->Prop
 |[],_,H,Q=>Q [] H
 |(tk,tv)::r,σ,H,Q=>tk σ H λx H1=>tv σ H1 λy H2=>t_ r σ H2 λps H3=>Q ((x,y)::ps) H3
abbrev VV:List (V×V)->List (SD×SD)->Prop:=Paired λp q=>RelV p.1 q.1/\RelV p.2 q.2
def Lf(X:Cx)(pos:Pos)(keys:List (Option Expr))(values:List Expr)(trs:List (TE×TE)):Prop:=
 ∀(aa:List (Addr×Obj))(s:Sz)(σ:St)(H:Hp)(Q:List (V×V)->Hp->Prop),Inv X aa σ H s->t_ trs σ H Q->
  wpAny (model X.prog X.w) X.A (evalPairs (pairTrees keys values X.env pos)) (λvs s'=>∃ps H',Inv X aa σ H' s'/\VV ps vs/\Q ps H') X.xe s
def B6:Lf X pos [] [] []:=λaa s σ H Q I h=>pairTrees_nil_walk ⟨[],H,I,.nil,h⟩
def yN(hk:PE X k tk)(hv:PE X v tv)(hr:Lf X pos ks vs trs) :
 Lf X pos (some k::ks) (v::vs) ((tk,tv)::trs):=λaa s σ H Q I h=>
 pairTrees_cons_walk (bQ (hk aa s σ H _ I h) λu s1 ⟨x,H1,I1,rx,q1⟩=>bQ (hv aa s1 σ H1 _ I1 q1) λw2 s2 ⟨y,H2,I2,ry,q2⟩=>bQ (hr aa s2 σ H2 _ I2 q2) λws s3 ⟨ps,H3,I3,rel,q3⟩=>⟨(x,y)::ps,H3,I3,.cons ⟨rx,ry⟩ rel,q3⟩)
def bG(kvs more:List (aG×V)):List (aG×V):=more.foldl (λacc kv=>bp acc kv.1 kv.2) kvs
def KV.merge:∀{more:List (aG×V)}{rs:List (aG×SD)}{kvs:List (aG×V)}{vs:List (aG×SD)},KV more rs->KV kvs vs->KV (bG kvs more) (merged vs rs):=by
 intro more rs kvs vs r;unfold KV at r;induction r generalizing kvs vs with
 |nil=>intro q;exact q
 |@cons p q ps qs h t ih=>
  intro r0;have e:KV (bp kvs p.1 p.2) (stored vs q.1 q.2):=by have:=r0.put p.1 h.2;rw[<- h.1];exact this
  exact ih e
theorem cW:∀(more kvs:List (aG×V)),(bG kvs more).length<=kvs.length+more.length
 |[],kvs=>by show kvs.length<=kvs.length+0;lia
 |p::r,kvs=>by
  have h1:=cW r (bp kvs p.1 p.2)
  grind [cp,bG,bp]
theorem lK:∀{kvs:List (aG×V)}{ws:List (SD×SD)},VV (kvs.map λkv=>(kV kv.1,kv.2)) ws->∃rs,Carries (aj P w) ws rs/\KV kvs rs
 |[],_,r=>by rw[RV]at r;cases r;exact⟨[],True.intro,.nil⟩
 |p::kvs,_,r=>by
  rw[OH]at r;cases r with
  |@cons a b as bs h t=>obtain⟨rs,c,q⟩:=lK (P:=P) (w:=w) t;obtain⟨b1,b2⟩:=b;exact⟨(p.1,b2)::rs,⟨gw h.1,rfl,c⟩,.cons ⟨rfl,h.2⟩ q⟩
def Ee(trs:List (TE×TE)):TE:=λσ H Q=>∀p,H p=none->t_ trs σ (upd H p (.dK [])) λps H2=>H2 p=some (.dK [])/\∃kvs:List (aG×V),ps=kvs.map (λkv=>(kV kv.1,kv.2))/\kvs.length<=15/\Q (.ref p) (upd H2 p (.dK (bG [] kvs)))
def B7(h:Lf X pos keys values trs)(gb:keys.all (·.isSome)=true)(hl:keys.length=values.length)(h0:keys≠[])
 (h15:keys.length<=15):PE X (.Dict keys values pos) (Ee trs):=by
 intro aa s σ H Q I q;have hn:=I.aF.fresh (Ou s.heap.objs.size);have I1:=I.laid (a:=s.heap.objs.size) (o:=.dK []) (h':=s.heap.push { cls:=.type "dict",data:=.dict #[] }) (t':=s.toks) (λ_ _ q=>Ot _ q) (Ou _) (qX s.heap I.big);refine wpAny_Dict_walk (knd:=aj X.prog X.w) gb hl h0 h15 (bQ (h aa _ σ _ _ I1 (q _ hn)) λws s2 ⟨ps,H2,I2,rel,e,kvs,ep,lk,q2⟩=>?_);subst ep;obtain⟨rs,c,rk⟩:=lK (P:=X.prog) (w:=X.w) rel;obtain⟨z,hd,vs0,r0,dd⟩:=Ec I2.aF e;cases r0;refine⟨rs,c,dd,λh' dd' hs=>⟨.ref s.heap.objs.size,_,?_,rfl,q2⟩⟩;have hz:(bG [] kvs).length<=sizeLine:=by have h1:=cW kvs [];rw[QI]at h1;rw[Pg];lia
 have he:∃q,h'.get? s.heap.objs.size=some q:=let ⟨q,_,_,hq,_⟩:=dd';⟨q,hq⟩;exact fO I2 (by rw[e];exact True.intro) hs he (ph hz hd (rk.merge .nil) dd')
structure M1(X:Cx) (o:Expr) (m:Str) (apos:Pos) (e:Expr) (cpos:Pos):Prop where
 base:attributeBase o m X.env (eval o X.env)=eval o X.env
 EX:((backTo cpos (starEach [e] X.env)).all (λx=>!x.1)&&(backToKw cpos (keywordEach [] X.env)).all (λx=>x.1.isSome)
  && decide (([e]:List Expr).length+([]:List Keyword).length+(if([]:List Keyword).isEmpty then 0 else 1)<30))=true
 line:(apos.endLine==cpos.line)=true
 trees:backTo cpos (starEach [e] X.env)=[(false,eval e X.env)]
structure M2(X:Cx) (o:Expr) (m:Str) (apos:Pos) (e f:Expr) (cpos:Pos):Prop where
 base:attributeBase o m X.env (eval o X.env)=eval o X.env
 EX:((backTo cpos (starEach [e,f] X.env)).all (λx=>!x.1)&&(backToKw cpos (keywordEach [] X.env)).all (λx=>x.1.isSome)
  && decide (([e,f]:List Expr).length+([]:List Keyword).length+(if([]:List Keyword).isEmpty then 0 else 1)<30))=true
 line:(apos.endLine==cpos.line)=true
 trees:backTo cpos (starEach [e,f] X.env)=[(false,eval e X.env),(false,eval f X.env)]
def LM(H:Hp)(a:Addr):Prop:=(∃kvs,Rd H a (.dK kvs))\/∃kvs,Rd H a (.dT kvs)
def yO(I:Inv X aa σ H s)(d:LM H a) :
 s.TypeIs (.ref a) "dict"/\(∀b,Value.ref a=.ref b->∃ob,s.heap.get? b=some ob/\ob.dict=none)/\(a==sysModules)=false:=by
 rcases d with⟨kvs,e⟩|⟨kvs,e⟩
 .obtain⟨_,hd,vs,_,dd⟩:=iV I.aF e;refine⟨dd.typeIs,λb q=>?_,hd⟩;cases q;obtain⟨ob,_,_,h1,h2,_⟩:=dd;exact⟨ob,h1,h2.2.1⟩
 .obtain⟨_,hd,xs,_,dd⟩:=j_ I.aF e;refine⟨dd.typeIs,λb q=>?_,hd⟩;cases q;obtain⟨ob,_,_,h1,h2,_⟩:=dd;exact⟨ob,h1,h2.2.1⟩
section
def Fz(hu:A.units+1<cLine)(I:Inv X aa σ H s)(g:DGet H a y o)(ry:RelV y u)(rd:RelV d r)(h:∀w' s',Inv X aa σ H s'->RelV (o.getD d) w'->Q w' s') :
 wpAny (model X.prog X.w) A (call (.builtin "dict.get") [.ref a,u,r]) Q E s:=by
 rcases g with⟨kvs,k,e,ey,l⟩|⟨kvs,k,b,e,ey,eb,l⟩
 .subst ey;obtain⟨z,hd,vs,rel,dd⟩:=iV I.aF e;refine Sj RW dd.typeIs PySem.F.entry_dict_get (PySem.F.args_dict_get_3 _ _ _) (meets_dict_get_default (aj X.prog X.w) a (gw ry) hd r) ⟨_,dd.mapOf,h _ _ (I.tok _) ?_⟩;rw[l];exact(rel.val k).getD rd
 .subst ey;cases(show u=Value.ref b from ry);obtain⟨z,hd,xs,rel,dd⟩:=j_ I.aF e;refine Sj RW dd.typeIs PySem.F.entry_dict_get (PySem.F.args_dict_get_3 _ _ _) (meetsH_dict_get_default (tupleKind (aj X.prog X.w)) a b hd r) ⟨Qo hu,k,xs,cO I.aF eb,dd,h _ _ (I.tok _) ?_⟩;rw[l];exact(rel.val k).getD rd
end
noncomputable def dI(td ty tx:TE):TE:=λσ H Q=>td σ H λx H1=>∃a,x=.ref a/\LM H1 a/\ty σ H1 λy H2=>tx σ H2 λz H3=>∃o,DGet H3 a y o/\Q (o.getD z) H3
section
def fw(hu:X.A.units+1<cLine)(ho:PE X o td)(he:PE X e ty)(hf:PE X f tx)(m:M2 X o "get" apos e f cpos):PE X (.Call (.Attribute o "get" apos) [e,f] [] cpos) (dI td ty tx):=by intro aa s σ H Q I h;refine wpAny_Call_method m.base m.EX m.line Pc RW PySem.F.type_dict_get (bQ (ho aa s σ H _ I h) λu s1 ⟨x,H1,I1,rx,a,ex,d,q1⟩=>?_);subst ex;obtain rfl:u=Value.ref a:=rx;obtain⟨t1,t2,_⟩:=yO I1 d;refine⟨t1,t2,?_⟩;rw[m.trees];refine QU rfl (Calls.evalArgs_plain (Calls.spliced_cons (bQ (he aa s1 σ H1 _ I1 q1) λiv s2 ⟨y,H2,I2,ry,q2⟩=>Calls.spliced_cons (bQ (hf aa s2 σ H2 _ I2 q2) λfv s3 ⟨z,H3,I3,rz,ov,g,q3⟩=>Calls.spliced_nil ?_))));exact Fz hu I3 g ry rz λw' s4 I4 rw'=>⟨_,H3,I4,rw',q3⟩
end
end L2
namespace Att
open PySem PySem.W PySem.Calls PyProof.Rows
def ku:∀(ns:List Int)(vs:List SD),WellAll P h vs (ns.map WData.int)->IntsAre vs ns:=by
 intro ns;induction ns with
 |nil=>intro vs w;rw[RV]at w;cases w;exact .nil
 |cons n ns ih=>
  intro vs w;rw[OH]at w;cases w with
  |cons a b=>cases a;exact .cons _ _ (ih _ b)
def wW{l:OpenLaw}{n:Nat}(hn:l.most=some n){P:Params}
 (hpre:l.row.toRowW.claim.pre args=true) (hwl:WellAll P h vals args) :
 ∃a vs ns,vals=[Value.ref a]/\args=[WData.list (ns.map WData.int)]/\h.get? a=some { cls:=.type "list",data:=.seq vs.toArray }/\IntsAre vs ns/\ns.length<=n:=by
 have hsh:WShape.hasAll [] args [.list .int]=true:=(pre_splitW hpre).1;have hc:l.pre.holds [] {args:=args}=true:=(pre_splitW hpre).2;obtain⟨d,r,rfl,h1,h2⟩:=hasAllW_cons hsh;obtain rfl:=hasAllW_nil h2;obtain⟨xs,rfl,h3⟩:=hasW_list h1;obtain⟨ns,rfl⟩:=items_int h3;have bR:ns.length<=n:=by
  unfold OpenLaw.pre at hc;have h4:(WTm.not (.lt (.lit (.int (n:Int))) (.len (.arg 0)))).holds [] {args:=[.list (ns.map .int)]}=true:=by have h4:=(holds_andW hc).1;rw[hn]at h4;exact h4
  have h5:=condW_of h4 (w_not (w_lt w_lit (w_len_list (w_arg rfl))))
  grind
 cases hwl with
 |cons w1 w2=>
  cases w2;cases w1 with
  |list ho gb=>exact⟨_,_,ns,rfl,rfl,ho,ku ns _ gb,bR⟩
def wY(l:OpenLaw)(args:List WData):l.row.toRowW.claim.post args (.bool true) args=true:=
 postW_of (r:=l.row.toRowW) (X:=(true==true))
  (show WShape.has [] (.bool true) .bool=true by first|rfl|decide|simp[WShape.has,WShape.arms,WShape.armsAll])
  (show(WTm.eq .res (.lit (.bool true))).value [] {args:=args,res:=some (.bool true),after:=args}=some (.bool (true==true))from w_eq_bool (w_res rfl) w_lit) rfl
def attach_call{l:OpenLaw}{n:Nat}{XP:(Str->Option SD)->Heap->Prop}{YP:World->Heap->Prop}
 (hn:l.most=some n) (hdf:d.params.defaults=[])
 (call:∀(w:World)(s₀ s₁:Sz)(mg mb:Str->Option SD)(fa:Addr)(o:Obj)(pm cd doc:SD)(a:Addr)(vs:List SD)(ns:List Int),
   Ground q loose [] XP w s₀ mg mb s₁.heap->YP w s₁.heap->
   s₁.heap.get? fa=some o->o.data=.func (docDef d.name d.params d.body d.scope pm cd doc)->s₁.heap.CodeRec cd d.name->mg d.name=some (.ref fa)->
   s₁.heap.get? a=some { cls:=.type "list",data:=.seq vs.toArray }->IntsAre vs ns->ns.length<=n->s₁.gens=#[]->
   codeAny (model l.prog w) callerA (.call (.ref fa) ⟨[.ref a],[]⟩) (λr s'=>r=.ok (.ret (.bool true))/\OldK s₁.heap s'.heap/\s'.os=s₁.os/\AllBare s'.gens) s₁) :
 WalkO q loose XP YP l.row.toRowW d [] (λf vs=>PySem.call f vs):=by
 intro w s₀ s₁ mg mb G Y fa o pm cd doc dV kV ho hd hcd hD hmg hg args vals as hpre hlay hrd hwl hlo;obtain rfl:dV=.none:=Dflts.none hD hdf;obtain rfl:kV=.none:=Dflts.noKw hD;obtain⟨a,vs,ns,rfl,rfl,hobj,hints,bR⟩:=wW hn hpre hwl;refine enter_call (RT (call w s₀ s₁ mg mb fa o pm cd doc a vs ns G Y ho (fd_plain hd) hcd hmg hobj hints bR hg) λr s' hq=>?_);obtain⟨rfl,h2,h3,h4⟩:=hq;exact⟨.inl ⟨.bool true,.bool true,[],rfl,λ_=>rfl,.bool true,wY l _,λ_=>⟨List.Pairwise.nil,λ_ hm=>(nomatch hm)⟩⟩,h2,h3,h4⟩
end Att
namespace L2
open PySem PySem.Spec PyProof.Rows
noncomputable def fP(s:Stmt)(j:Nat):Stmt:=match s with
 |.ClassDef _ _ _ body _ _ _ _ _ _ _=>body.getD j (.Pass ⟨0,0,0,0⟩)
 |_=>.Pass ⟨0,0,0,0⟩
noncomputable def cv(s:Stmt):Arguments:=match s with
 |.FunctionDef _ a _ _ _ _ _ _ _ _=>a
 |_=>{posonlyargs:=[],args:=[],vararg:=none,kwonlyargs:=[],kw_defaults:=[],kwarg:=none,defaults:=[]}
noncomputable def bX(s:Stmt):List Stmt:=match s with
 |.FunctionDef _ _ b _ _ _ _ _ _ _=>b
 |_=>[]
noncomputable def aw(s:Stmt):Scope:=match s with
 |.FunctionDef _ _ _ _ _ _ sc _ _ _=>sc
 |_=>{kind:=.function,names:=[],isGenerator:=false,isCoroutine:=false}
noncomputable abbrev iT:Br:=λ_ _ _ _ _ _=>False
noncomputable abbrev E0:XK:=λ_ _ _=>False
def cK:eY iT X E0:=λ_ _ _ _ _ _ _ h=>h.elim
structure Bw(K:SB) (x qual:Str) (st:Stmt) (f:Addr) (fd:FuncData):Prop where
 ex:∃(oc:SD)(od:Option Addr)(kV doc pm:SD)(an:Option Addr)(cdv ct:SD)(osl:Array (Option SD)),
  fd=fnOf x qual (cv st) (bX st) (aw st) .none kV doc pm an cdv ct/\K.lookup f=some ⟨oc,od,.func fd,osl⟩/\codeIn K cdv qual=true
 kp:keepIn K (.ref f)=true
section
variable{P:SC}{w:World}{K:SB}{mg:Str->Option SD}{base:Heap}
def Bw.ok{x qual:Str}{st:Stmt}{f:Addr}{fd:FuncData}{N ps:List Str}{k:Nat}{sp:Sp}(F:Bw K x qual st f fd)(S:aN N ps (aw st))(len:∀vs H Q E,sp vs H Q E->vs.length=ps.length)
 (hbody:∀(cdv:SD)(A:SE)(outer:List Env)(s:Sz)(H:Hp)(vs:List V)(Q:VK)(E:XK),cI k (A.deeper (envOfC qual (aw st) s.heap.objs.size f cdv))->sp vs H Q E->
   ∃t,PSs (tZ iT P w K mg base N qual (aw st) f cdv A outer s H E).K1 (bX st) t/\t {nx:=λ_ H'=>Q .ba H',rt:=Q} (start N vs) H):bu P w K mg base iT (k+1) f fd ps sp:=by
 obtain⟨oc,od,kV,doc,pm,an,cdv,ct,osl,rfl,lk,hcd⟩:=F.ex;refine IL lk hcd S len λA outer s H vs Q E hr hsp=>?_;obtain⟨t,h,q⟩:=hbody cdv A outer s H vs Q E hr hsp;exact⟨t,h.K1,q⟩
def Bw.binds{x qual:Str}{st:Stmt}(F:Bw K x qual st f fd)
 (h:∀(kV doc pm:SD)(an:Option Addr)(cdv ct:SD)(us:List SD),us.length=ps.length->bindArgs (fnOf x qual (cv st) (bX st) (aw st) .none kV doc pm an cdv ct) ⟨us,[]⟩=pure (ps.zip us)):Binds K fd ps []:=by
 obtain⟨oc,od,kV,doc,pm,an,cdv,ct,osl,rfl,lk,hcd⟩:=F.ex;exact .all (h kV doc pm an cdv ct)
def yP{x qual:Str}{st:Stmt}{f:Addr}{oc:SD}{od an:Option Addr}{osl:Array (Option SD)}{kV doc pm cdv ct:SD}(l:K.lookup f=some ⟨oc,od,.func (fnOf x qual (cv st) (bX st) (aw st) .none kV doc pm an cdv ct),osl⟩)
 (c:codeIn K cdv qual=true) (k:keepIn K (.ref f)=true):Bw K x qual st f (fnOf x qual (cv st) (bX st) (aw st) .none kV doc pm an cdv ct):=⟨⟨oc,od,kV,doc,pm,an,cdv,ct,osl,rfl,l,c⟩,k⟩
end
def fB(hr:cI k A):A.units+1<cLine:=Pp (Nat.add_le_add_left (by decide:1<=64) _) hr.units
section
def pv(i:Nat)(hN:autoParam (X.N[i]?=some x) SN)(hv:autoParam (K9 X.env.scope x) SH._auto_1)(hd:autoParam (dB x) ab)
 (hcd:autoParam ((x==("__classdict__" : Str))=false) ab):PE X (.Name x pos) (tVar i):=E8 hN hv hd hcd
end
def wZ{A B:Prop}(h:B):if false=true then A else B:=by rw[Ox OS];exact h
def qY{A B:Prop}(h:A):if true=true then A else B:=by rw[Ow rfl];exact h
def LN{c A B:Prop}[Decidable c](h1:c->A)(h2:¬c->B):if c then A else B:=by
 by_cases h:c
 .rw[Ow h];exact h1 h
 .rw[Ox h];exact h2 h
def Same(H H':Hp):Prop:=∀b o,H b=some o->H' b=some o
def Same.refl(H:Hp):Same H H:=λ_ _ h=>h
def Same.trans(a:Same H H1)(b:Same H1 H2):Same H H2:=λc o h=>b c o (a c o h)
def Same.free(e:Same H H')(h:H' l=Option.none):H l=Option.none:=by
 cases q:H l with
 |none=>rfl
 |some o=>rw[e l o q]at h;cases h
abbrev TX:=St->Hp->VK->XK->Prop
end L2
namespace L2
open PySem PySem.Spec PySem.Calls PyProof.Rows
def gg
 (hx:s.heap.get? a=some o) (hc:o.cls=.type "list") (hdat:o.data=.seq xs k) (hd:o.dict=none) (hmiss:typeLookup (.type "list") name=pure none) (hname:(["__module__","__name__","__qualname__","__doc__","__annotations__"]:List Str).contains name=false) (hA:A.handled=none)
 (h:∀h' tk e,Heap.NewExcOf s.heap h' e "AttributeError"->Q none {s with heap:=h',toks:=tk}) (hsz:name.length+100<=sizeLine:=by size_fits) :
 wpAny (model prog w) A (getAttr? (.ref a) name) Q E s:=by
 obtain⟨c,dct,dat,sl⟩:=o;simp only at hc hdat hd;subst hc hdat hd;obtain⟨hp,g,d,tk,os⟩:=s;have hT:∀tk',(⟨hp,g,d,tk',os⟩ : Sz).TypeIs (.ref a) "list":=λ_=>⟨_,hx,rfl⟩;have f1:=sub_AttributeError;have f3:=PySem.F.slot_list_getattribute.lookup;have f4:=PySem.F.slot_list_getattribute.bind (.ref a);have f5:=am_list_getattr_none;unfold getAttr? getAttrBy? getAttrBy
 repeat (any_goals (first|assumption|exact hT _|((with_reducible show wpAny _ _ (call (Value.builtin "list.__getattribute__") _ _) _ _ _);refine call_meets PySem.F.slot_list_getattribute (hT _) am_entry_list_getattribute (PySem.F.args_list_getattribute_2 _ _) (meets_getattribute_miss_list a xs k sl name _ hmiss hname hsz) ⟨hx,hA,λh' tk' e hx'=>?_⟩)|wp_step))
 obtain⟨t',u',he⟩:=hx'.there;show wpAny _ _ (getattributeRaised _ _ _ _ _ _ _) _ _ _;unfold getattributeRaised
 repeat (any_goals (first|assumption|wp_step))
 exact h _ _ _ hx'.of
abbrev ij:=List aG×Addr×SD
noncomputable def vp(xs:List ij)(its:List ij):List ij:=its.foldl (λxs x=>storedH xs x.1 x.2.1 x.2.2) xs
def dj:entryFor table "dict.update.loop"=some Builtin.«dict.update.loop»:=entryFor_of_tree (by kernel_rfl)
def bq:plainId "dict.update.loop"=true:=by decide +kernel
section
variable{prog:SC}{w:World}
abbrev tK(prog:SC)(w:World):=tupleKind (aj prog w)
def DRaw(prog:SC)(w:World)(h:Heap)(S:Addr)(xs:List ij):Prop:=∃o es ep,h.get? S=some o/\o.ExactDict/\o.data=.dict es ep/\es.toList=xs.map (entryOfKey (tK prog w))/\(xs.map (·.1)).Nodup
def iX(x:(tK prog w).is h k a)(e:∀b o,h.get? b=some o->h'.get? b=some o):(tK prog w).is h' k a:=by obtain⟨o,items,n,h1,r⟩:=x;exact⟨o,items,n,e _ _ h1,r⟩
def DRaw.of(d:DRaw prog w h S xs)(ks:∀x∈xs,(tK prog w).is hb x.1 x.2.1)(e:∀b o,hb.get? b=some o->h.get? b=some o):h.DictOfH (tK prog w) S xs:=by obtain⟨o,es,ep,h1,h2,h3,h4,h5⟩:=d;exact⟨o,es,ep,h1,h2,h3,h4,λx hx=>iX (ks x hx) e,h5⟩
def ua(ks:∀x∈xs,(tK prog w).is hb x.1 x.2.1)(hk:(tK prog w).is hb k a):∀x∈storedH xs k a v,(tK prog w).is hb x.1 x.2.1:=by
 unfold storedH;split
 .intro x hx;obtain⟨y,hy,rfl⟩:=OB.mp hx;have:=ks y hy;unfold putAt;split<;>exact this
 .intro x hx;rcases OF.mp hx with hx|hx
  .exact ks x hx
  .simp at hx;subst hx;exact hk
def qZ{xs:List ij}{k:List aG}:(storedH xs k a v).length<=xs.length+1:=by
 unfold storedH;split
 .rw[Ov];lia
 .rw[OC];simp
variable{A:SE}{R:Result->Sz->Prop}{I:Addr}{fp wr:List Addr}{G:Array GenState->Array GenState->Prop}{n:Nat}{P:Nat->SD->Prop}{St:Nat->Sz->Prop}
def iY(W:WalksS prog w A.in1 I fp wr G n P St)(S:Addr)(hSf:S∉fp)(hu:A.in1.units<cLine)(hb:Heap)(hbS:hb.get? S=none)(hbw:∀b∈wr,hb.get? b=none)(its:List ij)(hn:its.length=n)
 (hval:∀i v,P i v->∃p x,v=.ref p/\its[i]?=some x/\hb.IsTuple p #[.ref x.2.1,x.2.2]/\(tK prog w).is hb x.1 x.2.1) (hsz:n<=sizeLine) :
 ∀(k i:Nat)(s:Sz)(xs:List ij)(j:Int),n-i=k->i<=n->St i s->(∀b o,hb.get? b=some o->s.heap.get? b=some o)->(∀x∈xs,(tK prog w).is hb x.1 x.2.1)->xs.length<=i->
  DRaw prog w s.heap S xs->
  (∀s',Moved (S::wr) G s s'->s'.heap.DictOfH (tK prog w) S (vp xs (its.drop i))->R (.ok (.ret .none)) s')->
  codeAny (model prog w) A (.builtin "dict.update.loop" ⟨[.ref S,.ref I,rawInt j,.none],[]⟩) R s:=by
 have hSw:S∉wr:=λh=>hSf (W.sub _ h);have hsub:∀b∈wr,b∈S::wr:=λb hb=>OW _ hb;intro k;induction k with
 |zero=>
  intro i s xs j hk hi hst K ks hxl hS hR;have hin:i=n:=by lia
  subst hin;refine PN dj ?_;rw[PX bq _];show wpAny _ A.in1 (pyNext (.ref I) >>= _) _ _ s;refine KE (W.done s _ _ hst λs' hm=>?_);have hR':=hR s' (hm.mono hsub) (by rw[List.drop_of_length_le (by lia)];obtain⟨o,es,ep,ho,rest⟩:=hS;exact DRaw.of (hb:=hb) ⟨o,es,ep,hm.heap S _ hSw ho,rest⟩ ks λb o e=>hm.heap b o (λz=>by grind) (K b o e));show wpAny _ A.in1 (Builtin.Dict.addKeywords S [] >>= λ_=>ret Value.none) _ _ s';exact KE (Os (Os hR'))
 |succ k ih=>
  intro i s xs j hk hi hst K ks hxl hS hR;have hlt:i<n:=by lia
  refine PN dj ?_;rw[PX bq _];show wpAny _ A.in1 (pyNext (.ref I) >>= _) _ _ s;refine KE (W.item i s _ _ hlt hst λv s' hP hst' hm=>?_);obtain⟨p,x,rfl,hx,ht,dh⟩:=hval i v hP;have K':∀b o,hb.get? b=some o->s'.heap.get? b=some o:=λb o e=>hm.heap b o (λz=>by grind) (K b o e);obtain⟨ot,hot,hct,nt,hdt⟩:=ht;have hT:s'.TypeIs (.ref p) "tuple":=⟨ot,K' _ _ hot,hct⟩;have hS':DRaw prog w s'.heap S xs:=by obtain⟨o,es,ep,ho,rest⟩:=hS;exact⟨o,es,ep,hm.heap S _ hSw ho,rest⟩
  refine KE (Pd ?_);refine KE ?_;refine wpAny_tryCatch ?_;unfold Builtin.Dict.pairItems;refine KE (QA hT ?_);rw[Ow (by decide)];refine KE (Q8 (K' _ _ hot) hdt ?_);refine Os ?_;show wpAny _ A.in1 (holding [Value.ref x.2.1,x.2.2] (dictSet S (.ref x.2.1) x.2.2)) _ _ s';refine Pd ?_;refine wpAny_dictSet_heap (knd:=tK prog w) (hsz:=by lia) hu (iX dh K') (DRaw.of hS' ks K') λh' hd' hs'=>?_;have K2:∀b o,hb.get? b=some o->h'.get? b=some o:=λb o e=>(hs'.2 b (λz=>by grind)).trans (K' b o e);have hdrop:its.drop i=x::its.drop (i+1):=by
   have hil:i<its.length:=by lia
   rw[Qg hil];rw[OL hil]at hx;rw[PC hx]
  refine Os ⟨QP bq _,ih (i+1) _ (storedH xs x.1 x.2.1 x.2.2) (j+1) (by lia) hlt (W.frame _ s' _ _ hst' (Rh _ _) λb hb o e=>?_) K2 (ua ks dh) (by have:=qZ (xs:=xs) (k:=x.1) (a:=x.2.1) (v:=x.2.2);lia) ?_ λs'' hm'' hS''=>?_⟩
  .rw[hs'.2 b (λh:b=S=>hSf (by grind))];exact e
  .obtain⟨o,es,ep,h1,h2,h3,h4,_,h5⟩:=hd';exact⟨o,es,ep,h1,h2,h3,h4,h5⟩
  .refine hR s'' (Moved.trans W.gtrans ((hm.mono hsub).then_heap (Rh _ _) λb o hb e=>?_) hm'') (by rw[hdrop];exact hS'');rw[hs'.2 b (λh:b=S=>hb (by grind))];exact e
end
section
variable{prog:SC}{w:World}{A:SE}{E:SD->Sz->Prop}{s:Sz}
def kz(hh:A.handled=none)(hu:A.in1.in1.units<cLine)(hl:s.heap.get? l=some { cls:=.type "list",data:=.seq items nl }) (hn:its.length=items.size) (hsz:items.size<=sizeLine)
 (hval:∀(i:Nat)(v:SD),items[i]?=some v->∃(p:Addr)(x:ij),v=.ref p/\its[i]?=some x/\s.heap.IsTuple p #[.ref x.2.1,x.2.2]/\(tK prog w).is s.heap x.1 x.2.1)
 (h:∀(h':Heap)(tk:Nat),h'.DictOfH (tK prog w) s.heap.objs.size (vp [] its)->(∀b o,b<s.heap.objs.size->s.heap.get? b=some o->h'.get? b=some o)->Q (.ref s.heap.objs.size) {s with heap:=h',toks:=tk}) :
 wpAny (model prog w) A (call (.type "dict") [.ref l]) Q E s:=by
 refine callType_codes (Q₁:=λobj s₁=>obj=.ref s.heap.objs.size/\s₁={ s with heap:=s.heap.push { cls:=.type "dict",data:=.dict #[] } }) PySem.F.kt_called_dict (PySem.F.kt_typeCall_dict_1 _) PySem.F.entry_dict_init (kt_code_dict_new _ ⟨rfl,rfl⟩) ?_;rintro obj s₁ ⟨rfl,rfl⟩;have hD:(s.heap.push { cls:=.type "dict",data:=.dict #[] }).get? s.heap.objs.size=some { cls:=.type "dict",data:=.dict #[] }:=Oy _ rfl;have hT:Shared.TypeIs { s with heap:=s.heap.push { cls:=.type "dict",data:=.dict #[] } } (.ref s.heap.objs.size) "dict":=⟨_,hD,rfl⟩;refine⟨hT,PySem.F.args_dict_init_2 _ _,?_⟩;unfold Builtin.«dict.__init__»;refine KE ?_;unfold Builtin.Dict.selfAndRest;refine KE (Qk hT ?_);show wpAny _ _ (pure (s.heap.objs.size,[Value.ref l])) _ _ _;refine Os ?_;show wpAny _ _ (Builtin.Dict.updateFrom "dict.__init__" s.heap.objs.size (.ref l) [] .none) _ _ _;unfold Builtin.Dict.updateFrom;have hl1:(s.heap.push { cls:=.type "dict",data:=.dict #[] }).get? l=some { cls:=.type "list",data:=.seq items nl }:=Ot _ hl;refine KE (QA ⟨_,hl1,rfl⟩ ?_);rw[Ow (by decide)];refine KE (gg (s:={ s with heap:=s.heap.push { cls:=.type "dict",data:=.dict #[] } }) hl1 rfl rfl rfl (am_miss_of_fast (by decide +kernel)) (by decide +kernel) (by simp[hh]) λh1 tk1 e1 hx1=>?_);rw[Ow (by decide)];refine KE (Rn ?_);have k1:∀b o,s.heap.get? b=some o->h1.get? b=some o:=λb o e=>hx1.keeps b o (Ot _ e);have hl2:h1.get? l=some { cls:=.type "list",data:=.seq items nl }:=k1 _ _ hl;have hD1:h1.get? s.heap.objs.size=some { cls:=.type "dict",data:=.dict #[] }:=hx1.keeps _ _ hD;have hlt1:s.heap.objs.size<h1.objs.size:=OA hD1;have hll:l<s.heap.objs.size:=OA hl;refine KE (Qr (s:=⟨h1,s.gens,s.drawn,tk1,s.os⟩) ⟨_,hl2,rfl,nl,rfl⟩ ?_);have hh3:A.in1.in1.handled=none:=by simp[hh]
 have hno:∀b,s.heap.objs.size<=b->s.heap.get? b=none:=λb hb=>by
  cases q:s.heap.get? b with
  |none=>rfl
  |some o=>exact absurd (OA q) (Sx.mpr hb)
 have hneI:l≠h1.objs.size:=OJ (Si hll hlt1);have k2:∀b o,h1.get? b=some o->(h1.push { cls:=.type "list_iterator",data:=.fields #[.ref l,.int 0 0] }).get? b=some o:=λb o e=>Ot _ e;refine Os ⟨QP bq _,iY (A:=A.in1) ((Walks.list hh3 h1.objs.size l hneI items).toS) s.heap.objs.size ?_ hu s.heap (hno _ (Ou _)) ?_ its hn hval hsz (items.size-0) 0 _ [] 0 rfl (OR _) ⟨⟨_,Oy _ rfl,rfl,rfl⟩,⟨_,k2 _ _ hl2,rfl,nl,rfl⟩⟩ (λb o e=>k2 _ _ (k1 b o e)) (λx hx=>nomatch hx) (Ou _) ⟨_,#[],0,k2 _ _ hD1,?_,rfl,rfl,Qf⟩ ?_⟩
 .simp only[OE,PF,RQ,not_or];exact⟨OJ hlt1,Qz hll⟩
 .intro b hb;simp only[OE,PF,RQ]at hb;subst hb;exact hno _ (P_ hlt1)
 .exact⟨rfl,rfl,rfl⟩
 .intro s' hm hS';obtain⟨h',g',d',tk',os'⟩:=s';have eg:g'=s.gens:=hm.gens;have ed:d'=s.drawn:=hm.drawn;have eo:os'=s.os:=hm.os;subst eg;subst ed;subst eo;refine⟨rfl,h h' tk' hS' λb o hb e=>hm.heap b o ?_ (k2 _ _ (k1 _ _ e))⟩;simp only[OE,PF,RQ,not_or];exact⟨OJ hb,OJ (Si hb hlt1)⟩
end
def gy(t kvs:List (List aG×V)):List (List aG×V):=kvs.foldl (λt x=>bp t x.1 x.2) t
def px(H:Hp):List V->List (List aG×V)->Prop:=Paired λv kv=>∃p ka,v=.ref p/\H p=some (.tup [.ref ka,kv.2])/\H ka=some (.tup (kv.1.map kV))
section
variable{P:SC}{w:World}{H:Hp}{h:Heap}
theorem n8(ok:HOk P w H h):∀{vs:List V}{us:List SD}{kvs:List (List aG×V)},px H vs kvs->Vals vs us->
 ∃its:List ij,its.length=us.length/\(∀(i:Nat)(v:SD),us[i]?=some v->∃(p:Addr)(x:ij),v=.ref p/\its[i]?=some x/\h.IsTuple p #[.ref x.2.1,x.2.2]/\(tK P w).is h x.1 x.2.1)/\
  ∀t xs,KT H t xs->KT H (gy t kvs) (vp xs its)
 |_,_,_,.nil,.nil=>⟨[],rfl,λi v e=>by simp at e,λt xs r=>r⟩
 |_,_,_,.cons (a:=v) (b:=kv) q t,.cons (b:=u) r s=>by
  obtain⟨its,hl,hv,hk⟩:=n8 ok t s;obtain⟨p,ka,rfl,hp,hka⟩:=q;cases r;obtain⟨_,is,r2,ot,ho,hc,n,hd⟩:=(show ObjOk P w H h p (.tup [.ref ka,kv.2])from ok p _ hp);obtain⟨u1,u2,rfl,ru1,ru2⟩:=lF r2;cases ru1;refine⟨(kv.1,ka,u2)::its,by simp[hl],λi v e=>?_,λt xs rt=>?_⟩
  .cases i with
   |zero=>simp at e;subst e;exact⟨p,(kv.1,ka,u2),rfl,rfl,⟨ot,ho,hc,n,hd⟩,cO ok hka⟩
   |succ i=>exact hv i v (by simpa using e)
  .exact hk _ _ (rt.put kv.1 hka ru2)
theorem lL:∀(kvs t:List (List aG×V)),(gy t kvs).length<=t.length+kvs.length
 |[],t=>Ou _
 |x::r,t=>by have:=lL r (bp t x.1 x.2);have h2:=cp t x.1 x.2;show(gy (bp t x.1 x.2) r).length<=_;simp only[OV];lia
end
section
variable{X:Cx}
def ub(hc:X.calm=true)(hu:X.A.units+64<cLine):CallR X (.type "dict") (λxs H Q=>∃l vs kvs,xs=[.ref l]/\Rd H l (.lst vs)/\px H vs kvs/\∀p,H p=none->Q (.ref p) (upd H p (.dT (gy [] kvs)))):=by
 intro aa s σ H xs us Q I r h;obtain⟨l,vs,kvs,rfl,hl,hp,q⟩:=h;obtain⟨u,rfl,ru⟩:=db r;obtain rfl:u=Value.ref l:=ru;obtain⟨hz,its,n,rv,hg⟩:=(show ObjOk X.prog X.w H s.heap l (.lst vs)from hl.ok I.aF);obtain⟨pi,pl,pv,pk⟩:=n8 I.aF hp rv;have hsz:its.toArray.size<=sizeLine:=by rw[Oz,<- rv.length];exact hz
 refine kz (I.ok.hd hc) (by show X.A.units+1+1<cLine;lia) hg (its:=pi) (by rw[pl,Oz]) hsz (λi v e=>pv i v (by simpa using e)) λh' tk hD hk=>?_;have hf:H s.heap.objs.size=none:=I.aF.fresh (Ou _);refine⟨.ref s.heap.objs.size,_,I.laid (a:=s.heap.objs.size) (o:=.dT (gy [] kvs)) (t':=tk) (λb o e=>hk b o (OA e) e) (Ou _) ?_,rfl,q _ hf⟩;obtain⟨o,es,ep,h1,h2,h3,h4,_,h5⟩:=hD;refine⟨?_,QO.mpr (PV (OJ I.big)),vp [] pi,(pk [] [] .nil).keeps λb ys e=>?_,o,es,ep,h1,h2,h3,h4,h5⟩
 .have:=lL kvs [];have h2:=QN hp;simp only[QI]at this;lia
 .rw[ah (ak e hf)];exact e
end
section
def Inv.Na(I:Inv X aa σ H s)(e:H a=some (.dK [])):Inv X aa σ (upd H a (.dT [])) s:=by
 obtain⟨z,y,vs,r,o,es,ep,h1,h2,h3,h4,h5⟩:=(show ObjOk X.prog X.w H s.heap a (.dK [])from I.aF a _ e);cases r;exact I.write (x:=a) (e:=a) (t':=s.toks) (h':=s.heap) (by rw[e];exact True.intro) (.inl rfl) (λb u _ q=>q) ⟨o,h1⟩ ⟨z,y,[],.nil,o,es,ep,h1,h2,h3,(by
  generalize es.toList=l at h5;obtain⟨h5,_⟩:=h5;cases l with
  |nil=>rfl
  |cons x r=>cases h5),Qf⟩
end
def DGetX(H:Hp)(a:Addr)(y:V)(r:Option V):Prop:=DGet H a y r\/(Rd H a (.dT [])/\(∃k,y=kV k)/\r=none)\/(Rd H a (.dK [])/\(∃(b:Addr)(k:List aG),y=.ref b/\H b=some (.tup (k.map kV)))/\r=none)
section
def iC(x:ObjOk P w H h a (.dT [])):(a==sysModules)=false/\h.DictOf (aj P w) a []:=by
 obtain⟨z,y,xs,r,o,es,ep,h1,h2,h3,h4,h5⟩:=x;cases r;have e:es=#[]:=by grind
 subst e;exact⟨y,o,#[],ep,h1,h2,h3,λx hx=>by simp at hx,by constructor,Qf⟩
def yQ(x:ObjOk P w H h a (.dK [])):(a==sysModules)=false/\h.DictOfH (tupleKind (aj P w)) a []:=by
 obtain⟨z,y,vs,r,o,es,ep,h1,h2,h3,h4,h5⟩:=x;cases r;refine⟨y,o,es,ep,h1,h2,h3,?_,λx hx=>(nomatch hx),Qf⟩;generalize es.toList=l at h5;obtain⟨h5,_⟩:=h5;cases l with
 |nil=>rfl
 |cons x r=>cases h5
def IT(hu:A.units+1<cLine)(I:Inv X aa σ H s)(g:DGetX H a y o)(ry:RelV y u)(h:∀s',Inv X aa σ H s'->Q (.bool o.isSome) s') :
 wpAny (model X.prog X.w) A (compareOp .In u (.ref a)) Q E s:=by
 rcases g with g|⟨e,⟨k,rfl⟩,rfl⟩|⟨e,⟨b,k,rfl,eb⟩,rfl⟩
 .exact LL hu I g ry h
 .obtain⟨y,dd⟩:=iC (e.ok I.aF);exact wpAny_in_of (gw ry) y dd.mapOf (h _ (I.tok _))
 .obtain rfl:u=Value.ref b:=ry;obtain⟨y,dd⟩:=yQ (e.ok I.aF);exact wpAny_in_heap (Qo hu) (cO I.aF eb) y dd (h _ (I.tok _))
def yR(hu:A.units+1<cLine)(I:Inv X aa σ H s)(g:DGetX H a y o)(ry:RelV y u)(h:∀s',Inv X aa σ H s'->Q (.bool (!o.isSome)) s') :
 wpAny (model X.prog X.w) A (compareOp .NotIn u (.ref a)) Q E s:=by
 rcases g with g|⟨e,⟨k,rfl⟩,rfl⟩|⟨e,⟨b,k,rfl,eb⟩,rfl⟩
 .exact B4 hu I g ry h
 .obtain⟨y,dd⟩:=iC (e.ok I.aF);exact wpAny_notIn_of (gw ry) y dd.mapOf (h _ (I.tok _))
 .obtain rfl:u=Value.ref b:=ry;obtain⟨y,dd⟩:=yQ (e.ok I.aF);exact wpAny_notIn_heap (Qo hu) (cO I.aF eb) y dd (h _ (I.tok _))
end
noncomputable def q4:HO->Prop
 |.dK _=>True
 |.dT _=>True
 |_=>False
section
def Inv.view(I:Inv X aa σ H s)(hn:∀b,H b=none->H' b=none)(ht:∀b xs,H b=some (.tup xs)->H' b=some (.tup xs))(hf:∀b o u,X.H₀ b=some (.aV o u)->H' b=some (.aV o u))
 (hb:∀b ps,H b=some (.tE ps)->H' b=some (.tE ps)) (aF:HOk X.prog X.w H' s.heap):Inv X aa σ H' s where
 ok:=I.ok
 os:=I.os
 bare:=I.bare
 base:=⟨I.base.keep,I.base.slot,λb o e n hx=>hn b (I.base.free b o e n hx),I.base.there,λb xs e=>ht b xs (I.base.mZ b xs e),hf,λb ps e=>let ⟨m,q⟩:=I.base.tz b ps e;⟨m,hb b _ q⟩⟩
 loc:=I.loc
 cell:=I.cell
 free:=hn _ I.free
 fK:=λx c e=>hn c (I.fK x c e)
 pin:=λp hp=>let ⟨a,b,c⟩:=I.pin p hp;⟨a,hn _ b,c⟩
 aF:=aF
 len:=I.len
def pz(ok:HOk P w H h)(hd:∃u,H d=some u/\(∀y,u≠.own y)/\∀xs,u≠.tup xs)(new:ObjOk P w (upd H d u') h d u'):HOk P w (upd H d u') h:=λb v e=>by
 obtain⟨u,hu,h1,h2⟩:=hd;by_cases hb:b=d
 .subst hb;rw[ac]at e;cases e;exact new
 .rw[ah hb]at e;refine(ok b v e).stay (λ_ _ _ q=>q) (λc q=>?_) λc xs q=>?_
  .rw[ah]
   .exact q
   .rintro rfl;rw[hu]at q;cases q;exact h1 _ rfl
  .rw[ah]
   .exact q
   .rintro rfl;rw[hu]at q;cases q;exact h2 _ rfl
def vq(h:q4 u):(∀y,u≠.own y)/\(∀xs,u≠.tup xs)/\(∀ps,u≠.tE ps)/\∀o v,u≠.aV o v:=by cases u<;>first|exact h.elim|exact⟨λ_ z=>(nomatch z),λ_ z=>(nomatch z),λ_ z=>(nomatch z),λ_ _ z=>(nomatch z)⟩
def n9(hu:q4 u)(x:ObjOk P w H h d u)(ht:∀b xs,H b=some (.tup xs)->H' b=some (.tup xs)):ObjOk P w H' h d u:=by
 cases u with
 |dK kvs=>exact x
 |dT kvs=>obtain⟨z,y,xs,r,q⟩:=x;exact⟨z,y,xs,Paired.HX r λp q z=>⟨z.1,ht _ _ z.2.1,z.2.2⟩,q⟩
 |_=>exact hu.elim
theorem Inv.aV(I:Inv X aa σ H s)(e:H d=some u)(hu:q4 u)(ho:s.heap.get? d=some o):Inv X aa σ (upd H d (.aV o u)) s:=by
 obtain⟨n1,n2,n3,n4⟩:=vq hu;have ht:∀b xs,H b=some (.tup xs)->upd H d (.aV o u) b=some (.tup xs):=λb xs q=>by
  rw[ah]
  .exact q
  .rintro rfl;rw[e]at q;cases q;exact n2 _ rfl
 refine I.view (λb hb=>?_) ht (λb o' u' q=>?_) (λb ps q=>?_) (pz I.aF ⟨u,e,n1,n2⟩ ⟨ho,n9 hu (I.aF d u e) ht⟩)
 .rw[ah]
  .exact hb
  .rintro rfl;rw[e]at hb;cases hb
 .have q:=I.base.jY b o' u' q;rw[ah]
  .exact q
  .rintro rfl;rw[e]at q;cases q;exact n4 _ _ rfl
 .rw[ah]
  .exact q
  .rintro rfl;rw[e]at q;cases q;exact n3 _ rfl
def Inv.ET(I:Inv X aa σ H s)(e:H d=some u)(hu:q4 u):∀o v,X.H₀ d≠some (.aV o v):=λo v q=>by have:=I.base.jY d o v q;rw[e]at this;cases this;exact(vq hu).2.2.2 _ _ rfl
def Inv.K4(I:Inv X aa σ H s)(e:H d=some (.aV o u))(hu:q4 u)(hn:∀o v,X.H₀ d≠some (.aV o v)):Inv X aa σ (upd H d u) s:=by
 have ht:∀b xs,H b=some (.tup xs)->upd H d u b=some (.tup xs):=λb xs q=>by
  rw[ah]
  .exact q
  .rintro rfl;rw[e]at q;cases q
 have x:ObjOk X.prog X.w H s.heap d u:=(show ObjOk X.prog X.w H s.heap d (.aV o u)from I.aF d _ e).2;refine I.view (λb hb=>?_) ht (λb o' u' q=>?_) (λb ps q=>?_) (pz I.aF ⟨_,e,λ_ z=>(nomatch z),λ_ z=>(nomatch z)⟩ (n9 hu x ht))
 .rw[ah]
  .exact hb
  .rintro rfl;rw[e]at hb;cases hb
 .have q2:=I.base.jY b o' u' q;rw[ah]
  .exact q2
  .rintro rfl;exact hn _ _ q
 .rw[ah]
  .exact q
  .rintro rfl;rw[e]at q;cases q
end
def Lg(d:Addr)(o:Obj)(u:HO)(kvs:List (aG×V)):It:=⟨λi H=>H d=some (.aV o u)/\i<kvs.length,λi H x H'=>H'=H/\∃k v,kvs[i]?=some (k,v)/\x=kV k,λi H=>H d=some (.aV o u)/\kvs.length<=i⟩
def kU(h:(aj P w).is k u=true):RelV (kV k) u:=by
 rcases aK (show gf k u=true from h)with⟨i,t,rfl,rfl⟩|⟨x,t,rfl,rfl⟩
 .exact⟨t,rfl⟩
 .exact⟨t,rfl⟩
def q5{P:SC}{w:World}{h h':Heap}(x:h.DictAt (aj P w) d vs ep)(e:h.get? d=some o)(e':h'.get? d=some o):h'.DictAt (aj P w) d vs ep:=by obtain⟨o',es,ho,r⟩:=x;rw[e]at ho;cases ho;exact⟨o,es,e',r⟩
def w4{P:SC}{w:World}{K:SB}{tg:Expr}{d it:Addr}{o:Obj}{u0:HO}{kvs:List (aG×V)}{vs:List (aG×SD)}{ep:Nat}{h0:Heap}(rel:KV kvs vs)(x0:h0.DictAt (aj P w) d vs ep)(e0:h0.get? d=some o) :
 Turn P w K tg (Lg d o u0 kvs) [it] it (λi h=>h.IsKeyIter it d i vs.length ep) where
 mem:=by simp
 obj:=λi h st b hb=>by
  have e:b=it:=by simpa using hb
  subst e;obtain⟨o,e,c,q⟩:=st;exact⟨o,e,λv z=>by rw[q]at z;cases z⟩
 keep:=λi h h' st k=>st.at λo e=>k it (by simp) o e
 item:=by
  intro X hP hw hK hc i aa s σ H E I hf st hg;subst hP hw hK;obtain⟨hd,hi⟩:=hg;obtain⟨eo,_⟩:=(show ObjOk X.prog X.w H s.heap d (.aV o u0)from I.aF d _ hd);have x1:=q5 x0 e0 eo;obtain⟨f0,f1,f2,f3,f4,f5⟩:=hf it (by simp);have hiv:i<vs.length:=by rw[<- rel.length];exact hi
  have rg:∃k v u,kvs[i]?=some (k,v)/\vs[i]?=some (k,u):=by
   have hk:kvs[i]?=some kvs[i]:=by simp[hi]
   have hv:vs[i]?=some vs[i]:=by simp[hiv]
   have key:∀{a:List (aG×V)}{b:List (aG×SD)},KV a b->∀(i:Nat) p q,a[i]?=some p->b[i]?=some q->p.1=q.1:=by
    intro a b r;induction r with
    |nil=>intro i p q e;simp at e
    |cons hq t ih=>
     intro i p q e1 e2;cases i with
     |zero=>simp at e1 e2;subst e1 e2;exact hq.1
     |succ i=>exact ih i p q (by simpa using e1) (by simpa using e2)
   have:=key rel i _ _ hk hv;exact⟨kvs[i].1,kvs[i].2,vs[i].2,hk,by rw[hv,this]⟩
  obtain⟨k,v,uv,h1,h2⟩:=rg;refine wpAny_pyNext_dict_item st x1 h2 λkey h' dh st' sb=>?_;have I1:Inv X aa σ H {s with heap:=h'}:=I.turned (t':=s.toks) (λb o hb e=>(sb.2 b hb).trans e) f0 f1 f3 f4 f5;obtain⟨oi,e,c,q⟩:=id st';exact⟨key,rfl,qQ (s:={s with heap:=h'}) e c q (by decide) ⟨kV k,H,I1,kU dh,⟨rfl,k,v,h1,rfl⟩,st',λb hb=>(hf b hb).1⟩⟩
 done:=by intro X hP hw hK hc i aa s σ H E I hf st hg;subst hP hw hK;obtain⟨hd,hi⟩:=hg;obtain⟨eo,_⟩:=(show ObjOk X.prog X.w H s.heap d (.aV o u0)from I.aF d _ hd);have x1:=q5 x0 e0 eo;obtain⟨f0,f1,f2,f3,f4,f5⟩:=hf it (by simp);have hl:=rel.length;exact wpAny_pyNext_dict_end (I.ok.hd hc) st x1 (by simp;lia) λh' eb=>⟨rfl,I.turned (t':=s.toks) (λb o hb e=>eb b o hb e) f0 f1 f3 f4 f5⟩
 self:=λ_ _ _ _ _ st h=>wpAny_pyIter_keyiter st h
section
def yS(X:Cx)(tl:TE):TI:=λσ H R=>tl σ H λx H1=>∃d kvs u,x=.ref d/\(u=.dK kvs\/(u=.dT []/\kvs=[]))/\((∃o,H1 d=some (.aV o u)/\R (Lg d o u kvs) H1)\/(H1 d=some u/\∀o,(∀o' v,X.H₀ d≠some (.aV o' v))->R (Lg d o u kvs) (upd H1 d (.aV o u))))
def pA{tl:TE}(hl:PE X l tl):PI X tg l (yS X tl):=by
 intro aa s σ H R I h;refine bQ (hl aa s σ H _ I h) λv s1 ⟨x,H1,I1,r1,q1⟩=>?_;obtain⟨d,kvs,u,e,hu,q⟩:=q1;subst e;cases r1;have Bf:q4 u:=by rcases hu with rfl|⟨rfl,_⟩<;>exact True.intro
 have fin:∀(o:Obj)(H2:Hp),Inv X aa σ H2 s1->H2 d=some (.aV o u)->R (Lg d o u kvs) H2->wX X (pyIter (.ref d)) (IF X aa σ tg R) X.xe s1:=λo H2 I2 e2 q2=>by
  obtain⟨eo,hx⟩:=(show ObjOk X.prog X.w H2 s1.heap d (.aV o u)from I2.aF d _ e2);have key:(d==sysModules)=false/\∃vs,KV kvs vs/\s1.heap.DictOf (aj X.prog X.w) d vs:=by
   rcases hu with rfl|⟨rfl,rfl⟩
   .obtain⟨z,hd,vs,rel,dd⟩:=hx;exact⟨hd,vs,rel,dd⟩
   .obtain⟨hd,dd⟩:=iC hx;exact⟨hd,[],.nil,dd⟩
  obtain⟨hd,vs,rel,dd⟩:=key;obtain⟨ep,da⟩:=dd.dictAt;refine wpAny_pyIter_dict hd da ?_;refine⟨s1.heap.objs.size,[s1.heap.objs.size],_,_,H2,rfl,I2.kept (t':=s1.toks) λb o e=>Ot _ e,w4 rel da eo,⟨_,Oy _ rfl,rfl,rfl⟩,λb hb=>?_,q2⟩;have e:b=s1.heap.objs.size:=by grind
  subst e;exact I2.nM (Ou _) (I2.aF.fresh (Ou _))
 rcases q with⟨o,e1,q⟩|⟨e1,q⟩
 .exact fin o H1 I1 e1 q
 .have hob:∃o,s1.heap.get? d=some o:=by
   rcases hu with rfl|⟨rfl,_⟩
   .obtain⟨_,_,_,_,o,_,_,ho,_⟩:=(show ObjOk X.prog X.w H1 s1.heap d (.dK kvs)from I1.aF d _ e1);exact⟨o,ho⟩
   .obtain⟨_,_,_,_,o,_,_,ho,_⟩:=(show ObjOk X.prog X.w H1 s1.heap d (.dT [])from I1.aF d _ e1);exact⟨o,ho⟩
  obtain⟨o,ho⟩:=hob;exact fin o _ (I1.aV e1 Bf ho) ac (q o (I1.ET e1 Bf))
def IU(X:Cx)(D:Ends):Ends where
 nx:=λσ H=>D.nx σ H\/∃d o u,H d=some (.aV o u)/\q4 u/\(∀o v,X.H₀ d≠some (.aV o v))/\D.nx σ (upd H d u)
 rt:=D.rt
 bk:=D.bk
 ct:=D.ct
def pB{st:Stmt}(h:PS X st t):PS X st (λD σ H=>t (IU X D) σ H):=by
 intro aa s σ H D I q;refine bQ (h aa s σ H _ I q) λf s' r=>?_;cases f with
 |next=>
  obtain⟨σ',H',I',r⟩:=r;rcases r with r|⟨d,o,u,e,hu,hn,r⟩
  .exact⟨σ',H',I',r⟩
  .exact⟨σ',_,I'.K4 e hu hn,r⟩
 |_=>exact r
end
abbrev q_:=aG×SD×SD
noncomputable def LO(vs:List (aG×SD))(its:List q_):List (aG×SD):=its.foldl (λvs x=>stored vs x.1 x.2.2) vs
section
def kc{h h':Heap}(d:h.DictOf (aj prog w) S vs)(e:∀o,h.get? S=some o->h'.get? S=some o):h'.DictOf (aj prog w) S vs:=let ⟨o,es,ep,ho,r⟩:=d;⟨o,es,ep,e o ho,r⟩
variable{St:Nat->Sz->Prop}
def iD(W:WalksS prog w A.in1 I fp wr G n P St)(S:Addr)(hSf:S∉fp)(hb:Heap)(hbS:hb.get? S=none)(hbw:∀b∈wr,hb.get? b=none)(its:List q_)(hn:its.length=n)
 (hval:∀i v,P i v->∃p x,v=.ref p/\its[i]?=some x/\hb.IsTuple p #[x.2.1,x.2.2]/\(aj prog w).is x.1 x.2.1=true) (hsz:n<=sizeLine) :
 ∀(k i:Nat)(s:Sz)(vs:List (aG×SD))(j:Int),n-i=k->i<=n->St i s->(∀b o,hb.get? b=some o->s.heap.get? b=some o)->vs.length<=i->s.heap.DictOf (aj prog w) S vs->
  (∀s',Moved (S::wr) G s s'->s'.heap.DictOf (aj prog w) S (LO vs (its.drop i))->R (.ok (.ret .none)) s')->
  codeAny (model prog w) A (.builtin "dict.update.loop" ⟨[.ref S,.ref I,rawInt j,.none],[]⟩) R s:=by
 have hSw:S∉wr:=λh=>hSf (W.sub _ h);have hsub:∀b∈wr,b∈S::wr:=λb hb=>OW _ hb;intro k;induction k with
 |zero=>
  intro i s vs j hk hi hst K hxl hS hR;have hin:i=n:=by lia
  subst hin;refine PN dj ?_;rw[PX bq _];show wpAny _ A.in1 (pyNext (.ref I) >>= _) _ _ s;refine KE (W.done s _ _ hst λs' hm=>?_);have hR':=hR s' (hm.mono hsub) (by rw[List.drop_of_length_le (by lia)];exact kc hS λo e=>hm.heap S o hSw e);show wpAny _ A.in1 (Builtin.Dict.addKeywords S [] >>= λ_=>ret Value.none) _ _ s';exact KE (Os (Os hR'))
 |succ k ih=>
  intro i s vs j hk hi hst K hxl hS hR;have hlt:i<n:=by lia
  refine PN dj ?_;rw[PX bq _];show wpAny _ A.in1 (pyNext (.ref I) >>= _) _ _ s;refine KE (W.item i s _ _ hlt hst λv s' hP hst' hm=>?_);obtain⟨p,x,rfl,hx,ht,dh⟩:=hval i v hP;have K':∀b o,hb.get? b=some o->s'.heap.get? b=some o:=λb o e=>hm.heap b o (λz=>by grind) (K b o e);obtain⟨ot,hot,hct,nt,hdt⟩:=ht;have hT:s'.TypeIs (.ref p) "tuple":=⟨ot,K' _ _ hot,hct⟩;have hS':=kc hS λo e=>hm.heap S o hSw e;refine KE (Pd ?_);refine KE ?_;refine wpAny_tryCatch ?_;unfold Builtin.Dict.pairItems;refine KE (QA hT ?_);rw[Ow (by decide)];refine KE (Q8 (K' _ _ hot) hdt ?_);refine Os ?_;show wpAny _ A.in1 (holding [x.2.1,x.2.2] (dictSet S x.2.1 x.2.2)) _ _ s';refine Pd ?_;refine wpAny_dictSet_pairs (knd:=aj prog w) (hsz:=by lia) dh hS' λh' hd' hs'=>?_;have K2:∀b o,hb.get? b=some o->h'.get? b=some o:=λb o e=>(hs'.2 b (λz=>by grind)).trans (K' b o e);have hdrop:its.drop i=x::its.drop (i+1):=by
   have hil:i<its.length:=by lia
   rw[Qg hil];rw[OL hil]at hx;rw[PC hx]
  refine Os ⟨QP bq _,ih (i+1) _ (stored vs x.1 x.2.2) (j+1) (by lia) hlt (W.frame _ s' _ _ hst' (Rh _ _) λb hb o e=>?_) K2 (by have:=stored_length_le vs x.1 x.2.2;lia) hd' λs'' hm'' hS''=>?_⟩
  .rw[hs'.2 b (λh:b=S=>hSf (by grind))];exact e
  .refine hR s'' (Moved.trans W.gtrans ((hm.mono hsub).then_heap (Rh _ _) λb o hb e=>?_) hm'') (by rw[hdrop];exact hS'');rw[hs'.2 b (λh:b=S=>hb (by grind))];exact e
end
section
def jG(hh:A.handled=none)(hl:s.heap.get? l=some { cls:=.type "list",data:=.seq items nl }) (hn:its.length=items.size) (hsz:items.size<=sizeLine)
 (hval:∀(i:Nat)(v:SD),items[i]?=some v->∃(p:Addr)(x:q_),v=.ref p/\its[i]?=some x/\s.heap.IsTuple p #[x.2.1,x.2.2]/\(aj prog w).is x.1 x.2.1=true)
 (h:∀(h':Heap)(tk:Nat),h'.DictOf (aj prog w) s.heap.objs.size (LO [] its)->(∀b o,b<s.heap.objs.size->s.heap.get? b=some o->h'.get? b=some o)->Q (.ref s.heap.objs.size) {s with heap:=h',toks:=tk}) :
 wpAny (model prog w) A (call (.type "dict") [.ref l]) Q E s:=by
 refine callType_codes (Q₁:=λobj s₁=>obj=.ref s.heap.objs.size/\s₁={ s with heap:=s.heap.push { cls:=.type "dict",data:=.dict #[] } }) PySem.F.kt_called_dict (PySem.F.kt_typeCall_dict_1 _) PySem.F.entry_dict_init (kt_code_dict_new _ ⟨rfl,rfl⟩) ?_;rintro obj s₁ ⟨rfl,rfl⟩;have hD:(s.heap.push { cls:=.type "dict",data:=.dict #[] }).get? s.heap.objs.size=some { cls:=.type "dict",data:=.dict #[] }:=Oy _ rfl;have hT:Shared.TypeIs { s with heap:=s.heap.push { cls:=.type "dict",data:=.dict #[] } } (.ref s.heap.objs.size) "dict":=⟨_,hD,rfl⟩;refine⟨hT,PySem.F.args_dict_init_2 _ _,?_⟩;unfold Builtin.«dict.__init__»;refine KE ?_;unfold Builtin.Dict.selfAndRest;refine KE (Qk hT ?_);show wpAny _ _ (pure (s.heap.objs.size,[Value.ref l])) _ _ _;refine Os ?_;show wpAny _ _ (Builtin.Dict.updateFrom "dict.__init__" s.heap.objs.size (.ref l) [] .none) _ _ _;unfold Builtin.Dict.updateFrom;have hl1:(s.heap.push { cls:=.type "dict",data:=.dict #[] }).get? l=some { cls:=.type "list",data:=.seq items nl }:=Ot _ hl;refine KE (QA ⟨_,hl1,rfl⟩ ?_);rw[Ow (by decide)];refine KE (gg (s:={ s with heap:=s.heap.push { cls:=.type "dict",data:=.dict #[] } }) hl1 rfl rfl rfl (am_miss_of_fast (by decide +kernel)) (by decide +kernel) (by simp[hh]) λh1 tk1 e1 hx1=>?_);rw[Ow (by decide)];refine KE (Rn ?_);have k1:∀b o,s.heap.get? b=some o->h1.get? b=some o:=λb o e=>hx1.keeps b o (Ot _ e);have hl2:h1.get? l=some { cls:=.type "list",data:=.seq items nl }:=k1 _ _ hl;have hD1:h1.get? s.heap.objs.size=some { cls:=.type "dict",data:=.dict #[] }:=hx1.keeps _ _ hD;have hlt1:s.heap.objs.size<h1.objs.size:=OA hD1;have hll:l<s.heap.objs.size:=OA hl;refine KE (Qr (s:=⟨h1,s.gens,s.drawn,tk1,s.os⟩) ⟨_,hl2,rfl,nl,rfl⟩ ?_);have hh3:A.in1.in1.handled=none:=by simp[hh]
 have hno:∀b,s.heap.objs.size<=b->s.heap.get? b=none:=λb hb=>by
  cases q:s.heap.get? b with
  |none=>rfl
  |some o=>exact absurd (OA q) (Sx.mpr hb)
 have hneI:l≠h1.objs.size:=OJ (Si hll hlt1);have k2:∀b o,h1.get? b=some o->(h1.push { cls:=.type "list_iterator",data:=.fields #[.ref l,.int 0 0] }).get? b=some o:=λb o e=>Ot _ e;refine Os ⟨QP bq _,iD (A:=A.in1) ((Walks.list hh3 h1.objs.size l hneI items).toS) s.heap.objs.size ?_ s.heap (hno _ (Ou _)) ?_ its hn hval hsz (items.size-0) 0 _ [] 0 rfl (OR _) ⟨⟨_,Oy _ rfl,rfl,rfl⟩,⟨_,k2 _ _ hl2,rfl,nl,rfl⟩⟩ (λb o e=>k2 _ _ (k1 b o e)) (Ou _) ⟨_,#[],0,k2 _ _ hD1,⟨rfl,rfl,rfl⟩,rfl,λx hx=>by simp at hx,by constructor,Qf⟩ ?_⟩
 .simp only[OE,PF,RQ,not_or];exact⟨OJ hlt1,Qz hll⟩
 .intro b hb;simp only[OE,PF,RQ]at hb;subst hb;exact hno _ (P_ hlt1)
 .intro s' hm hS';obtain⟨h',g',d',tk',os'⟩:=s';have eg:g'=s.gens:=hm.gens;have ed:d'=s.drawn:=hm.drawn;have eo:os'=s.os:=hm.os;subst eg;subst ed;subst eo;refine⟨rfl,h h' tk' hS' λb o hb e=>hm.heap b o ?_ (k2 _ _ (k1 _ _ e))⟩;simp only[OE,PF,RQ,not_or];exact⟨OJ hb,OJ (Si hb hlt1)⟩
end
def pC(H:Hp):List V->List (aG×V)->Prop:=Paired λv kv=>∃p,v=.ref p/\H p=some (.tup [kV kv.1,kv.2])
section
theorem lM(ok:HOk P w H h):∀{vs:List V}{us:List SD}{kvs:List (aG×V)},pC H vs kvs->Vals vs us->
 ∃its:List q_,its.length=us.length/\(∀(i:Nat)(v:SD),us[i]?=some v->∃(p:Addr)(x:q_),v=.ref p/\its[i]?=some x/\h.IsTuple p #[x.2.1,x.2.2]/\(aj P w).is x.1 x.2.1=true)/\
  ∀t vs,KV t vs->KV (bG t kvs) (LO vs its)
 |_,_,_,.nil,.nil=>⟨[],rfl,λi v e=>by simp at e,λt xs r=>r⟩
 |_,_,_,.cons (a:=v) (b:=kv) q t,.cons (b:=u) r s=>by
  obtain⟨its,hl,hv,hk⟩:=lM ok t s;obtain⟨p,rfl,hp⟩:=q;cases r;obtain⟨_,is,r2,ot,ho,hc,n,hd⟩:=(show ObjOk P w H h p (.tup [kV kv.1,kv.2])from ok p _ hp);obtain⟨u1,u2,rfl,ru1,ru2⟩:=lF r2;refine⟨(kv.1,u1,u2)::its,by simp[hl],λi v e=>?_,λt xs rt=>?_⟩
  .cases i with
   |zero=>simp at e;subst e;exact⟨p,(kv.1,u1,u2),rfl,rfl,⟨ot,ho,hc,n,hd⟩,gw ru1⟩
   |succ i=>exact hv i v (by grind)
  .exact hk _ _ (rt.put kv.1 ru2)
end
section
def uc(hc:X.calm=true):CallR X (.type "dict") (λxs H Q=>∃l vs kvs,xs=[.ref l]/\Rd H l (.lst vs)/\pC H vs kvs/\∀p,H p=none->Q (.ref p) (upd H p (.dK (bG [] kvs)))):=by
 intro aa s σ H xs us Q I r h;obtain⟨l,vs,kvs,rfl,hl,hp,q⟩:=h;obtain⟨u,rfl,ru⟩:=db r;obtain rfl:u=Value.ref l:=ru;obtain⟨hz,its,n,rv,hg⟩:=(show ObjOk X.prog X.w H s.heap l (.lst vs)from hl.ok I.aF);obtain⟨pi,pl,pv,pk⟩:=lM I.aF hp rv;have hsz:its.toArray.size<=sizeLine:=by rw[Oz,<- rv.length];exact hz
 refine jG (I.ok.hd hc) hg (its:=pi) (by rw[pl,Oz]) hsz (λi v e=>pv i v (by simpa using e)) λh' tk hD hk=>?_;have hf:H s.heap.objs.size=none:=I.aF.fresh (Ou _);refine⟨.ref s.heap.objs.size,_,I.laid (a:=s.heap.objs.size) (o:=.dK (bG [] kvs)) (t':=tk) (λb o e=>hk b o (OA e) e) (Ou _) ?_,rfl,q _ hf⟩;refine⟨?_,QO.mpr (PV (OJ I.big)),_,pk [] [] .nil,hD⟩;have:=cW kvs [];have h2:=QN hp;simp only[QI]at this;lia
def ud(I:Inv X aa σ H s)(e:Rd H a (.dK kvs)\/(Rd H a (.dT [])/\kvs=[])) :
 kvs.length<=sizeLine/\(a==sysModules)=false/\∃vs,KV kvs vs/\s.heap.DictOf (aj X.prog X.w) a vs:=by
 rcases e with e|⟨e,rfl⟩
 .exact iV I.aF e
 .obtain⟨y,dd⟩:=iC (e.ok I.aF);exact⟨OR _,y,[],.nil,dd⟩
def w6:Fo X "dict.update" (λx xs H Q=>∃a b kvs more,x=.ref a/\xs=[.ref b]/\a≠b/\(H a=some (.dK kvs)\/(H a=some (.dT [])/\kvs=[]))/\(Rd H b (.dK more)\/(Rd H b (.dT [])/\more=[]))/\kvs.length+more.length<=sizeLine/\Q .ba (upd H a (.dK (bG kvs more)))):=by
 intro aa s σ H x xs v us Q I rx rs q;obtain⟨a,b,kvs,more,rfl,rfl,hab,ha,hb,hz,q⟩:=q;obtain rfl:v=Value.ref a:=rx;obtain⟨u,rfl,ru⟩:=db rs;obtain rfl:u=Value.ref b:=ru;obtain⟨z1,y1,vs,r1,d1⟩:=ud I (ha.imp .inl λ⟨e,w⟩=>⟨.inl e,w⟩);obtain⟨z2,y2,ws,r2,d2⟩:=ud I hb;refine Sj PySem.F.slot_dict_update d1.typeIs PySem.F.entry_dict_update (PySem.F.args_dict_update_2 _ _) (meets_dict_update (aj X.prog X.w) a b hab y2) ⟨vs,ws,d1,d2,by rw[<- r1.length,<- r2.length];exact hz,λh' hd ho hs=>?_⟩;have he:∃q,h'.get? a=some q:=let ⟨q,_,_,hq,_⟩:=hd;⟨q,hq⟩;have mu:E6 (H a):=by rcases ha with e|⟨e,_⟩<;>(rw[e];exact True.intro)
 have hl:(bG kvs more).length<=sizeLine:=O3 (cW more kvs) hz;exact⟨.ba,_,fO (t':=s.toks) I mu hs he (ph hl y1 (KV.merge r2 r1) hd),rfl,q⟩
end
section
def FA{k:aG}{key dflt:SD}{Q:SD->Sz->Prop}(dh:(aj prog w).is k key=true)(hm:s.heap.DictOf (aj prog w) d vs)(hn0:valueAt vs k=none)
 (h:∀h',h'.DictOf (aj prog w) d (stored vs k dflt)->Heap.SameBut d s.heap h'->Q dflt {s with heap:=h',toks:=s.toks+1}) (hsz:vs.length<=sizeLine):wpAny (model prog w) A (dictSetDefault d key dflt) Q E s:=by
 obtain⟨o,es,ep,ho,hc,hd,hk,hp,hn⟩:=hm;have hes:es.size<=sizeLine:=by
  have e1:=hp.length;have e2:es.toList.length=es.size:=by simp
  lia
 have hnone:vs.findIdx? (λkv=>decide (kv.1=k))=none:=by
  rw[List.findIdx?_eq_none_iff];intro x hx;refine Po λe=>?_;have:(valueAt vs k).isSome=true:=by unfold valueAt;rw[Q1,List.find?_isSome];exact⟨x,hx,OT e⟩
  rw[hn0]at this;cases this
 have hidx:(es.findIdx? λe=>(aj prog w).is k e.key)=none:=by
  have:(es.findIdx? λe=>(aj prog w).is k e.key)=vs.findIdx? λkv=>decide (kv.1=k):=by rw[<- hp.findIdx k];obtain⟨l⟩:=es;simp
  rw[this];exact hnone
 have hnot:k∉vs.map (·.1):=not_mem_of_findIdx_none hnone;have hany:¬(vs.any λkv=>decide (kv.1=k))=true:=by rw[Ri];rintro⟨kv,hkv,he⟩;exact hnot (OB.mpr ⟨kv,hkv,P7 he⟩)
 unfold dictSetDefault
 try with_reducible refine Pd ?_
 refine KE ((aj prog w).pyHash dh ?_);refine KE (wpAny_dictFind_of (s:={s with toks:=s.toks+1}) dh ho hd hk ?_);rw[hidx];refine KE (Rn (KE (wpAny_updateDictKeys (hz:=hes) (s:={s with toks:=s.toks+1}) ho hd (Os (h _ ⟨_,_,ep+1,PP _ ho (Obj.isFreed_of_dict (Q4 hd _)),hc.mapDictKeys _,Q4 hd _,hk.push dh _,?_,?_⟩ (O9 ..))))))
 .rw[stored,Ox hany];have:=hp.append dh ((aj prog w).hash k) dflt;obtain⟨l⟩:=es;simpa using this
 .rw[stored,Ox hany,O8,PU];refine⟨hn,by simp,?_⟩;intro a ha b hb;simp only[OH,RV,OM]at hb;subst hb;exact λe=>hnot (e▸ha)
end
section
def il:V->List V->Hp->VK->Prop:=λx xs H Q=>∃a k y kvs,x=.ref a/\xs=[kV k,y]/\(H a=some (.dK kvs)\/(H a=some (.dT [])/\kvs=[]))/\kvs.length<sizeLine/\
 ((∃v,aL kvs k=some v/\Q v H)\/(aL kvs k=none/\Q y (upd H a (.dK (bp kvs k y)))))
def iZ:Fo X "dict.setdefault" il:=by
 intro aa s σ H x xs v us Q I rx rs q;obtain⟨a,k,y,kvs,rfl,rfl,ha,hz,q⟩:=q;obtain rfl:v=Value.ref a:=rx;obtain⟨u1,u2,rfl,ru1,ru2⟩:=lF rs;obtain⟨z1,y1,vs,r1,d1⟩:=ud I (ha.imp .inl λ⟨e,w⟩=>⟨.inl e,w⟩);have dh:=gw (P:=X.prog) (w:=X.w) ru1;refine O_ O4 d1.typeIs R0 ?_ (RX _ _ _);unfold Builtin.«dict.setdefault»;refine KE ?_;unfold Builtin.Dict.keyAndDefault;refine KE (Qk d1.typeIs (show wpAny _ _ (pure (a,u1,some u2)) _ _ s from Os ?_));show wpAny _ _ (if(a==sysModules)=true then _ else(dictSetDefault a u1 u2 >>= _)) _ _ s;rw[Ox (by grind)];have bR:vs.length<=sizeLine:=by rw[<- r1.length];lia
 have dle:s.heap.DictLe a sizeLine:=λo es ep ho hd=>by
  obtain⟨o',es',ep',ho',_,hd',_,hp,_⟩:=id d1;rw[ho]at ho';cases ho';rw[hd]at hd';cases hd';have e1:=hp.length;have e2:es.toList.length=es.size:=by simp
  lia
 have rv:=r1.val k;rcases q with⟨v,hv,q⟩|⟨hv,q⟩
 .obtain⟨w',hw,rw'⟩:=RelO.some_of (v:=v) (o:=valueAt vs k) (by grind);refine KE (wpAny_dictSetDefault_of (hz:=dle) dh d1.mapOf (λv' e=>?_) λe=>?_)
  .rw[hw]at e;cases e;exact Os ⟨_,rfl,v,H,I.tok _,rw',q⟩
  .rw[hw]at e;cases e
 .have hn0:valueAt vs k=none:=by
   have:=rv.cq;rw[hv]at this;cases z:valueAt vs k with
   |none=>rfl
   |some _=>rw[z]at this;cases this
  refine KE (FA dh d1 hn0 (λh' dd' hs=>Os ⟨_,rfl,?_⟩) bR);have he:∃q,h'.get? a=some q:=let ⟨q,_,_,hq,_⟩:=dd';⟨q,hq⟩;have mu:E6 (H a):=by rcases ha with e|⟨e,_⟩<;>(rw[e];exact True.intro)
  have hl:(bp kvs k y).length<=sizeLine:=by have:=cp kvs k y;lia
  exact⟨y,_,fO (t':=s.toks+1) I mu hs he (ph hl y1 (r1.put k ru2) dd'),ru2,q⟩
end
end L2
namespace ST
open PySem PySem.SetTable
noncomputable def st(m:Nat)(h:Int):Probe:={j:=bits h%(m+1),more:=runEnd m (bits h%(m+1))-bits h%(m+1),i:=bits h%(m+1),perturb:=bits h,dummy:=none}
noncomputable def rs(m:Nat)(p:Nat×Nat):Probe:={j:=p.1,more:=runEnd m p.1-p.1,i:=p.1,perturb:=p.2,dummy:=none}
noncomputable def uf(m:Nat)(p:Probe):Probe:=if p.more>0 then {p with j:=p.j+1,more:=p.more-1}else {p with j:=(leap m p.i p.perturb).1,more:=runEnd m (leap m p.i p.perturb).1-(leap m p.i p.perturb).1,i:=(leap m p.i p.perturb).1,perturb:=(leap m p.i p.perturb).2}
def ug(t:SetTable)(p:Probe):t.advance p=uf t.mask p:=rfl
def it(m:Nat):Nat->Probe->Probe
 |0,p=>p
 |n+1,p=>it m n (uf m p)
def dJ(m:Nat):∀(a b:Nat)(p:Probe),it m (a+b) p=it m b (it m a p):=by intro a b;induction a<;>grind [it,uf]
def B8(m n:Nat)(p:Probe):it m (n+1) p=uf m (it m n p):=dJ m n 1 p
structure Va(m:Nat) (p:Probe):Prop where
 i:p.i<=m
 more:p.more<=9
 j:p.j+p.more<=m
 q:p.perturb<2^64
 d:p.dummy=none
def pD(h:Int):bits h<2^64:=by
 unfold bits
 grind
def iF(m i:Nat)(h:i<=m):runEnd m i-i<=9/\i+(runEnd m i-i)<=m:=by unfold runEnd;split<;>lia
theorem Va.rs(h1:p.1<=m)(h2:p.2<2^64):Va m (rs m p):=⟨h1,(iF m _ h1).1,(iF m _ h1).2,h2,rfl⟩
theorem Va.st(m:Nat)(h:Int):Va m (st m h):=by have:bits h%(m+1)<=m:=Sr (Nat.mod_lt _ (Nat.succ_pos m));exact⟨this,(iF m _ this).1,(iF m _ this).2,pD h,rfl⟩
def pE(m i q:Nat):(leap m i q).1<=m:=by exact Sr (Nat.mod_lt _ (Nat.succ_pos m))
def uh(m i q:Nat):(leap m i q).2=q/32:=rfl
theorem Va.uf(v:Va m p):Va m (uf m p):=by
 unfold ST.uf;split
 .exact⟨v.i,by dsimp only;have:=v.more;lia,by dsimp only;have:=v.j;lia,v.q,v.d⟩
 .have l:=pE m p.i p.perturb;exact⟨l,(iF m _ l).1,(iF m _ l).2,by dsimp only;rw[uh];have:=v.q;have:=Nat.div_le_self p.perturb 32;lia,v.d⟩
theorem Va.it:∀{n:Nat}{p:Probe},Va m p->Va m (it m n p)
 |0,_,v=>v
 |n+1,_,v=>Va.it (n:=n) v.uf
def Va.NC(v:Va m p):p.j<=m:=by have:=v.j;lia
def kW:∀(k:Nat)(p:Probe),p.more=k->Va m p->it m (k+1) p=rs m (leap m p.i p.perturb):=by intro k;induction k<;>grind [Va,it,rs,uf]
noncomputable def lp(m:Nat):Nat->Nat×Nat->Nat×Nat
 |0,p=>p
 |n+1,p=>lp m n (leap m p.1 p.2)
def FC(m:Nat):∀(a b:Nat)(p:Nat×Nat),lp m (a+b) p=lp m b (lp m a p):=by intro a b;induction a<;>grind [lp]
theorem IV(m:Nat):∀(n:Nat)(p:Nat×Nat),(lp m n p).2=p.2/32^n
 |0,p=>by simp[lp]
 |n+1,p=>by show(lp m n (leap m p.1 p.2)).2=_;rw[IV m n,uh,Nat.div_div_eq_div_mul,Nat.pow_succ,Nat.mul_comm]
theorem Ef(m:Nat):∀(n:Nat)(p:Nat×Nat),p.1<=m->(lp m n p).1<=m
 |0,p,h=>h
 |n+1,p,_=>Ef m n _ (pE m _ _)
theorem rh:∀(L:Nat)(p:Probe),Va m p->∃n,n<=10*(L+1)/\it m n p=rs m (lp m (L+1) (p.i,p.perturb))
 |0,p,v=>⟨p.more+1,by have:=v.more;lia,kW _ p rfl v⟩
 |L+1,p,v=>by
  have h1:=kW _ p rfl v;have v1:Va m (rs m (leap m p.i p.perturb)):=by rw[<- h1];exact v.it
  obtain⟨n,hn,e⟩:=rh L _ v1;refine⟨p.more+1+n,by have:=v.more;lia,?_⟩;rw[dJ,h1,e];rfl
noncomputable def f5(m i:Nat):Nat:=(i*5+1)%(m+1)
def fN(m:Nat):Nat->Nat->Nat
 |0,i=>i
 |n+1,i=>fN m n (f5 m i)
def yT(m:Nat):Nat->Nat->List Nat
 |0,_=>[]
 |n+1,i=>i::yT m n (f5 m i)
theorem ri(m:Nat):∀(n i k:Nat),k<n->(yT m n i)[k]?=some (fN m k i)
 |n+1,i,0,_=>rfl
 |n+1,i,k+1,h=>ri m n _ k (by lia)
theorem rj(m:Nat):∀(n i:Nat),(yT m n i).length=n
 |0,_=>rfl
 |n+1,i=>by show(yT m n _).length+1=_;rw[rj]
theorem pF(m:Nat):∀(a b i:Nat),fN m (a+b) i=fN m b (fN m a i)
 |0,b,i=>by rw[Nat.zero_add];rfl
 |a+1,b,i=>by rw[Nat.succ_add];exact pF m a b _
def LP(m:Nat):Bool:=((List.range (m+1)).all λj=>(yT m (m+1) 0).contains j)&&(fN m (m+1) 0==0)
def tH(m:Nat):Prop:=m=7\/m=31\/m=127\/m=511
def vt(h:tH m):LP m=true:=by rcases h with rfl|rfl|rfl|rfl<;>decide +kernel
def yU(h:tH m)(hj:j<=m):∃n,n<=m/\fN m n 0=j:=by have:=vt h;unfold LP at this;simp only[Pa,PR]at this;have h1:=this.1 j (O5.mpr (by lia));rw[List.contains_iff_mem,OO]at h1;obtain⟨n,hn⟩:=h1;have hl:=(OG.mp hn).1;rw[rj]at hl;rw[ri m _ _ _ hl]at hn;exact⟨n,by lia,PC hn⟩
def FD(h:tH m)(hi:i<=m)(hj:j<=m):∃n,n<=m/\fN m n i=j:=by
 obtain⟨a,ha,ea⟩:=yU h hi;obtain⟨b,hb,eb⟩:=yU h hj;by_cases hab:a<=b
 .refine⟨b-a,by lia,?_⟩;rw[<- ea,<- pF,show a+(b-a)=b by lia,eb]
 .refine⟨m+1+b-a,by lia,?_⟩;have z:=vt h;unfold LP at z;simp only[Pa,Sn]at z;rw[<- ea,<- pF,show a+(m+1+b-a)=m+1+b by lia,pF,z.2,eb]
theorem vw(m:Nat):∀(n i:Nat),lp m n (i,0)=(fN m n i,0)
 |0,_=>rfl
 |n+1,i=>by show lp m n (leap m i 0)=_;have:leap m i 0=(f5 m i,0):=rfl;rw[this];exact vw m n _
def rn(h:tH m)(hj:j<=m)(p:Nat×Nat)(h1:p.1<=m)(h2:p.2<2^64):∃n,13<=n/\n<=m+13/\(lp m n p).1=j:=by
 have hp13:(2:Nat)^64<32^13:=by decide
 have hq:(lp m 13 p).2=0:=by rw[IV];exact Nat.div_eq_of_lt (by lia)
 obtain⟨n,hn,e⟩:=FD h (Ef m 13 p h1) hj;refine⟨13+n,by lia,by lia,?_⟩;rw[FC]
 grind [lp,vw]
def Eg(h:tH m)(hj:j<=m)(v:Va m p):∃n,n<10*turns m/\(it m n p).j=j:=by obtain⟨L,h1,h2,e⟩:=rn h hj (p.i,p.perturb) v.i v.q;obtain⟨n,hn,en⟩:=rh (L-1) p v;rw[show L-1+1=L by lia]at en hn;refine⟨n,by unfold turns;lia,?_⟩;rw[en];exact e
def B9(xs:List Nat):Prop:=xs.Pairwise (·< ·)
theorem lN(hr:B9 xs.toList):∀(fuel lo hi:Nat),lo<=hi->hi<=xs.size->hi-lo<=fuel->
 (∀i (h:i<xs.size),i<lo->xs[i]<j)->(∀i (h:i<xs.size),hi<=i->j<=xs[i])->
 below.go xs j fuel lo hi<=xs.size/\(∀i (h:i<xs.size),i<below.go xs j fuel lo hi->xs[i]<j)/\∀i (h:i<xs.size),below.go xs j fuel lo hi<=i->j<=xs[i]
 |0,lo,hi,h1,h2,h3,h4,h5=>by
  have:lo=hi:=by lia
  subst this;exact⟨h2,h4,h5⟩
 |f+1,lo,hi,h1,h2,h3,h4,h5=>by
  have mono:∀a b (ha:a<xs.size) (hb:b<xs.size),a<=b->xs[a]<=xs[b]:=by
   intro a b ha hb hab;rcases Nat.lt_or_eq_of_le hab with h|h
   .have:=OQ.mp hr a b (by simpa using ha) (by simpa using hb) h;simpa using P_ this
   .subst h;exact Ou _
  unfold below.go;by_cases hc:lo<hi
  .rw[Ow hc];have hm:(lo+hi)/2<xs.size:=by lia
   have eg:xs.getD ((lo+hi)/2) j=xs[(lo+hi)/2]:=by simp[Array.getD,hm]
   dsimp only;rw[eg];by_cases hq:xs[(lo+hi)/2]<j
   .rw[Ow hq];refine lN hr f _ _ (by lia) h2 (by lia) (λi h hi'=>?_) h5;exact Pp (mono i _ h hm (by lia)) hq
   .rw[Ox hq];refine lN hr f _ _ (by lia) (by lia) (by lia) h4 λi h hi'=>?_;exact O3 (by lia) (mono _ i hm h hi')
  .rw[Ox hc];have:lo=hi:=by lia
   subst this;exact⟨h2,h4,h5⟩
def cj(j:Nat)(hr:B9 xs.toList):below xs j<=xs.size/\(∀i (h:i<xs.size),i<below xs j->xs[i]<j)/\∀i (h:i<xs.size),below xs j<=i->j<=xs[i]:=by unfold below;exact lN hr xs.size 0 xs.size (OR _) (Ou _) (by lia) (λi h z=>by lia) λi h z=>by lia
def yV(hr:B9 xs.toList)(h:i<xs.size):below xs xs[i]=i:=by
 obtain⟨a,b,c⟩:=cj xs[i] hr;rcases RJ (below xs xs[i]) i with q|q|q
 .have hb:below xs xs[i]<xs.size:=by lia
  have h1:=c (below xs xs[i]) hb (Ou _);have h2:=OQ.mp hr _ i (by grind) (by grind) q;simp at h2;lia
 .exact q
 .have:=b i h q;lia
theorem n_(j:Nat):has #[] j=false:=rfl
structure Tb(t:SetTable):Prop where
 d4:tH t.mask
 Iw:t.dummies=#[]
 tB:B9 t.place.toList
 le:∀j∈t.place.toList,j<=t.mask
def oa(h:Tb t)(hi:i<t.place.size):t.slot t.place[i]=.live i:=by unfold slot;dsimp only;rw[yV h.tB hi];rw[Ow];simp[hi]
def ui(h:Tb t)(hj:j∉t.place.toList):t.slot j=.empty:=by
 unfold slot;dsimp only;rw[Ox,h.Iw,n_]
 .rfl
 .grind
def uj(h:Tb t)(j:Nat):(j∉t.place.toList/\t.slot j=.empty)\/∃i,∃hi:i<t.place.size,t.place[i]=j/\t.slot j=.live i:=by
 by_cases hj:j∈t.place.toList
 .right;obtain⟨i,hi,e⟩:=Q5.mp hj;have hi':i<t.place.size:=by simpa using hi
  have e':t.place[i]=j:=by simpa using e
  exact⟨i,hi',e',by rw[<- e'];exact oa h hi'⟩
 .exact .inl ⟨hj,ui h hj⟩
def Lv(t:SetTable)(j:Nat):Prop:=j∈t.place.toList
inductive gZ(t:SetTable) (ha:Nat->Int) (h:Int) (p:Probe):Option Met->Prop
 |em (n:Nat) (e:¬Lv t (it t.mask n p).j) (b:∀k,k<n->∃i,∃hi:i<t.place.size,t.place[i]=(it t.mask k p).j/\ha i≠h):gZ t ha h p (some (.empty (it t.mask n p).j none))
 |ca (n i:Nat) (hi:i<t.place.size) (e:t.place[i]=(it t.mask n p).j) (q:ha i=h) (b:∀k,k<n->∃i,∃hi:i<t.place.size,t.place[i]=(it t.mask k p).j/\ha i≠h) :
  gZ t ha h p (some (.candidate (it t.mask n p).j i (it t.mask (n+1) p)))
theorem rp(h:Tb t)(ha:Nat->Int)(x:Int):∀(fuel:Nat)(p:Probe),Va t.mask p->(∃n,n<fuel/\¬Lv t (it t.mask n p).j)->gZ t ha x p (probe.go t ha x fuel p)
 |0,p,v,⟨n,hn,_⟩=>by lia
 |f+1,p,v,⟨n,hn,he⟩=>by
  unfold probe.go;rcases uj h p.j with⟨h1,e⟩|⟨i,hi,h1,e⟩
  .rw[e];dsimp only;have:=gZ.em (t:=t) (ha:=ha) (h:=x) (p:=p) 0 h1 λk hk=>by lia
   rw[v.d];exact this
  .rw[e];dsimp only;by_cases hq:ha i=x
   .rw[Ow (by simpa using hq)];exact gZ.ca (t:=t) (ha:=ha) (h:=x) (p:=p) 0 i hi h1 hq λk hk=>by lia
   .rw[Ox (by simpa using hq),ug];have hn0:n≠0:=by rintro rfl;exact he (by show p.j∈t.place.toList;rw[<- h1];simp)
    have ih:=rp h ha x f (uf t.mask p) v.uf ⟨n-1,by lia,by
     have:it t.mask (n-1) (uf t.mask p)=it t.mask n p:=by show _=it t.mask n p;rw[show n=(n-1)+1 by lia];rfl
     rw[this];exact he⟩
    have shift:∀{nn:Nat},(∀k,k<nn->∃i,∃hi:i<t.place.size,t.place[i]=(it t.mask k (uf t.mask p)).j/\ha i≠x)->∀k,k<nn+1->∃i,∃hi:i<t.place.size,t.place[i]=(it t.mask k p).j/\ha i≠x:=by
     intro nn b k hk;cases k with
     |zero=>exact⟨i,hi,h1,hq⟩
     |succ k=>exact b k (by lia)
    generalize probe.go t ha x f (uf t.mask p)=rr at ih;cases ih with
    |em n' e' b=>exact gZ.em (t:=t) (ha:=ha) (h:=x) (p:=p) (n'+1) e' (shift b)
    |ca n' i' hi' e' q' b=>exact gZ.ca (t:=t) (ha:=ha) (h:=x) (p:=p) (n'+1) i' hi' e' q' (shift b)
theorem lO:∀(l1 l2:List Nat),l1.Nodup->(∀x∈l1,x∈l2)->l1.length<=l2.length
 |[],_,_,_=>OR _
 |a::l1,l2,nd,hs=>by
  have ha:a∈l2:=hs a (OZ ..);have ih:=lO l1 (l2.erase a) (QE.mp nd).2 λx hx=>by grind
  grind
def lP(h:Tb t)(hs:t.place.size<=t.mask):∃j,j<=t.mask/\¬Lv t j:=by refine Qh λhn=>?_;have gb:∀j,j<=t.mask->j∈t.place.toList:=λj hj=>Qh λz=>hn ⟨j,hj,z⟩;have:=lO (List.range (t.mask+1)) t.place.toList Rj λj hj=>gb j (by grind);simp at this;lia
def lQ(h:Tb t)(hs:t.place.size<=t.mask)(ha:Nat->Int)(x:Int)(v:Va t.mask p):gZ t ha x p (t.probe ha x p):=by obtain⟨j,hj,hn⟩:=lP h hs;obtain⟨n,h1,h2⟩:=Eg h.d4 hj v;unfold probe;exact rp h ha x _ p v ⟨n,h1,by grind⟩
def Rea(m:Nat)(lv:Nat->Prop)(h:Int)(j:Nat):Prop:=∃n,(it m n (st m h)).j=j/\∀k,k<n->lv (it m k (st m h)).j
def Rea.mono(r:Rea m lv h j)(s:∀j,lv j->lv' j):Rea m lv' h j:=let ⟨n,e,b⟩:=r;⟨n,e,λk hk=>s _ (b k hk)⟩
structure m6{V:Type} (t:SetTable) (es:Array (Int×V)):Prop where
 tb:Tb t
 len:t.place.size=es.size
 Iu:∀q∈t.place.toList.zip es.toList,Rea t.mask (·∈ t.place.toList) q.2.1 q.1
def io(t:SetTable):Prop:=t.place.size*5<t.mask*3
def insertAt_toList{α:Type}(xs:Array α)(p:Nat)(x:α)(h:p<=xs.size):(insertAt xs p x).toList=xs.toList.take p++x::xs.toList.drop p:=by unfold insertAt;simp[Array.toList_extract,List.extract_eq_drop_take,RE]
def insertAt_size{α:Type}(xs:Array α)(p:Nat)(x:α)(h:p<=xs.size):(insertAt xs p x).size=xs.size+1:=by rw[<- Pt,insertAt_toList xs p x h];simp;lia
def i4(h:Tb t)(j:Nat):(t.put j).1={t with place:=insertAt t.place (below t.place j) j}:=by
 unfold put;dsimp only;rw[h.Iw]
 grind [n_]
def kX(t:SetTable)(j:Nat):(t.put j).2=below t.place j:=rfl
def uk{α β:Type}(xs:List α)(ys:List β)(p:Nat)(x:α)(y:β)(h:xs.length=ys.length):(xs.take p++x::xs.drop p).zip (ys.take p++y::ys.drop p)=(xs.zip ys).take p++(x,y)::(xs.zip ys).drop p:=by rw[List.zip_append (by simp[h]),List.zip_cons_cons];simp[List.zip,List.take_zipWith,List.drop_zipWith]
def ul{V:Type}{t:SetTable}{es:Array (Int×V)}(h:m6 t es){j:Nat}(hj:j∉t.place.toList)(hjm:j<=t.mask){hh:Int}{v:V}(r:Rea t.mask (·∈ t.place.toList) hh j) :
 m6 (t.put j).1 (insertAt es (t.put j).2 (hh,v))/\(t.put j).1.mask=t.mask/\(t.put j).1.place.size=t.place.size+1:=by
 obtain⟨a,b,c⟩:=cj j h.tb.tB;rw[i4 h.tb,kX];have ae:below t.place j<=es.size:=by rw[<- h.len];exact a
 have el:=insertAt_toList t.place _ j a;have ee:=insertAt_toList es (below t.place j) (hh,v) ae;have mem:∀k,k∈(insertAt t.place (below t.place j) j).toList↔k=j\/k∈t.place.toList:=by
  intro k;rw[el,OF,OE];constructor
  .rintro (z|rfl|z)
   .exact .inr (P9 z)
   .exact .inl rfl
   .exact .inr (R5 z)
  .rintro (rfl|z)
   .exact .inr (.inl rfl)
   .rw[<- Ql (below t.place j) t.place.toList,OF]at z;exact z.elim .inl λz=>.inr (.inr z)
 refine⟨⟨⟨h.tb.d4,h.tb.Iw,?_,λk hk=>?_⟩,?_,λq hq=>?_⟩,rfl,insertAt_size _ _ _ a⟩
 .show B9 (insertAt t.place (below t.place j) j).toList;rw[el];unfold B9;rw[R6];refine⟨h.tb.tB.sublist (List.take_sublist _ _),?_,?_⟩
  .rw[Pq];refine⟨λk hk=>?_,h.tb.tB.sublist (List.drop_sublist _ _)⟩;obtain⟨i,hi,e⟩:=Q5.mp hk;rw[Rg]at hi;have hi2:below t.place j+i<t.place.size:=by simp at hi;lia
   have e2:t.place[below t.place j+i]=k:=by rw[<- e];simp
   have:=c _ hi2 (by lia);rw[e2]at this;have:k≠j:=λz=>hj (by rw[<- z,<- e2];simp);lia
  .intro k hk l hl;obtain⟨i,hi,e⟩:=Q5.mp hk;rw[PQ]at hi;have hi2:i<t.place.size:=by simp at hi;lia
   have e2:t.place[i]=k:=by rw[<- e];simp
   have l1:=b i hi2 (by lia);rw[e2]at l1;rw[OE]at hl;rcases hl with rfl|hl
   .exact l1
   .obtain⟨i',hi',e'⟩:=Q5.mp hl;rw[Rg]at hi';have hi3:below t.place j+i'<t.place.size:=by simp at hi';lia
    have e3:t.place[below t.place j+i']=l:=by rw[<- e'];simp
    have:=c _ hi3 (by lia);rw[e3]at this;lia
 .rcases (mem k).mp hk with rfl|z
  .exact hjm
  .exact h.tb.le k z
 .show(insertAt t.place (below t.place j) j).size=_;rw[insertAt_size _ _ _ a,insertAt_size _ _ _ ae,h.len]
 .have hq:q∈(insertAt t.place (below t.place j) j).toList.zip (insertAt es (below t.place j) (hh,v)).toList:=hq;rw[el,ee,uk _ _ _ _ _ (by simpa using h.len)]at hq;have sub:∀k,k∈t.place.toList->k∈(insertAt t.place (below t.place j) j).toList:=λk hk=>(mem k).mpr (.inr hk);rw[OF,OE]at hq;rcases hq with z|rfl|z
  .exact(h.Iu q (P9 z)).mono sub
  .exact r.mono sub
  .exact(h.Iu q (R5 z)).mono sub
def ow(owner:Array (Option Nat))(j:Nat):Prop:=∃k,owner[j]?=some (some k)
theorem pG(i q:Nat):∀k,k<=runEnd m i-i->it m k (rs m (i,q))={j:=i+k,more:=runEnd m i-i-k,i:=i,perturb:=q,dummy:=none}
 |0,_=>rfl
 |k+1,h=>by
  rw[B8,pG i q k (by lia)]
  grind [uf]
theorem oe(hs:owner.size=m+1):∀(fuel i q:Nat),i<=m->q<2^64->(∃L,L<fuel/\¬ow owner (lp m L (i,q)).1)->
 ∃j,layClean.free m owner fuel i q=some j/\j<=m/\¬ow owner j/\∃n,(it m n (rs m (i,q))).j=j/\∀k,k<n->ow owner (it m k (rs m (i,q))).j
 |0,i,q,_,_,⟨L,h,_⟩=>by lia
 |f+1,i,q,hi,hq,⟨L,hL,hn⟩=>by
  obtain⟨r1,r2⟩:=iF m i hi;have hre:runEnd m i+1-i=(runEnd m i-i)+1:=by
   have:i<=runEnd m i:=by unfold runEnd;split<;>lia
   lia
  have isn:∀k,k<=runEnd m i-i->((owner.getD (i+k) (some 0)).isNone=true↔¬ow owner (i+k)):=by
   intro k hk;have hb:i+k<owner.size:=by lia
   have e:owner[i+k]?=some owner[i+k]:=by simp[hb]
   have e2:owner.getD (i+k) (some 0)=owner[i+k]:=by simp[Array.getD,hb]
   unfold ow;rw[e2,e];cases owner[i+k]<;>simp
  unfold layClean.free;cases hf:(List.range (runEnd m i+1-i)).find? λk=>(owner.getD (i+k) (some 0)).isNone with
  |some k=>
   dsimp only;rw[List.find?_range_eq_some]at hf;obtain⟨h1,h2,h3⟩:=hf;have h2:=O5.mp h2;have hk:k<=runEnd m i-i:=by lia
   refine⟨i+k,rfl,by lia,(isn k hk).mp h1,k,by rw[pG i q k hk],λk' hk'=>?_⟩
   grind [pG]
  |none=>
   dsimp only;rw[List.find?_range_eq_none]at hf;have hrun:∀k,k<=runEnd m i-i->ow owner (i+k):=by grind
   have hL0:L≠0:=by rintro rfl;exact hn (hrun 0 (OR _))
   have ih:=oe hs f (leap m i q).1 (leap m i q).2 (pE m i q) (by rw[uh];have:=Nat.div_le_self q 32;lia) ⟨L-1,by lia,by
    have:lp m L (i,q)=lp m (L-1) (leap m i q):=by rw[show L=(L-1)+1 by lia];rfl
    rw[this]at hn;exact hn⟩
   obtain⟨j,e,hj,hnj,n,en,hb⟩:=ih;refine⟨j,e,hj,hnj,runEnd m i-i+1+n,?_,λk hk=>?_⟩
   .rw[dJ,kW (runEnd m i-i) (rs m (i,q)) rfl (Va.rs hi hq)];exact en
   .by_cases hk2:k<=runEnd m i-i
    .rw[pG i q k hk2];exact hrun k hk2
    .have:it m k (rs m (i,q))=it m (k-(runEnd m i-i+1)) (rs m (leap m i q)):=by rw[show k=(runEnd m i-i+1)+(k-(runEnd m i-i+1)) by lia,dJ,kW (runEnd m i-i) (rs m (i,q)) rfl (Va.rs hi hq)];congr 1;lia
     rw[this];exact hb _ (by lia)
structure Own(m:Nat) (hs:List Int) (owner:Array (Option Nat)):Prop where
 size:owner.size=m+1
 all:∀k:Nat,k<hs.length->∃j:Nat,owner[j]?=some (some k)
 lt:∀j k:Nat,owner[j]?=some (some k)->k<hs.length
 Iu:∀(j k:Nat)(h:Int),owner[j]?=some (some k)->hs[k]?=some h->Rea m (ow owner) h j
 inj:∀j j' k:Nat,owner[j]?=some (some k)->owner[j']?=some (some k)->j=j'
def Own.KY(o:Own m hs owner)(hl:hs.length<=m):∃j,j<=m/\¬ow owner j:=by
 refine Qh λhn=>?_;have gb:∀j,j<=m->ow owner j:=λj hj=>Qh λz=>hn ⟨j,hj,z⟩
 let g:Nat->Nat:=λj=>((owner[j]?).getD none).getD 0
 have hg:∀j,j<=m->owner[j]?=some (some (g j)):=λj hj=>by obtain⟨k,hk⟩:=gb j hj;show owner[j]?=some (some (((owner[j]?).getD none).getD 0));rw[hk];rfl
 have nd:((List.range (m+1)).map g).Nodup:=by unfold List.Nodup;rw[Pi];have:=Rj (n:=m+1);refine QJ (λ{a b} ha hb hab e=>hab ?_) this;have ha:=O5.mp ha;have hb:=O5.mp hb;exact o.inj a b (g a) (hg a (by lia)) (by rw[e];exact hg b (by lia))
 have:=lO _ (List.range hs.length) nd λx hx=>by obtain⟨j,hj,rfl⟩:=OB.mp hx;have hj:=O5.mp hj;exact O5.mpr (o.lt j _ (hg j (by lia)))
 simp at this;lia
def yW(hm:tH m)(o:Own m hs owner)(hl:hs.length<=m)(h:Int) :
 ∃j,layClean.free m owner (turns m) (bits h%(m+1)) (bits h)=some j/\Own m (hs++[h]) (owner.setIfInBounds j (some hs.length)):=by
 obtain⟨j0,hj0,hn0⟩:=o.KY hl;have hi:bits h%(m+1)<=m:=Sr (Nat.mod_lt _ (Nat.succ_pos m));obtain⟨L,l1,l2,el⟩:=rn hm hj0 (bits h%(m+1),bits h) hi (pD h);obtain⟨j,e,hj,hnj,n,en,hb⟩:=oe o.size (turns m) _ _ hi (pD h) ⟨L,by unfold turns;lia,by rw[el];exact hn0⟩;refine⟨j,e,?_⟩;have hjb:j<owner.size:=by rw[o.size];lia
 have get:∀i,(owner.setIfInBounds j (some hs.length))[i]?=if i=j then some (some hs.length)else owner[i]?:=by
  intro i;rw[Array.getElem?_setIfInBounds];by_cases hij:j=i
  .subst hij;rw[Ow rfl,Ow hjb,Ow rfl]
  .rw[Ox hij,Ox (λz=>hij z.symm)]
 have sub:∀i,ow owner i->ow (owner.setIfInBounds j (some hs.length)) i:=by
  rintro i ⟨k,hk⟩;by_cases hij:i=j
  .exact⟨_,by rw[get,Ow hij]⟩
  .exact⟨k,by rw[get,Ox hij];exact hk⟩
 have inv:∀i k,(owner.setIfInBounds j (some hs.length))[i]?=some (some k)->(i=j/\k=hs.length)\/(i≠j/\owner[i]?=some (some k)):=by
  intro i k hk;rw[get]at hk;by_cases hij:i=j
  .rw[Ow hij]at hk;exact .inl ⟨hij,by simpa using hk.symm⟩
  .rw[Ox hij]at hk;exact .inr ⟨hij,hk⟩
 refine⟨by rw[Array.size_setIfInBounds,o.size],λk hk=>?_,λi k hk=>?_,λi k h' hk hh=>?_,λi i' k h1 h2=>?_⟩
 .rw[OC,P6]at hk;by_cases hkl:k=hs.length
  .exact⟨j,by rw[get,Ow rfl,hkl]⟩
  .obtain⟨i,hi⟩:=o.all k (by lia);refine⟨i,?_⟩;rw[get,Ox]
   .exact hi
   .rintro rfl;exact hnj ⟨k,hi⟩
 .rw[OC,P6];rcases inv i k hk with⟨_,rfl⟩|⟨_,z⟩
  .lia
  .have:=o.lt i k z;lia
 .rcases inv i k hk with⟨rfl,rfl⟩|⟨hij,z⟩
  .rw[Py (Ou _),Nat.sub_self]at hh;cases hh;exact⟨n,en,λk hk=>sub _ (hb k hk)⟩
  .have hkl:=o.lt i k z;rw[Qi hkl]at hh;exact(o.Iu i k h' z hh).mono sub
 .rcases inv i k h1 with⟨rfl,rfl⟩|⟨hij,z⟩<;>rcases inv i' _ h2 with⟨rfl,e'⟩|⟨hij',z'⟩
  .rfl
  .have:=o.lt _ _ z';lia
  .have:=o.lt _ _ z;lia
  .exact o.inj i i' k z z'
theorem yX(hm:tH m):∀(suf pre:List Int)(owner:Array (Option Nat)),Own m pre owner->pre.length+suf.length<=m->
 ∃owner',suf.foldl (λacc h=>do
  let (owner,k) <- acc
  let j <- layClean.free m owner (turns m) (bits h%(m+1)) (bits h)
  pure (owner.setIfInBounds j (some k),k+1)) (some (owner,pre.length))=some (owner',pre.length+suf.length)/\Own m (pre++suf) owner'
 |[],pre,owner,o,_=>⟨owner,rfl,by grind⟩
 |h::suf,pre,owner,o,hl=>by
  simp only[OV]at hl;obtain⟨j,e,o'⟩:=yW hm o (by lia) h;obtain⟨owner',e2,o2⟩:=yX hm suf (pre++[h]) _ o' (by simp;lia)
  grind
def FE(hm:tH m)(hs:Array Int)(hl:hs.size<=m):∃owner,layClean m hs=some owner/\Own m hs.toList owner:=by
 have o0:Own m [] (Array.replicate (m+1) none):=by
  have no:∀j k:Nat,(Array.replicate (m+1) (none:Option Nat))[j]?=some (some k)->False:=by grind
  exact⟨by simp,λk hk=>by simp at hk,λj k h=>(no j k h).elim,λj k _ h=>(no j k h).elim,λj _ k h=>(no j k h).elim⟩
 obtain⟨owner,e,o⟩:=yX hm hs.toList [] _ o0 (by grind);refine⟨owner,?_,by grind⟩;unfold layClean
 grind
theorem yY{α:Type}(es:Array α):∀(l:List Nat),(∀k∈l,k<es.size)->(l.filterMap (es[·]?)).length=l.length/\∀i:Nat,(l.filterMap (es[·]?))[i]?=(l[i]?).bind (es[·]?)
 |[],_=>⟨rfl,λi=>by simp⟩
 |k::l,h=>by
  have hk:k<es.size:=h k (OZ ..);have e:es[k]?=some es[k]:=by simp[hk]
  obtain⟨a,b⟩:=yY es l λk hk=>h k (OW _ hk);rw[List.filterMap_cons_some e];refine⟨by simp[a],λi=>?_⟩;cases i with
  |zero=>simp[e]
  |succ i=>simpa using b i
theorem lR(o:Nat->Option Nat):∀l:List Nat,(l.filterMap λj=>(o j).map (j,·)).map Prod.fst=l.filter λj=>(o j).isSome
 |[]=>rfl
 |j::l=>by
  rw[Rk,Sv];cases e:o j with
  |none=>simpa using lR o l
  |some k=>simpa using lR o l
def yZ(owner:Array (Option Nat))(m:Nat)(hs:owner.size=m+1)(j k:Nat):(j,k)∈((List.range (m+1)).filterMap λj=>(owner.getD j none).map (j,·))↔owner[j]?=some (some k):=by
 rw[Rr];constructor
 .rintro⟨a,h1,h2⟩;have h1:=O5.mp h1;have hb:a<owner.size:=by lia
  have e:owner.getD a none=owner[a]:=by simp[Array.getD,hb]
  rw[e]at h2;obtain⟨k',e1,e2⟩:=OY.mp h2;cases e2;rw[show owner[j]?=some owner[j] by simp[hb],e1]
 .intro h;obtain⟨hb,e⟩:=Qb.mp h;refine⟨j,O5.mpr (by lia),?_⟩;have e2:owner.getD j none=owner[j]:=by simp[Array.getD,hb]
  rw[e2,e];rfl
structure Laid{V:Type} (m:Nat) (es es':Array (Int×V)) (t':SetTable):Prop where
 tE:m6 t' es'
 mask:t'.mask=m
 size:es'.size=es.size
 mem:∀x,x∈es'.toList↔x∈es.toList
 pw:∀R:Int×V->Int×V->Prop,(∀x y,R x y->R y x)->es.toList.Pairwise R->es'.toList.Pairwise R
def rq{V:Type}{m:Nat}(hm:tH m)(es:Array (Int×V))(hl:es.size<=m)(finger moves:Nat)(led plain:Bool) :
 ∃t' order,laid m finger moves led plain (es.map (·.1))=some (t',order)/\Laid m es (order.filterMap (es[·]?)) t'/\t'.led=led/\t'.plain=plain/\order.toList.Perm (List.range es.size):=by
 obtain⟨owner,eo,o⟩:=FE hm (es.map (·.1)) (by simpa using hl);have len:(es.map (·.1)).toList.length=es.size:=by simp
 let live:=(List.range (m+1)).filterMap λj=>(owner.getD j none).map (j,·)
 have lm:∀j k,(j,k)∈live↔owner[j]?=some (some k):=yZ owner m o.size;have tB:B9 (live.map Prod.fst):=by show B9 (((List.range (m+1)).filterMap λj=>(owner.getD j none).map (j,·)).map Prod.fst);rw[lR];exact List.pairwise_lt_range.sublist (List.filter_sublist)
 have ndS:(live.map Prod.snd).Nodup:=by unfold List.Nodup;unfold B9 at tB;rw[Pi]at tB ⊢;refine QJ (λ{a b} ha hb hab e=>?_) tB;have h1:=(lm a.1 a.2).mp ha;have h2:=(lm b.1 b.2).mp hb;rw[<- e]at h2;have:=o.inj _ _ _ h1 h2;lia
 have lt:∀k∈live.map Prod.snd,k<es.size:=by
  intro k hk;obtain⟨p,hp,rfl⟩:=OB.mp hk;have:=o.lt p.1 p.2 ((lm p.1 p.2).mp hp)
  rwa [len]at this
 have all:∀k,k<es.size->k∈live.map Prod.snd:=by intro k hk;obtain⟨j,hj⟩:=o.all k (by rw[len];exact hk);exact OB.mpr ⟨(j,k),(lm j k).mpr hj,rfl⟩
 have ll:live.length=es.size:=by have a:=lO _ (List.range es.size) ndS λk hk=>O5.mpr (lt k hk);have b:=lO (List.range es.size) (live.map Prod.snd) Rj λk hk=>all k (O5.mp hk);simp at a b;lia
 obtain⟨f1,f2⟩:=yY es (live.map Prod.snd) lt;refine⟨{mask:=m,place:=(live.map (·.1)).toArray,dummies:=#[],finger,led,moves,plain},(live.map (·.2)).toArray,?_,?_,rfl,rfl,(List.perm_ext_iff_of_nodup ndS Rj).mpr λk=>⟨λh=>O5.mpr (lt k h),λh=>all k (O5.mp h)⟩⟩
 .unfold laid;rw[eo];rfl
 .have el:((live.map (·.2)).toArray.filterMap (es[·]?)).toList=(live.map Prod.snd).filterMap (es[·]?):=by simp
  have es':((live.map (·.2)).toArray.filterMap (es[·]?)).size=es.size:=by rw[<- Pt,el,f1,Ov,ll]
  refine⟨⟨⟨hm,rfl,by simpa using tB,λj hj=>?_⟩,?_,λq hq=>?_⟩,rfl,es',λx=>?_,λR sy pw=>?_⟩
  .have hj:j∈live.map Prod.fst:=by simpa using hj
   obtain⟨p,hp,rfl⟩:=OB.mp hj;obtain⟨hb,_⟩:=Qb.mp ((lm p.1 p.2).mp hp);show p.1<=m;have:=o.size;lia
  .rw[es'];simpa using ll
  .have hq:q∈(live.map Prod.fst).zip ((live.map Prod.snd).filterMap (es[·]?)):=by rw[el]at hq;simpa using hq
   obtain⟨i,hi⟩:=OO.mp hq;rw[Q9,f2]at hi;obtain⟨h1,h2⟩:=hi;rw[OI]at h1 h2;obtain⟨p,hp,e1⟩:=OY.mp h1;rw[hp]at h2;have h2:es[p.2]?=some q.2:=h2;have ho:=(lm p.1 p.2).mp (OO.mpr ⟨i,hp⟩);have hh:(es.map (·.1)).toList[p.2]?=some q.2.1:=by rw[OU,Array.getElem?_map,h2];rfl
   rw[<- e1];refine(o.Iu p.1 p.2 q.2.1 ho hh).mono λj ⟨k,hk⟩=>?_;show j∈(live.map (·.1)).toArray.toList;simpa using⟨k,(lm j k).mpr hk⟩
  .rw[el];constructor
   .intro hx;obtain⟨k,_,h2⟩:=Rr.mp hx;exact OO.mpr ⟨k,by rw[OU];exact h2⟩
   .intro hx;obtain⟨k,hk⟩:=OO.mp hx;have hb:k<es.size:=by have:=(OG.mp hk).1;simpa using this
    exact Rr.mpr ⟨k,all k hb,by rw[OU]at hk;exact hk⟩
  .rw[el];rw[OQ];intro a b ha hb hab;have ea:=f2 a;have eb:=f2 b;rw[OL ha]at ea;rw[OL hb]at eb;rw[f1]at ha hb;rw[OL ha]at ea;rw[OL hb]at eb;have hne:(live.map Prod.snd)[a]≠(live.map Prod.snd)[b]:=OQ.mp ndS a b ha hb hab;have ea:es[(live.map Prod.snd)[a]]?=some _:=ea.symm;have eb:es[(live.map Prod.snd)[b]]?=some _:=eb.symm;obtain⟨ka,va⟩:=Qb.mp ea;obtain⟨kb,vb⟩:=Qb.mp eb;have P:=OQ.mp pw;rw[<- va,<- vb];rcases Ru hne with z|z
   .simpa using P _ _ (by simpa using ka) (by simpa using kb) z
   .refine sy _ _ ?_;simpa using P _ _ (by simpa using kb) (by simpa using ka) z
def B_{V:Type}{m:Nat}(hm:tH m)(es:Array (Int×V))(hl:es.size<=m)(finger moves:Nat)(led plain:Bool) :
 ∃t' order,laid m finger moves led plain (es.map (·.1))=some (t',order)/\Laid m es (order.filterMap (es[·]?)) t'/\t'.led=led/\t'.plain=plain:=by
 obtain⟨t',order,a,b,c,d,_⟩:=rq hm es hl finger moves led plain;exact⟨t',order,a,b,c,d⟩
end ST
namespace ST
open PySem PySem.W PyProof.Rows
structure Lt(N:Nat) (lt:Nat->Nat->Bool):Prop where
 Oj:∀i,lt i i=false
 tr:∀i j k,lt i j=true->lt j k=true->lt i k=true
 Ol:∀i j,i<N->j<N->i≠j->lt i j=true\/lt j i=true
noncomputable abbrev NJ:=Nat->Nat->(Bool->Sz->Prop)->Sz->Prop
def Ca(N:Nat)(lt:Nat->Nat->Bool)(cmp:NJ)(s:Sz):Prop:=∀i j C,i<N->j<N->C (lt i j) s->cmp i j C s
def Pm(N:Nat)(p:Array Nat):Prop:=p.toList.Perm (List.range N)
noncomputable def bY(p:Array Nat)(i:Nat):Nat:=p.getD i 0
section
theorem Pm.size(h:Pm N p):p.size=N:=by have:=h.length_eq;simpa using this
def Pm.perm(h:Pm N p)(q:p'.Perm p):Pm N p':=(Array.perm_iff_toList_perm.mp q).trans h
def FF(hi:i<p.size):p[i]?=some (bY p i):=by unfold bY;simp[Array.getD,hi]
theorem y9(h:p'[i]?=p[k]?):bY p' i=bY p k:=by
 simp_all [bY,bY]
def Pm.bd(h:Pm N p)(hi:i<N):bY p i<N:=by
 have hi':i<p.size:=by rw[h.size];exact hi
 have:bY p i∈p.toList:=OO.mpr ⟨i,by rw[OU];exact FF hi'⟩;exact O5.mp (h.mem_iff.mp this)
def Pm.ne(h:Pm N p)(hi:i<N)(hj:j<N)(e:i≠j):bY p i≠bY p j:=by
 have nd:p.toList.Nodup:=h.nodup_iff.mpr Rj;have hi':i<p.size:=by rw[h.size];exact hi
 have hj':j<p.size:=by rw[h.size];exact hj
 have gi:p.toList[i]'(by simpa using hi')=bY p i:=by simp[bY,Array.getD,hi']
 have gj:p.toList[j]'(by simpa using hj')=bY p j:=by simp[bY,Array.getD,hj']
 intro z;rcases Ru e with q|q
 .exact OQ.mp nd i j (by simpa using hi') (by simpa using hj') q (by rw[gi,gj];exact z)
 .exact OQ.mp nd j i (by simpa using hj') (by simpa using hi') q (by rw[gi,gj];exact z.symm)
def So(lt:Nat->Nat->Bool)(p:Array Nat)(k:Nat):Prop:=∀a b,a<b->b<k->lt (bY p a) (bY p b)=true
def De(lt:Nat->Nat->Bool)(p:Array Nat)(k:Nat):Prop:=∀a b,a<b->b<k->lt (bY p b) (bY p a)=true
def Lt.vg(o:Lt N lt)(hi:i<N)(hj:j<N)(e:i≠j)(h:lt i j=false):lt j i=true:=by
 grind [Lt]
def So.snoc(o:Lt N lt)(h:So lt p k)(hk:1<=k)(l:lt (bY p (k-1)) (bY p k)=true):So lt p (k+1):=by
 grind [Lt,So]
def De.snoc(o:Lt N lt)(h:De lt p k)(hk:1<=k)(l:lt (bY p k) (bY p (k-1))=true):De lt p (k+1):=by
 grind [Lt,De]
theorem um(o:Lt N lt)(an:Ca N lt cmp s)(pm:Pm N p):∀(f n:Nat){Q:Nat->Sz->Prop},1<=n->n+f=N->So lt p n->
 (∀m,n<=m->m<=N->So lt p m->(m<N->lt (bY p m) (bY p (m-1))=true)->Q m s)->(kas_asc p f n).kasWp cmp Q s
 |0,n,Q,h1,h2,h3,k=>k n (Ou _) (by lia) h3 λz=>by lia
 |f+1,n,Q,h1,h2,h3,k=>by
  refine an _ _ _ (pm.bd (by lia)) (pm.bd (by lia)) ?_;show KasT.kasWp cmp (if lt (bY p n) (bY p (n-1))=true then .ret n else kas_asc p f (n+1)) Q s;by_cases c:lt (bY p n) (bY p (n-1))=true
  .rw[Ow c];exact k n (Ou _) (by lia) h3 λ_=>c
  .rw[Ox c];have c:lt (bY p n) (bY p (n-1))=false:=by grind
   exact um o an pm f (n+1) (by lia) (by lia) (h3.snoc o h1 (o.vg (pm.bd (by lia)) (pm.bd (by lia)) (pm.ne (by lia) (by lia) (by lia)) c)) λm a b c d=>k m (by lia) b c d
theorem vx(o:Lt N lt)(an:Ca N lt cmp s)(pm:Pm N p):∀(f n:Nat){Q:Array Nat×Nat×Nat->Sz->Prop},1<=n->n+f=N->De lt p n->
 (∀m,n<=m->m<=N->De lt p m->Q (p,m,0) s)->(kas_desc f p n 0).kasWp cmp Q s
 |0,n,Q,h1,h2,h3,k=>k n (Ou _) (by lia) h3
 |f+1,n,Q,h1,h2,h3,k=>by
  refine an _ _ _ (pm.bd (by lia)) (pm.bd (by lia)) ?_;show KasT.kasWp cmp (if lt (bY p n) (bY p (n-1))=true then(if 0>0 then kas_desc f (kas_rev p (n-(0+1)) n) (n+1) 0 else kas_desc f p (n+1) 0)
   else .ask (bY p (n-1)) (bY p n) λd=>if d=true then .ret (p,n,0)else kas_desc f p (n+1) (0+1)) Q s
  by_cases c:lt (bY p n) (bY p (n-1))=true
  .rw[Ow c,Ox (by lia)];exact vx o an pm f (n+1) (by lia) (by lia) (h3.snoc o h1 c) λm a b c=>k m (by lia) b c
  .rw[Ox c];have c:lt (bY p n) (bY p (n-1))=false:=by grind
   refine an _ _ _ (pm.bd (by lia)) (pm.bd (by lia)) ?_;rw[o.vg (pm.bd (by lia)) (pm.bd (by lia)) (pm.ne (by lia) (by lia) (by lia)) c];show KasT.kasWp cmp (if true=true then _ else _) Q s;rw[Ow rfl];exact k n (Ou _) (by lia) h3
def y_(n:Nat)(hn:n<=p.size)(k:Nat):bY (kas_rev p 0 n) k=if k<n then bY p (n-1-k)else bY p k:=by
 have e:=getElem?_mirror_all (xs:=p) (i:=0) hn k;unfold kas_rev
 grind [y9]
def za(o:Lt N lt)(an:Ca N lt cmp s)(pm:Pm N p)(h1:1<=n)(hn:n<=N)(hd:De lt p n)
 (k:∀m p',1<=m->m<=N->Pm N p'->So lt p' m->Q (m,p') s):(kas_tail3 n N p).kasWp cmp Q s:=by
 unfold kas_tail3;rw[Rv];have pm':Pm N (kas_rev p 0 n):=pm.perm (mirror_perm _ _ _ _);refine um o an pm' (N-n) n h1 (by lia) ?_ λm a b c _=>k m _ (by lia) b pm' c;intro a b hab hb;rw[y_ n (by rw[pm.size];exact hn),y_ n (by rw[pm.size];exact hn),Ow (by lia),Ow hb];exact hd _ _ (by lia) (by lia)
def zb(o:Lt N lt)(an:Ca N lt cmp s)(pm:Pm N p)(h2:2<=N)
 (k:∀m p',1<=m->m<=N->Pm N p'->So lt p' m->Q (m,p') s):(kas_count N p).kasWp cmp Q s:=by
 unfold kas_count;rw[Rv];refine um o an pm (N-1) 1 (Ou _) (by lia) (λa b hab hb=>by lia) λm a b c d=>?_;by_cases e:m=N
 .rw[Ow (by simpa using e)];exact k m p a b pm c
 .rw[Ox (by simpa using e)];by_cases hm:m>1
  .rw[Ow hm];refine an _ _ _ (pm.bd (by lia)) (pm.bd (by lia)) ?_;have:lt (bY p 0) (bY p (m-1))=true:=c 0 (m-1) (by lia) (by lia);show KasT.kasWp cmp (if lt (bY p 0) (bY p (m-1))=true then _ else _) Q s;rw[Ow this];exact k m p a b pm c
  .rw[Ox hm];have hm1:m=1:=by lia
   subst hm1;unfold kas_descPart;rw[Rv];have l:=d (by lia);refine vx o an pm (N-(1+1)) (1+1) (by lia) (by lia) (λa b hab hb=>?_) λm' a' b' c'=>?_
   .have:a=0:=by lia
    have:b=1:=by lia
    subst_vars
    exact l
   .show KasT.kasWp cmp (if 0>0 then _ else kas_tail3 m' N p) Q s;rw[Ox (by lia)];exact za o an pm (by lia) b' c' k
theorem lS(o:Lt N lt)(an:Ca N lt cmp s)(pm:Pm N p)(hi:i<N)(so:So lt p i):∀(f l r:Nat){Q:Nat->Sz->Prop},l<=r->r<=i->r-l<=f->
 (∀a,a<l->lt (bY p a) (bY p i)=true)->(∀a,r<=a->a<i->lt (bY p i) (bY p a)=true)->
 (∀m,m<=i->(∀a,a<m->lt (bY p a) (bY p i)=true)->(∀a,m<=a->a<i->lt (bY p i) (bY p a)=true)->Q m s)->(kas_place p i f l r).kasWp cmp Q s
 |0,l,r,Q,h1,h2,h3,h4,h5,k=>k l (by lia) h4 λa x y=>h5 a (by lia) y
 |f+1,l,r,Q,h1,h2,h3,h4,h5,k=>by
  unfold kas_place;by_cases c:l>=r
  .rw[Ow c];exact k l (by lia) h4 λa x y=>h5 a (by lia) y
  .rw[Ox c];refine an _ _ _ (pm.bd hi) (pm.bd (by lia)) ?_;show KasT.kasWp cmp (if lt (bY p i) (bY p ((l+r)/2))=true then _ else _) Q s;by_cases q:lt (bY p i) (bY p ((l+r)/2))=true
   .rw[Ow q];refine lS o an pm hi so f l ((l+r)/2) (by lia) (by lia) (by lia) h4 (λa x y=>?_) k;by_cases e:a=(l+r)/2
    .rw[e];exact q
    .exact o.tr _ _ _ q (so _ _ (by lia) y)
   .rw[Ox q];have q:lt (bY p i) (bY p ((l+r)/2))=false:=by grind
    have q:=o.vg (pm.bd hi) (pm.bd (by lia)) (pm.ne hi (by lia) (by lia)) q;refine lS o an pm hi so f _ r (by lia) h2 (by lia) (λa x=>?_) h5 k;by_cases e:a=(l+r)/2
    .rw[e];exact q
    .exact o.tr _ _ _ (so _ _ (by lia) (by lia)) q
def zc(hi:i<p.size)(hl:l<=i)(k:Nat):bY (bubble p i (i-l)) k=if k=l then bY p i else if l<k/\k<=i then bY p (k-1)else bY p k:=by
 have e:=getElem?_bubble hi (i-l) (by lia) k;rw[show i-(i-l)=l by lia]at e;by_cases h1:k=l
 .rw[Ow h1]at e ⊢;exact y9 e
 .rw[Ox h1]at e ⊢
  grind [y9]
theorem zd(o:Lt N lt)(an:Ca N lt cmp s):∀(f i:Nat)(p:Array Nat){Q:Array Nat->Sz->Prop},Pm N p->i+f=N->So lt p i->
 (∀p',Pm N p'->So lt p' N->Q p' s)->(kas_bin f p i).kasWp cmp Q s
 |0,i,p,Q,pm,h,so,k=>k p pm (by grind)
 |f+1,i,p,Q,pm,h,so,k=>by
  unfold kas_bin;rw[Rv];refine lS o an pm (by lia) so i 0 i (by lia) (Ou _) (by lia) (λa x=>by lia) (λa x y=>by lia) λm hm lo hi=>?_;refine zd o an f (i+1) _ (pm.perm (bubble_perm _ _ _)) (by lia) (λa b hab hb=>?_) k;have hs:i<p.size:=by rw[pm.size];lia
  rw[zc hs hm,zc hs hm]
  repeat' split
  all_goals first|lia|(exact hi _ (by lia) (by lia))|(exact lo _ (by lia))|(exact so _ _ (by lia) (by lia))
def Cb(o:Lt N lt)(an:Ca N lt cmp s)(h2:2<=N)(k:∀p,Pm N p->So lt p N->Q p s):(kas_sort N).kasWp cmp Q s:=by
 unfold kas_sort;rw[Rv];have pm:Pm N (List.toArray (List.range N)):=by unfold Pm;simp
 refine zb o an pm h2 λm p' a b c d=>?_;show KasT.kasWp cmp (if m<N then kas_bin (N-max m 1) p' (max m 1)else .ret p') Q s;by_cases e:m<N
 .rw[Ow e];have:max m 1=m:=by lia
  rw[this];exact zd o an (N-m) m p' c (by lia) d k
 .rw[Ox e];have:m=N:=by lia
  subst this;exact k p' c d
end
end ST
namespace L2
open PySem PySem.Spec PySem.Calls PyProof.Rows ST
noncomputable abbrev iK(ns:List Int):List aG:=ns.map Sum.inl
section
def kY(h:(aj prog w).is (.inl i) v=true):∃t,v=.int i t:=by
 rcases aK (show gf (.inl i) v=true from h)with⟨j,t,e,rfl⟩|⟨x,t,e,_⟩
 .cases e;exact⟨t,rfl⟩
 .cases e
theorem items_int:∀{ns:List Int}{vs:List SD},ItemsAre (aj prog w) (iK ns) vs->∀v∈vs,∃i t,v=.int i t
 |[],_,h,v,hv=>by cases h;simp at hv
 |n::ns,_,h,v,hv=>by
  cases h with
  |cons h1 h2=>
   rcases OE.mp hv with rfl|hv
   .obtain⟨t,rfl⟩:=kY h1;exact⟨n,t,rfl⟩
   .exact items_int h2 v hv
def FG(hk:(tK prog w).is s.heap (iK ns) b)(h:Q true s):wpAny (model prog w) A (hashByValue 8 (.ref b)) Q E s:=by
 have hT:=IsTupleKey.typeIs hk;obtain⟨o,items,n,ho,_,hd,hi⟩:=hk;unfold hashByValue;refine KE (QH hT Qp.lookup ?_);dsimp only;refine KE (Q8 ho hd ?_);refine KE ?_;show wpAny _ _ (forIn items _ _) _ _ s;rw[<- QV];refine QQ _ (λrest r s'=>r.1=none/\s'=s/\∀v∈rest,∃i t,v=Value.int i t) _ ?_ ?_ _ _ ⟨rfl,rfl,items_int hi⟩
 .rintro v rest r s' ⟨hr,rfl,gb⟩;obtain⟨i,t,rfl⟩:=gb v OZ;refine KE (Os ?_);simp only[PK,OD,Pk];exact Os ⟨rfl,rfl,λu hu'=>gb u (OW _ hu')⟩
 .rintro⟨r1,r2⟩ s' ⟨hr,rfl,_⟩;simp only at hr;subst hr;exact Os h
def rA(hk:(tK prog w).is s.heap (iK ns) b)(h:Q false s):wpAny (model prog w) A (ofAClassStatement 8 (.ref b)) Q E s:=by
 have hT:=IsTupleKey.typeIs hk;obtain⟨o,items,n,ho,_,hd,hi⟩:=hk;unfold ofAClassStatement;refine KE (QA hT ?_);dsimp only;rw[Ow (by decide)];refine KE (Os ?_);simp only[PK,OD,Pk];refine KE (Q8 ho hd ?_);refine KE ?_;show wpAny _ _ (forIn items _ _) _ _ s;rw[<- QV];refine QQ _ (λrest r s'=>r.1=none/\s'=s/\∀v∈rest,∃i t,v=Value.int i t) _ ?_ ?_ _ _ ⟨rfl,rfl,items_int hi⟩
 .rintro v rest r s' ⟨hr,rfl,gb⟩;obtain⟨i,t,rfl⟩:=gb v OZ;refine KE (Os ?_);simp only[OD,Pk];exact Os ⟨rfl,rfl,λu hu'=>gb u (OW _ hu')⟩
 .rintro⟨r1,r2⟩ s' ⟨hr,rfl,_⟩;simp only at hr;subst hr;exact Os h
def FH(hk:(tK prog w).is s.heap (iK ns) b)(hy:∀y∈ys,∃ms c,y=.ref c/\(tK prog w).is s.heap (iK ms) c)(h:Q false s):wpAny (model prog w) A (searchCouldBeSeen (.ref b) ys) Q E s:=by
 unfold searchCouldBeSeen;refine KE ?_;refine QQ _ (λrest r s'=>r.1=none/\s'=s/\∀y∈rest,∃ms c,y=.ref c/\(tK prog w).is s.heap (iK ms) c) _ ?_ ?_ _ _ ⟨rfl,rfl,hy⟩
 .rintro v rest r s' ⟨hr,rfl,gb⟩;obtain⟨ms,c,rfl,hc⟩:=gb v OZ;have fin:∀u∈rest,∃ms c,u=Value.ref c/\(tK prog w).is s'.heap (iK ms) c:=λu hu'=>gb u (OW _ hu');dsimp only;split
  .exact Os ⟨rfl,rfl,fin⟩
  .refine KE ((tK prog w).quiet hk ?_);simp only[PK,OD,Pk];refine KE ((tK prog w).quiet hc ?_);simp only[PK,OD,Pk];refine KE (rA hk ?_);simp only[OD,Pk];refine KE (rA hc ?_);simp only[OD,Pk];exact Os ⟨rfl,rfl,fin⟩
 .rintro⟨r1,r2⟩ s' ⟨hr,rfl,_⟩;simp only at hr;subst hr;exact Os h
end
section
def Nj(prog:SC)(w:World)(h:Heap)(es:Array (Int×SD)):Prop:=∀e∈es.toList,∃ms c,e=((tK prog w).hash (iK ms),Value.ref c)/\(tK prog w).is h (iK ms) c
def Cc(h:tH m):(m%2==0)=false:=by rcases h with rfl|rfl|rfl|rfl<;>rfl
theorem m6.fits(T:m6 t es)(hs:t.place.size<=t.mask):t.fits es.size=true:=by unfold SetTable.fits SetTable.fill;rw[T.tb.Iw];simp[T.len]at hs ⊢;exact hs
def uq{α:Type}{es:Array α}{i:Nat}{e:α}(h:es[i]?=some e):e∈es.toList:=OO.mpr ⟨i,by rw[OU];exact h⟩
theorem og{ep:Nat}{t:SetTable}{ns:List Int}{Q:SetFound->Sz->Prop}(ho:s.heap.get? a=some o)(hd:o.data=.set es ep t)(T:m6 t es)(hs:t.place.size<=t.mask)
 (hu:A.units<cLine) (hk:(tK prog w).is s.heap (iK ns) b) (el:Nj prog w s.heap es)
 (h1:(∃e∈es.toList,∃c,e.2=.ref c/\(tK prog w).is s.heap (iK ns) c)->Q (.there none) s)
 (h2:(∀e∈es.toList,∀c,e.2=.ref c->¬(tK prog w).is s.heap (iK ns) c)->∀j,j∉t.place.toList->j<=t.mask->Rea t.mask (·∈ t.place.toList) ((tK prog w).hash (iK ns)) j->Q (.free j false) s) :
 ∀(fuel n:Nat)(stand:Option SetTable.Probe),stand.getD (t.probeStart ((tK prog w).hash (iK ns)))=it t.mask n (st t.mask ((tK prog w).hash (iK ns)))->
  (∀k,k<n->∃i e,∃hi:i<t.place.size,t.place[i]=(it t.mask k (st t.mask ((tK prog w).hash (iK ns)))).j/\es[i]?=some e/\∀c,e.2=.ref c->¬(tK prog w).is s.heap (iK ns) c)->
  (∃N,n<=N/\N<n+fuel/\(it t.mask N (st t.mask ((tK prog w).hash (iK ns)))).j∉t.place.toList)->
  wpAny (model prog w) A (setSearchFrom a (.ref b) ((tK prog w).hash (iK ns)) true fuel stand) Q E s
 |0,n,stand,_,_,⟨N,x1,x2,_⟩=>by lia
 |fuel+1,n,stand,e1,e2,⟨N,x1,x2,x3⟩=>by
  have v0:Va t.mask (it t.mask n (st t.mask ((tK prog w).hash (iK ns)))):=(Va.st _ _).it;have sp:=lQ T.tb hs (λi=>(es[i]?.map (·.1)).getD 0) ((tK prog w).hash (iK ns)) v0;have at_:∀i,i<t.place.size->∃e,es[i]?=some e:=λi hi=>⟨es[i]'(by rw[<- T.len];exact hi),by simp[T.len▸hi]⟩;unfold setSearchFrom;refine KE (PJ ho hd (m6.fits T hs) ?_);dsimp only;have hg:t.gaveWay=false:=Cc T.tb.d4;rw[hg];simp only[OD,Pk];rw[e1];have pre:∀{nn:Nat},(∀k,k<nn->∃i,∃hi:i<t.place.size,t.place[i]=(it t.mask k (it t.mask n (st t.mask ((tK prog w).hash (iK ns))))).j/\(es[i]?.map (·.1)).getD 0≠(tK prog w).hash (iK ns))->
   ∀k,k<n+nn->∃i e,∃hi:i<t.place.size,t.place[i]=(it t.mask k (st t.mask ((tK prog w).hash (iK ns)))).j/\es[i]?=some e/\∀c,e.2=.ref c->¬(tK prog w).is s.heap (iK ns) c:=by
   intro nn hb k hk';by_cases hkn:k<n
   .exact e2 k hkn
   .obtain⟨i,hi,q1,q2⟩:=hb (k-n) (by lia);obtain⟨e,he⟩:=at_ i hi;refine⟨i,e,hi,?_,he,λc hc his=>q2 ?_⟩
    .rw[q1,<- dJ,show n+(k-n)=k by lia]
    .obtain⟨ms,c',rfl,his'⟩:=el e (uq he);have hc':c'=c:=by injection hc
     subst hc';rw[he];show(tK prog w).hash (iK ms)=_;rw[(tK prog w).inj his' his]
  generalize hq0:t.probe _ _ (it t.mask n (st t.mask ((tK prog w).hash (iK ns))))=pr;have hpr:t.probe (λi=>(es[i]?.map (·.1)).getD 0) ((tK prog w).hash (iK ns)) (it t.mask n (st t.mask ((tK prog w).hash (iK ns))))=pr:=hq0;rw[hpr]at sp;clear hpr hq0;cases sp with
  |em nn hem hb=>
   dsimp only;refine Os (h2 ?_ _ hem (v0.it).NC ?_)
   .intro e he c hc his;obtain⟨i,hi⟩:=OO.mp he;rw[OU]at hi;have hil:i<t.place.size:=by rw[T.len];exact(Qb.mp hi).1
    obtain⟨ms,c',rfl,his'⟩:=el e he;have hc':c'=c:=by injection hc
    subst hc';have ek:=(tK prog w).inj his' his;have hz:(t.place[i],((tK prog w).hash (iK ms),Value.ref c'))∈t.place.toList.zip es.toList:=OO.mpr ⟨i,by rw[Q9];exact⟨by simp[hil],by rw[OU];exact hi⟩⟩;obtain⟨m,em,eb⟩:=T.Iu _ hz;have em:(it t.mask m (st t.mask ((tK prog w).hash (iK ms)))).j=t.place[i]:=em;rw[ek]at em eb;have hm:m<n+nn:=by
     rcases RJ m (n+nn)with q|q|q
     .exact q
     .exfalso;refine hem ?_;show(it t.mask nn (it t.mask n _)).j∈t.place.toList;rw[<- dJ,<- q,em];simp
     .exfalso;refine hem ?_;show(it t.mask nn (it t.mask n _)).j∈t.place.toList;rw[<- dJ];exact eb _ q
    obtain⟨i',e',hi',q1,q2,q3⟩:=pre hb m hm;have hii:i'=i:=by
     have:t.place[i']=t.place[i]:=q1.trans em;rcases RJ i' i with q|q|q
     .have:=OQ.mp T.tb.tB i' i (by simpa using hi') (by simpa using hil) q;simp at this;lia
     .exact q
     .have:=OQ.mp T.tb.tB i i' (by simpa using hil) (by simpa using hi') q;simp at this;lia
    subst hii;rw[hi]at q2;cases q2;exact q3 c' rfl his
   .refine⟨n+nn,by rw[dJ],λk hk'=>?_⟩;obtain⟨i,e,hi,q1,_⟩:=pre hb k hk';show _∈t.place.toList;rw[<- q1];simp
  |ca nn i hi hij hq hb=>
   dsimp only;obtain⟨e,he⟩:=at_ i hi;obtain⟨ms,c,rfl,his⟩:=el e (uq he);have rest:wpAny (model prog w) A (do
    let some (_,y):=es[i]?|unsupported "internal:set-entry"
    let equal <- holding [y] (eqBool y (.ref b))
    let (es',_,t') <- setState a
    if true&&equal then return SetFound.there none
    let some same:=t'.sameMemory t.moves t.mask|unsupported "set.changed-during-lookup:is-the-new-block-at-the-old-address"
    let still <- match(if same then t'.slot (it t.mask nn (it t.mask n (st t.mask ((tK prog w).hash (iK ns))))).j else .empty)with
     |.live i'=>match es'[i']? with
      |some (_,y')=>do pure (if <- isSame y' y then some i' else none)
      |none=>pure none
     |_=>pure none
    match still with
    |none=>rule "set.search.anew";setSearchFrom a (.ref b) ((tK prog w).hash (iK ns)) true fuel none
    |some i'=>if equal then return .there (some i')else setSearchFrom a (.ref b) ((tK prog w).hash (iK ns)) true fuel (some (it t.mask (nn+1) (it t.mask n (st t.mask ((tK prog w).hash (iK ns))))))) Q E s:=by
    rw[he];dsimp only;refine KE (Pd ((tK prog w).eqBool hu his hk ?_));refine KE (PJ ho hd (m6.fits T hs) ?_);dsimp only;by_cases hkk:iK ms=iK ns
    .rw[OT hkk];simp only[R8,Qy];exact Os (h1 ⟨_,uq he,c,rfl,by rw[<- hkk];exact his⟩)
    .rw[Po hkk];simp only[RP,OD,Pk];have hsm:t.sameMemory t.moves t.mask=some true:=by unfold SetTable.sameMemory;simp
     rw[hsm];dsimp only;rw[Ow rfl,<- hij,oa T.tb hi];dsimp only;rw[he];dsimp only;refine KE (wpAny_isSame_ref_self ?_);refine KE (Os ?_);rw[Ow rfl]
     try dsimp only
     refine og ho hd T hs hu hk el h1 h2 fuel (n+(nn+1)) _ ?_ ?_ ⟨N,?_,?_,x3⟩
     .exact(dJ t.mask n (nn+1) _).symm
     .intro k hk';by_cases hkn:k<n+nn
      .exact pre hb k hkn
      .have:k=n+nn:=by lia
       subst this;refine⟨i,_,hi,by rw[hij,dJ],he,λc' hc' hh=>hkk ?_⟩;have:c=c':=by injection hc'
       subst this;exact(tK prog w).inj his hh
     .refine Qh λhc=>?_;have hN:N<n+(nn+1):=by lia
      by_cases hNn:N<n+nn
      .obtain⟨i',e',hi',q1,_⟩:=pre hb N hNn;exact x3 (by rw[<- q1];simp)
      .have:N=n+nn:=by lia
       subst this;exact x3 (by rw[dJ,<- hij];simp)
     .lia
   split
   .refine KE (FH hk ?_ ?_)
    .intro y hy;obtain⟨e',he',rfl⟩:=OB.mp hy;have he2:e'∈es.toList:=by have:=(Array.mem_toList_iff).mp he';rw[Array.mem_filter]at this;exact Array.mem_toList_iff.mpr this.1
     obtain⟨ms',c',rfl,his'⟩:=el e' he2;exact⟨ms',c',rfl,his'⟩
    .simp only[OD,Pk];exact rest
   .exact rest
end
noncomputable def byT(w:World):Bool:=w.params.followText "set-order"
def SetAt(w:World)(h:Heap)(a:Addr)(es:Array (Int×SD)):Prop:=∃o ep t,h.get? a=some o/\o.ExactSet/\o.data=.set es ep t/\m6 t es/\io t/\t.plain=true/\t.led=!byT w
def SetAt.keep(x:SetAt w h a es)(k:∀o,h.get? a=some o->h'.get? a=some o):SetAt w h' a es:=let ⟨o,ep,t,e,r⟩:=x;⟨o,ep,t,k o e,r⟩
def fC(h:io t):t.place.size<=t.mask:=by unfold io at h;lia
section
structure ko(es es':Array (Int×SD)) (x:Int×SD):Prop where
 mem:∀y,y∈es'.toList↔y=x\/y∈es.toList
 pw:∀R:Int×SD->Int×SD->Prop,(∀x y,R x y->R y x)->es.toList.Pairwise R->(∀e∈es.toList,R e x)->es'.toList.Pairwise R
 size:es'.size=es.size+1
def oh(es:Array (Int×SD))(p:Nat)(x:Int×SD)(hp:p<=es.size):ko es (SetTable.insertAt es p x) x:=by
 have e:=ST.insertAt_toList es p x hp;refine⟨λy=>?_,λR sy pw hx=>?_,ST.insertAt_size es p x hp⟩
 .rw[e,OF,OE];constructor
  .grind
  .rintro (rfl|z)
   .exact .inr (.inl rfl)
   .rw[<- Ql p es.toList,OF]at z;exact z.elim .inl λz=>.inr (.inr z)
 .rw[e,R6];rw[<- Ql p es.toList,R6]at pw;obtain⟨p1,p2,p3⟩:=pw;refine⟨p1,?_,?_⟩
  .rw[Pq]
   grind
  .grind
def ko.laid(g:ko es es1 x)(l:Laid m es1 es2 t):ko es es2 x:=⟨λy=>(l.mem y).trans (g.mem y),λR sy pw hx=>l.pw R sy (g.pw R sy pw hx),by rw[l.size,g.size]⟩
def g8{ep:Nat}{t:SetTable}(es':Array (Int×SD))(t':SetTable){h:Heap}(ho:h.get? a=some o)(hex:o.ExactSet)(hd:o.data=.set es ep t) :
 ∃o',(h.update a (Obj.putSet es' t')).get? a=some o'/\o'.ExactSet/\o'.data=.set es' (ep+1) t':=by
 have:=PP (Obj.putSet es' t') ho (by rw[putSet_of es' t' hd];rfl);rw[putSet_of es' t' hd]at this;exact⟨_,this,hex,rfl⟩
def lT{t:SetTable}(h:tH t.mask)(h1:n*5<t.mask*3)(h2:(n+1)*5>=t.mask*3)(h3:n+1<=300):∃m,SetTable.sizeAbove (SetTable.grown (n+1))=m+1/\tH m/\(n+1)*5<m*3:=by
 rcases h with e|e|e|e<;>rw[e]at h1 h2
 .have:n=4:=by lia
  subst this;exact⟨31,by decide,.inr (.inl rfl),by lia⟩
 .have:n=18:=by lia
  subst this;exact⟨127,by decide,.inr (.inr (.inl rfl)),by lia⟩
 .have:n=76:=by lia
  subst this;exact⟨511,by decide,.inr (.inr (.inr rfl)),by lia⟩
 .lia
def zg{a:Addr}{o:Obj}{es:Array (Int×SD)}{Q:Unit->Sz->Prop}(ho:s.heap.get? a=some o)(hex:o.ExactSet)(hd:o.data=.set es ep t)(hf:t.fits es.size=true)(hm:tH m)(hn:SetTable.sizeAbove n=m+1)(hl:es.size*5<m*3)(hpl:t.plain=true)(hle:t.led=!byT w)
 (h:∀es' t',Laid m es es' t'->SetAt w (s.heap.update a (Obj.putSet es' t')) a es'->Q () {s with heap:=s.heap.update a (Obj.putSet es' t')}):wpAny (model prog w) A (setRelay a n) Q E s:=by
 have hmb:m<=511:=by rcases hm with rfl|rfl|rfl|rfl<;>lia
 unfold setRelay;refine KE (PJ ho hd hf ?_);dsimp only;rw[Ox (by rw[hn,Pg];lia)];obtain⟨t',order,e,L,hlp,hp⟩:=B_ hm es (by lia) t.finger (t.movedTo m) t.led t.plain;have er:t.relaid (es.map (·.1)) n=some (t',order):=by unfold SetTable.relaid;rw[hn];exact e
 rw[er];show wpAny _ _ (do
  let r <- (do
   if(order.filterMap (es[·]?)).size != es.size then unsupported "internal:set-table-lost-an-element"
   pure (order.filterMap (es[·]?),t'):Sem (Array (Int×SD)×SetTable))
  storeSet a r.1 r.2) _ _ _
 refine KE ?_;rw[Ox (by rw[L.size];simp)];refine Os ?_;refine RK ho hd ?_ (by show(order.filterMap (es[·]?)).size<=_;rw[L.size,Pg];lia);obtain⟨o',g1,g2,g3⟩:=g8 (order.filterMap (es[·]?)) t' ho hex hd;refine h _ t' L ⟨o',_,t',g1,g2,g3,L.tE,?_,by rw[hp];exact hpl,by rw[hlp];exact hle⟩;unfold io;rw[L.tE.len,L.size,L.mask];exact hl
end
section
def zh(T:m6 t es)(hs:t.place.size<=t.mask)(h:Int):∃N,N<100000/\(it t.mask N (st t.mask h)).j∉t.place.toList:=by
 obtain⟨j,hj,hn⟩:=lP T.tb hs;obtain⟨N,h1,h2⟩:=Eg T.tb.d4 hj (Va.st t.mask h);refine⟨N,?_,by rw[h2];exact hn⟩;have:t.mask<=511:=by rcases T.tb.d4 with e|e|e|e<;>rw[e]<;>lia
 unfold SetTable.turns at h1;lia
def FI(hu:A.units<cLine)(hk:(tK prog w).is s.heap (iK ns) b)(hS:SetAt w s.heap a es)(el:Nj prog w s.heap es)(hz:es.size+1<=300)
 (h1:∀tk,s.toks<=tk->(∃e∈es.toList,∃c,e.2=.ref c/\(tK prog w).is s.heap (iK ns) c)->Q false {s with toks:=tk})
 (h2:∀tk h' es',s.toks<=tk->(∀e∈es.toList,∀c,e.2=.ref c->¬(tK prog w).is s.heap (iK ns) c)->Heap.SameBut a s.heap h'->SetAt w h' a es'->ko es es' ((tK prog w).hash (iK ns),.ref b)->Q true {s with heap:=h',toks:=tk}) :
 wpAny (model prog w) A (setAdd a (.ref b)) Q E s:=by
 obtain⟨o,ep,t,ho,hex,hd,T,sp,hpl,hle⟩:=hS;have hf:=m6.fits T (fC sp);unfold setAdd;refine Pd ?_;refine KE ((tK prog w).pyHash hu hk ?_);have htk:s.toks<=s.toks+(tK prog w).draws (iK ns):=Rh _ _;generalize s.toks+(tK prog w).draws (iK ns)=tk at htk;unfold setAddHashed setAddHashedIn;refine Pd ?_;refine KE (PJ (s:={s with toks:=tk}) ho hd hf ?_);dsimp only;have hbs:byScan (.ref b) es=false:=by simp[byScan,Value.scannable]
 rw[hbs];simp only[OD,Pk];unfold setSearch;obtain⟨N,n1,n2⟩:=zh T (fC sp) ((tK prog w).hash (iK ns));refine KE (og (s:={s with toks:=tk}) ho hd T (fC sp) hu hk el (λhin=>?_) (λhout j hj hjm hr=>?_) 100000 0 none rfl (λk hk'=>by lia) ⟨N,OR _,by lia,n2⟩)
 .exact Os (h1 tk htk hin)
 .dsimp only;refine KE (PJ (s:={s with toks:=tk}) ho hd hf ?_);dsimp only;obtain⟨T',em,ez⟩:=ul T hj hjm (v:=Value.ref b) hr;have hpl':(t.put j).1.plain=true:=by rw[i4 T.tb];exact hpl
  have hle':(t.put j).1.led=!byT w:=by rw[i4 T.tb];exact hle
  rw[hpl'];simp only[Qy];refine KE (FG (s:={s with toks:=tk}) hk ?_);simp only[Qy];have hp:(t.put j).2<=es.size:=by rw[kX,<- T.len];exact(cj j T.tb.tB).1
  have g:=oh es (t.put j).2 ((tK prog w).hash (iK ns),Value.ref b) hp;refine KE (RK (s:={s with toks:=tk}) ho hd ?_ (by rw[g.size,Pg];lia));obtain⟨o1,q1,q2,q3⟩:=g8 (SetTable.insertAt es (t.put j).2 ((tK prog w).hash (iK ns),Value.ref b)) (t.put j).1 ho hex hd;have sb:=O9 s.heap a (Obj.putSet (SetTable.insertAt es (t.put j).2 ((tK prog w).hash (iK ns),Value.ref b)) (t.put j).1);have fill:(t.put j).1.fill=es.size+1:=by unfold SetTable.fill;rw[T'.tb.Iw,ez,T.len];rfl
  by_cases hfull:(t.put j).1.tooFull=true
  .rw[hfull];simp only[Bool.not_false,R8,Qy];unfold SetTable.tooFull at hfull;rw[fill,em]at hfull;have hfull:(es.size+1)*5>=t.mask*3:=by simpa using hfull
   have sp':es.size*5<t.mask*3:=by rw[<- T.len];exact sp
   obtain⟨m,m1,m2,m3⟩:=lT T.tb.d4 sp' hfull hz;have le':(t.put j).1.place.size<=(t.put j).1.mask:=by
    rw[ez,em];unfold io at sp;have:t.mask>=7:=by rcases T.tb.d4 with e|e|e|e<;>rw[e]<;>lia
    lia
   refine KE (zg (s:={s with heap:=s.heap.update a (Obj.putSet (SetTable.insertAt es (t.put j).2 ((tK prog w).hash (iK ns),Value.ref b)) (t.put j).1),toks:=tk}) q1 q2 q3 (m6.fits T' le') m2 m1 (by rw[g.size];exact m3) hpl' hle' λes' t' L sa=>?_);exact Os (h2 tk _ es' htk hout (sb.trans (O9 _ a _)) sa (g.laid L))
  .have hfull:(t.put j).1.tooFull=false:=by simpa using hfull
   rw[hfull];simp only[RP,OD,Pk];refine Os (h2 tk _ _ htk hout sb ⟨o1,_,_,q1,q2,q3,T',?_,hpl',hle'⟩ g);unfold SetTable.tooFull at hfull;unfold io;rw[fill]at hfull;rw[ez,T.len];simpa using hfull
end
noncomputable abbrev ip:=List Int×Addr
def zi(h:iK a=iK b):a=b:=by
 induction a generalizing b with
 |nil=>cases b with
  |nil=>rfl
  |cons _ _=>cases h
 |cons x a ih=>cases b with
  |nil=>cases h
  |cons y b=>grind
section
variable{κ μ:Type}{x:κ×μ}
structure gq(ent:κ×μ->Int×SD) (es:Array (Int×SD)) (xs:List (κ×μ)):Prop where
 el:∀e∈es.toList,∃x∈xs,e=ent x
 sz:es.size<=xs.length
 pw:es.toList.Pairwise λe e'=>∀x x',e=ent x->e'=ent x'->x∈xs->x'∈xs->x.1≠x'.1
 all:∀x∈xs,∃y∈xs,y.1=x.1/\ent y∈es.toList
def Cd(ent:κ×μ->Int×SD)(xs:List (κ×μ)):Prop:=∀x∈xs,∀y∈xs,ent x=ent y->x.1=y.1
def gq.wide(v:gq ent es xs)(un:Cd ent (xs++[x])):es.toList.Pairwise λe e'=>∀y y',e=ent y->e'=ent y'->y∈xs++[x]->y'∈xs++[x]->y.1≠y'.1:=by refine QJ (λ{a b} ha hb hab z z' e1 e2 m1 m2=>?_) v.pw;obtain⟨y,y1,rfl⟩:=v.el a ha;obtain⟨y',y1',rfl⟩:=v.el b hb;rw[un z m1 y (OX _ y1) e1.symm,un z' m2 y' (OX _ y1') e2.symm];exact hab y y' rfl rfl y1 y1'
def gq.seen(v:gq ent es xs)(hin:∃y∈xs,y.1=x.1)(un:Cd ent (xs++[x])):gq ent es (xs++[x]):=by
 refine⟨λe he=>?_,?_,v.wide un,λy hy=>?_⟩
 .obtain⟨z,h1,h2⟩:=v.el e he;exact⟨z,OX _ h1,h2⟩
 .have:=v.sz;simp;lia
 .obtain⟨y',h1,h2⟩ : ∃z∈xs,z.1=y.1:=by
   rcases OF.mp hy with hy|hy
   .exact⟨y,hy,rfl⟩
   .rw[OM]at hy;subst hy;exact hin
  obtain⟨z,g1,g2,g3⟩:=v.all y' h1;exact⟨z,OX _ g1,g2.trans h2,g3⟩
def gq.new(v:gq ent es xs)(hin:¬∃y∈xs,y.1=x.1)(un:Cd ent (xs++[x]))(g:ko es es' (ent x)):gq ent es' (xs++[x]):=by
 have hx:x∈xs++[x]:=ON _ (OM.mpr rfl);refine⟨λe he=>?_,?_,?_,λy hy=>?_⟩
 .rcases (g.mem e).mp he with rfl|he
  .exact⟨x,hx,rfl⟩
  .obtain⟨z,h1,h2⟩:=v.el e he;exact⟨z,OX _ h1,h2⟩
 .have:=v.sz;rw[g.size];simp;lia
 .refine g.pw _ (λa b hab z z' e1 e2 m1 m2 h=>hab z' z e2 e1 m2 m1 h.symm) (v.wide un) λe he z z' e1 e2 m1 m2 h=>?_;obtain⟨y,y1,rfl⟩:=v.el e he;exact hin ⟨y,y1,(un z m1 y (OX _ y1) e1.symm).symm.trans (h.trans (un z' m2 x hx e2.symm))⟩
 .rcases OF.mp hy with hy|hy
  .obtain⟨z,h1,h2,h3⟩:=v.all y hy;exact⟨z,OX _ h1,h2,(g.mem _).mpr (.inr h3)⟩
  .rw[OM]at hy;subst hy;exact⟨y,hx,rfl,(g.mem _).mpr (.inl rfl)⟩
end
section
variable{κ μ:Type}
def vy(prog:SC)(w:World)(A:SE)(hb:Heap)(S:Addr)(ent:κ×μ->Int×SD)(its:List (κ×μ)):Prop:=∀(x:κ×μ)(xs:List (κ×μ))(s:Sz)(es:Array (Int×SD))(Q:Bool->Sz->Prop)(E:SD->Sz->Prop),x∈its->(∀y∈xs,y∈its)->(∀b o,hb.get? b=some o->s.heap.get? b=some o)->SetAt w s.heap S es->gq ent es xs->es.size+1<=300->
 (∀tk,s.toks<=tk->(∃y∈xs,y.1=x.1)->Q false {s with toks:=tk})->(∀tk h' es',s.toks<=tk->(¬∃y∈xs,y.1=x.1)->Heap.SameBut S s.heap h'->SetAt w h' S es'->ko es es' (ent x)->Q true {s with heap:=h',toks:=tk})->wpAny (model prog w) A (setAdd S (ent x).2) Q E s
variable{St:Nat->Sz->Prop}
def jH(W:WalksS prog w A.in1 I fp wr G n P St)(S:Addr)(hSf:S∉fp)(hb:Heap)(hbS:hb.get? S=none)(hbw:∀b∈wr,hb.get? b=none)(its:List (κ×μ))(hn:its.length=n)
 (hval:∀i v,P i v->∃x,its[i]?=some x/\v=(ent x).2) (un:Cd ent its) (add:vy prog w A.in1 hb S ent its) (hz:n<=300) :
 ∀(k i:Nat)(s:Sz)(es:Array (Int×SD)),n-i=k->i<=n->St i s->(∀b o,hb.get? b=some o->s.heap.get? b=some o)->SetAt w s.heap S es->gq ent es (its.take i)->
  (∀s' es',Moved (S::wr) G s s'->SetAt w s'.heap S es'->gq ent es' its->R (.ok (.ret .none)) s')->
  codeAny (model prog w) A (.builtin "set.update.loop" ⟨[.ref S,.ref I],[]⟩) R s:=by
 have hSw:S∉wr:=λh=>hSf (W.sub _ h);have hsub:∀b∈wr,b∈S::wr:=λb hb=>OW _ hb;intro k;induction k with
 |zero=>
  intro i s es hk hi hst K hS v hR;have hin:i=n:=by lia
  subst hin;refine PN Q_ ?_;rw[PX PY _];show wpAny _ A.in1 (pyNext (.ref I) >>= _) _ _ s;refine KE (W.done s _ _ hst λs' hm=>?_);rw[RE (by lia)]at v;have hR':=hR s' es (hm.mono hsub) (hS.keep λo e=>hm.heap S o hSw e) v;show wpAny _ A.in1 (ret Value.none) _ _ s';exact Os hR'
 |succ k ih=>
  intro i s es hk hi hst K hS v hR;have hlt:i<n:=by lia
  refine PN Q_ ?_;rw[PX PY _];show wpAny _ A.in1 (pyNext (.ref I) >>= _) _ _ s;refine KE (W.item i s _ _ hlt hst λu s' hP hst' hm=>?_);obtain⟨x,hx,rfl⟩:=hval i u hP;have htk:its.take (i+1)=its.take i++[x]:=by rw[Pj,hx];rfl
  have un':Cd ent (its.take i++[x]):=by rw[<- htk];exact λy hy z hz=>un y (P9 hy) z (P9 hz)
  have K':∀b o,hb.get? b=some o->s'.heap.get? b=some o:=λb o e=>hm.heap b o (λz=>by rw[hbw b z]at e;cases e) (K b o e);have hS':=hS.keep λo e=>hm.heap S o hSw e;have hes:es.size+1<=300:=by have:=v.sz;rw[PQ]at this;lia
  show wpAny _ A.in1 (holding [(ent x).2] (setAdd S (ent x).2) >>= _) _ _ s';refine KE (Pd (add x (its.take i) s' es _ _ (Pn hx) (λy hy=>P9 hy) K' hS' v hes (λtk htk' hin=>?_) λtk h' es' htk' hnin hsb hSn g=>?_))
  .refine Os ⟨QP PY _,ih (i+1) _ es (by lia) hlt (W.frame _ s' _ _ hst' htk' λb hb o e=>e) K' hS' (by rw[htk];exact v.seen hin un') λs'' es'' hm'' hS'' v''=>?_⟩;exact hR s'' es'' (Moved.trans W.gtrans ((hm.mono hsub).then_heap htk' λb o hb e=>e) hm'') hS'' v''
  .have K2:∀b o,hb.get? b=some o->h'.get? b=some o:=λb o e=>(hsb.2 b (λz=>by rw[z,hbS]at e;cases e)).trans (K' b o e);refine Os ⟨QP PY _,ih (i+1) _ es' (by lia) hlt (W.frame _ s' _ _ hst' htk' λb hb o e=>?_) K2 hSn (by rw[htk];exact v.new hnin un' g) λs'' es'' hm'' hS'' v''=>?_⟩
   .rw[hsb.2 b (λh:b=S=>hSf (h▸hb))];exact e
   .refine hR s'' es'' (Moved.trans W.gtrans ((hm.mono hsub).then_heap htk' λb o hb e=>?_) hm'') hS'' v'';rw[hsb.2 b (λh:b=S=>hb (h▸OZ))];exact e
abbrev eT(prog:SC)(w:World)(x:ip):Int×SD:=((tK prog w).hash (iK x.1),Value.ref x.2)
def IW(his:∀x∈its,(tK prog w).is hb (iK x.1) x.2):Cd (eT prog w) its:=λx hx y hy e=>zi ((tK prog w).inj (his x hx) (by
 have e:x.2=y.2:=by injection e with _ e;injection e
 rw[e];exact his y hy))
def Ce(hu:A.units<cLine)(his:∀x∈its,(tK prog w).is hb (iK x.1) x.2):vy prog w A hb S (eT prog w) its:=λx xs s es Q E hx hs K hS v hz h1 h2=>by
 have hx':∀y∈xs,(tK prog w).is s.heap (iK y.1) y.2:=λy hy=>iX (his y (hs y hy)) K;refine FI hu (iX (his x hx) K) hS (λe he=>?_) hz (λtk t hin=>h1 tk t ?_) λtk h' es' t hout sb sa g=>h2 tk h' es' t (λhin=>?_) sb sa g
 .obtain⟨y,hy,rfl⟩:=v.el e he;exact⟨_,_,rfl,hx' y hy⟩
 .obtain⟨e,he,c,hc,hh⟩:=hin;obtain⟨y,y1,rfl⟩:=v.el e he;injection hc with hc;subst hc;exact⟨y,y1,zi ((tK prog w).inj (hx' y y1) hh)⟩
 .obtain⟨y,y1,y2⟩:=hin;obtain⟨z,z1,z2,z3⟩:=v.all y y1;exact hout _ z3 z.2 rfl (by rw[<- y2,<- z2];exact hx' z z1)
end
noncomputable abbrev setNew(led:Bool):Obj:={ cls:=.type "set",dict:=none,data:=.set #[] 0 (.fresh 0 0 led) }
def w8(e:h.get? a=some (setNew (!byT w))):SetAt w h a #[]:=by refine⟨_,0,_,e,⟨rfl,rfl,rfl⟩,rfl,⟨⟨.inl rfl,rfl,List.Pairwise.nil,λj hj=>nomatch hj⟩,rfl,λq hq=>nomatch hq⟩,?_,rfl,rfl⟩;show 0*5<7*3;decide
section
def nw(a:SD)(h:Q₁ (.ref s.heap.objs.size) {s with heap:=s.heap.push (setNew (!byT w))}) :
 codeAny (model prog w) A (.call (.builtin "set.__new__") ⟨[.type "set",a],[]⟩) (wants Q₁ E) s:=by
 refine codeAny_of_tree (show wpAny _ A.in1 (do checkBuiltinCall "set.__new__" ⟨[.type "set",a],[]⟩;again (.builtin "set.__new__" ⟨[.type "set",a],[]⟩)) _ _ s from ?_);refine KE (wpAny_of_eq (PySem.F.newCall_set_1 a) (Os ⟨QP PySem.F.plain_set_new _,PN PySem.F.entry_set_new ?_⟩));rw[PX PySem.F.plain_set_new _];unfold Builtin.«set.__new__» Builtin.Frozenset.newClass;have hsub:=sub_set_self;obtain⟨hp,g,d,tk,os⟩:=s;dsimp only;wp_walk;refine wpAny_askSetting (Os ?_);dsimp only;simp only[newObj];refine KE (wpAny_alloc (Os ?_));exact Os h
def oj{κ μ:Type}{ent:κ×μ->Int×SD}{l:Addr}{items:Array SD}{nl:Nat}{its:List (κ×μ)} {Q:SD->Sz->Prop} (hh:A.handled=none) (hl:s.heap.get? l=some { cls:=.type "list",data:=.seq items nl }) (hn:its.length=items.size) (hz:items.size<=300)
 (hval:∀(i:Nat)(v:SD),items[i]?=some v->∃x,its[i]?=some x/\v=(ent x).2) (un:Cd ent its) (add:vy prog w A.in1.in1.in1 s.heap s.heap.objs.size ent its)
 (h:∀(h':Heap)(tk:Nat)(es:Array (Int×SD)),SetAt w h' s.heap.objs.size es->gq ent es its->(∀b o,b<s.heap.objs.size->s.heap.get? b=some o->h'.get? b=some o)->Q (.ref s.heap.objs.size) {s with heap:=h',toks:=tk}) :
 wpAny (model prog w) A (call (.type "set") [.ref l]) Q E s:=by
 obtain⟨c,tl,hmro⟩:=PySem.F.called_set.mro;have hmade:=PySem.F.called_set.made;have hsub:=PySem.F.called_set.sub;refine wpAny_call (codeAny_of_tree ?_);show wpAny _ _ (callAny (.type "set") _) _ _ _;refine Os ⟨Code.quiet_builtin _ (by decide +kernel),PN PySem.F.entry_type_call ?_⟩;rw[Around.under_plain (weight_type_call_type "set" [.ref l] []) rfl];have h1:=PySem.F.called_set.notType;have h2:=PySem.F.called_set.canCreate;have hct:=PySem.F.typeCall_set_1 (.ref l)
 repeat (any_goals (first|assumption|wp_step))
 refine RT (nw (.ref l) (E:=E) (Q₁:=λobj s₁=>obj=.ref s.heap.objs.size/\s₁={s with heap:=s.heap.push (setNew (!byT w))}) ⟨rfl,rfl⟩) λr s₁ hr=>?_;rcases r with e|fl
 .exact hr
 cases fl with
 |ret obj=>
  obtain⟨rfl,rfl⟩:=hr;have hS:(s.heap.push (setNew (!byT w))).get? s.heap.objs.size=some (setNew (!byT w)):=Oy _ rfl;have hT:Shared.TypeIs {s with heap:=s.heap.push (setNew (!byT w))} (.ref s.heap.objs.size) "set":=⟨_,hS,rfl⟩;have hli:=PySem.F.called_set.init.lookup;have hbi:=PySem.F.called_set.init.bind (.ref s.heap.objs.size)
  repeat (any_goals (first|assumption|wp_step))
  refine RT (codeAny_call_builtin (R:=wants (λr s₂=>r=.none/\∃h' tk es,s₂={s with heap:=h',toks:=tk}/\SetAt w h' s.heap.objs.size es/\gq ent es its/\
   (∀b o,b<s.heap.objs.size->s.heap.get? b=some o->h'.get? b=some o)) E) PySem.F.called_set.init.plain PySem.F.entry_set_init (check_set_init_1 hT ?_)) λr₂ s₂ hr₂=>?_
  .have hol':(s.heap.push (setNew (!byT w))).get? l=some { cls:=.type "list",data:=.seq items nl }:=Ot _ hl;have hsls:=PySem.F.sub_list_set;have hslf:=PySem.F.sub_list_frozenset;have hne:(Value.type "list"==Value.type "dict")=false:=by decide
   have hl1:(s.heap.push (setNew (!byT w))).IsList l items:=⟨_,hol',rfl,nl,rfl⟩;unfold Builtin.«set.__init__» noKeywords Builtin.Frozenset.updateFrom;generalize hPI:pyIter=PI
   wp_walk
   subst hPI;refine Qr hl1 (KE (wpAny_runValue ?_));have hlS:l<s.heap.objs.size:=OA hl;have hh3:A.in1.in1.in1.handled=none:=by simp[hh]
   have hneI:l≠(s.heap.push (setNew (!byT w))).objs.size:=by rw[Q7];exact OJ (RN hlS)
   have hno:∀b,s.heap.objs.size<=b->s.heap.get? b=none:=λb hb=>by
    cases q:s.heap.get? b with
    |none=>rfl
    |some o=>exact absurd (OA q) (Sx.mpr hb)
   refine jH ((Walks.list hh3 _ l hneI items).toS) s.heap.objs.size ?hSf s.heap (hno _ (Ou _)) ?hbw its hn hval un add hz (items.size-0) 0 _ #[] rfl (OR _) ⟨⟨_,Oy _ rfl,rfl,rfl⟩,(hl1.push _)⟩
    (λb o e=>Ot _ (Ot _ e)) (w8 (Ot _ hS)) ⟨λe he=>(nomatch he),OR _,List.Pairwise.nil,λx hx=>(nomatch hx)⟩ ?hR
   case hSf=>rw[Q7];simp only[OE,PF,RQ,not_or];exact⟨OJ (Rf _),Qz hlS⟩
   case hbw=>intro b hb;simp only[OE,PF,RQ]at hb;subst hb;exact hno _ (by rw[Q7];lia)
   case hR=>intro s' es hm hS' v;obtain⟨h',g',d',tk',os'⟩:=s';have eg:g'=s.gens:=hm.gens;have ed:d'=s.drawn:=hm.drawn;have eo:os'=s.os:=hm.os;subst eg ed eo;refine Os (Os ⟨rfl,h',tk',es,rfl,hS',v,λb o hb e=>hm.heap b o ?_ (Ot _ (Ot _ e))⟩);simp only[OE,PF,RQ,not_or];exact⟨OJ hb,by rw[Q7];exact OJ (RN hb)⟩
  .rcases r₂ with e|fl₂
   .exact hr₂
   cases fl₂ with
   |ret r=>
    obtain⟨rfl,h',tk,es,rfl,hS',v,hk'⟩:=hr₂
    repeat (any_goals (first|assumption|wp_step))
    exact h _ _ _ hS' v hk'
   |_=>exact hr₂.elim
 |_=>exact hr.elim
end
theorem lU{α:Type}:∀(l:List α)(i:Nat)(h:i<l.length),(l[i]::l.eraseIdx i).Perm l
 |[],i,h=>by simp at h
 |x::l,0,h=>List.Perm.refl _
 |x::l,i+1,h=>by have ih:=lU l i (by simpa using h);have e:(x::l).eraseIdx (i+1)=x::l.eraseIdx i:=rfl;rw[e,List.getElem_cons_succ];exact(List.Perm.swap _ _ _).trans (List.Perm.cons x ih)
theorem vz{α:Type}(next:Nat->Nat):∀(fuel k:Nat)(left:List α)(out:Array α),left.length=fuel->(pickOrder.go next fuel k left out).toList.Perm (out.toList++left)
 |0,k,left,out,h=>by have:left=[]:=Rw.mp h;subst this;unfold pickOrder.go;simp
 |f+1,k,left,out,h=>by have hi:next k%left.length<left.length:=Nat.mod_lt _ (by lia);unfold pickOrder.go;rw[OL hi];dsimp only;have ih:=vz next f (k+1) (left.eraseIdx (next k%left.length)) (out.push left[next k%left.length]) (by rw[List.length_eraseIdx,Ow hi];lia);refine ih.trans ?_;rw[Array.toList_push,Qs];exact List.Perm.append_left _ (lU left _ hi)
def w_{α:Type}(next:Nat->Nat)(xs:Array α):(pickOrder next xs).toList.Perm xs.toList:=by have:=vz next xs.size 0 xs.toList #[] (by simp);unfold pickOrder;simpa using this
def gz(w:World)(S:Addr)(ep:Nat)(es:Array (Int×SD)):Array (Int×SD):=if byT w then pickOrder (w.params.setOrder S ep) es else es
def rB(w:World)(S:Addr)(ep:Nat)(es:Array (Int×SD)):(gz w S ep es).toList.Perm es.toList:=by
 unfold gz;split
 .exact w_ _ _
 .exact List.Perm.refl _
def i6(w:World)(S:Addr)(ep:Nat)(es:Array (Int×SD)):(gz w S ep es).size=es.size:=by have:=(rB w S ep es).length_eq;simpa using this
def ck(w:World)(t:SetTable):Nat->Nat
 |0=>0
 |i+1=>if byT w then 0 else t.place.getD i 0+1
def ur(T:Tb t):∀(i:Nat),i<=t.place.size->SetTable.below t.place (match i with|0=>0|i+1=>t.place.getD i 0+1)=i
 |0,_=>by
  obtain⟨a,b,c⟩:=cj 0 T.tB;dsimp only;rcases Nat.eq_zero_or_pos (SetTable.below t.place 0)with h|h
  .exact h
  .have:=b 0 (by lia) h;lia
 |i+1,hi=>by
  dsimp only;have e:t.place.getD i 0=t.place[i]:=by simp[Array.getD,show i<t.place.size by lia]
  rw[e];obtain⟨a,b,c⟩:=cj (t.place[i]+1) T.tB;rcases RJ (SetTable.below t.place (t.place[i]+1)) (i+1)with q|q|q
  .have h1:=c i (by lia) (by lia);lia
  .exact q
  .have h1:=b (i+1) (by lia) q;have h2:=OQ.mp T.tB i (i+1) (by simp;lia) (by simp;lia) (by lia);simp at h2;lia
def slot_setiter_next:Slot "set_iterator" "__next__" "set_iterator.__next__":=.of (owner:="set_iterator") (n:="__next__") (by rw[typeLookup_type,builtinLookup_eq_fast];kernel_rfl) (by decide +kernel) (by decide +kernel) (by decide +kernel) (by first|exact .inl (by decide +kernel)|exact .inr (by decide +kernel)) (by rw[isSubtype_type];kernel_rfl)
def dL:entryFor table "set_iterator.__next__"=some Builtin.«set_iterator.__next__»:=entryFor_of_fast (by kernel_rfl)
def d8(a:SD):argsOk "set_iterator.__next__" ⟨[a],[]⟩:=by(unfold argsOk;kernel_rfl)
def nz:entryFor table "set.__iter__"=some Builtin.«frozenset.__iter__»:=entryFor_alias (id':="frozenset.__iter__") (by kernel_rfl) rfl (by decide +kernel) (by kernel_rfl)
def SetIt(h:Heap)(it S:Addr)(slot i n ep:Nat):Prop:=∃o,h.get? it=some o/\o.cls=.type "set_iterator"/\o.data=.fields #[.int slot 0,.int i 0,.ref S,.int n 0,.int ep 0]
def SetIt.typeIs{s:Sz}{it S:Addr}{slot i n ep:Nat}(x:SetIt s.heap it S slot i n ep):s.TypeIs (.ref it) "set_iterator":=let ⟨o,ho,hc,_⟩:=x;⟨o,ho,hc⟩
def jI(h:Heap)(S:Addr)(es:Array (Int×SD))(ep:Nat)(t:SetTable):Prop:=∃o,h.get? S=some o/\o.ExactSet/\o.data=.set es ep t
section
def ut(h:Q (byT w) s):wpAny (model prog w) A setsByText Q E s:=by unfold setsByText;exact KE (wpAny_askSetting (Os h))
def lV(r:jI s.heap S es ep t)(T:m6 t es)(hs:t.place.size<=t.mask)(hpl:t.plain=true)(hle:t.led=!byT w)(hi:i<=es.size)
 (h:Q (((gz w S ep es)[i]?).map λe=>(e.2,ck w t (i+1))) s):wpAny (model prog w) A (setNext S (ck w t i) i ep) Q E s:=by
 obtain⟨o,ho,hex,hd⟩:=r;have hf:=m6.fits T hs;unfold setNext;refine KE (PJ ho hd hf ?_);dsimp only;refine KE (ut ?_);cases hb:byT w with
 |true=>
  simp only[Qy];rw[Ox (by simp)];refine KE ?_;unfold setWalk;refine KE (PJ ho hd hf ?_);dsimp only;refine KE (ut ?_);rw[hb];simp only[Qy];refine KE (wpAny_askSetting (Os ?_));have e1:ck w t (i+1)=0:=by unfold ck;rw[hb];rfl
  have e2:ck w t i=0:=by cases i with|zero=>rfl|succ i=>(unfold ck;rw[hb];rfl)
  rw[e2];rw[e1]at h;unfold gz at h;rw[hb]at h;exact Os h
 |false=>
  simp only[OD,Pk];rw[hb]at hle;have hle:t.led=true:=hle;show wpAny _ _ (if(!t.plain&&decide (es.size>1))=true then _ else _) _ _ _;rw[hpl];simp only[PK,Q6,OD,Pk];show wpAny _ _ ((if(!t.led&&!es.isEmpty)=true then unsupported "set:maker-not-led" else pure ()) >>= λ_=>_) _ _ _;rw[hle];simp only[PK,Q6,OD,Pk];refine KE (Os ?_);have e1:SetTable.below t.place (ck w t i)=i:=by
   have:=ur T.tb i (by rw[T.len];exact hi);cases i with
   |zero=>exact this
   |succ i=>unfold ck;rw[hb];exact this
  have eo:gz w S ep es=es:=by unfold gz;rw[hb];rfl
  rw[eo]at h;rw[e1];by_cases hlt:i<es.size
  .have g1:es[i]?=some es[i]:=by simp[hlt]
   have hp:i<t.place.size:=by rw[T.len];exact hlt
   have g2:t.place[i]?=some t.place[i]:=by simp[hp]
   rw[g1]at h;rw[g1,g2];have e2:ck w t (i+1)=t.place[i]+1:=by unfold ck;rw[hb];simp[Array.getD,hp]
   rw[e2]at h;exact Os h
  .have g1:es[i]?=none:=by simp;lia
   rw[g1]at h;rw[g1];exact Os h
end
def d9:Slot "set_iterator" "__iter__" "set_iterator.__iter__":=.of (owner:="set_iterator") (n:="__iter__") (by rw[typeLookup_type,builtinLookup_eq_fast];kernel_rfl) (by decide +kernel) (by decide +kernel) (by decide +kernel) (by first|exact .inl (by decide +kernel)|exact .inr (by decide +kernel)) (by rw[isSubtype_type];kernel_rfl)
def iG:entryFor table "set_iterator.__iter__"=some Builtin.«dict_keyiterator.__iter__»:=entryFor_alias (id':="dict_keyiterator.__iter__") (by kernel_rfl) rfl (by decide +kernel) (by kernel_rfl)
def i8(a:SD):argsOk "set_iterator.__iter__" ⟨[a],[]⟩:=by(unfold argsOk;kernel_rfl)
section
def ol{it S:Addr}{slot i n ep:Nat}{P:PySem.Fin->Sz->Prop}{F:SD->Sz->Prop}(ho:s.heap.get? it=some o)(hd:o.data=.fields #[.int slot 0,.int i 0,.ref S,.int n 0,.int ep 0])
 (r:jI s.heap S es ep t) (hf:t.fits es.size=true) (hn:n=es.size)
 (h:wpAny (model prog w) A (setNext S slot i ep) (λm s'=>match m with
   |some (x,next)=>wpAny (model prog w) A (do setField (.ref it) 0 (rawInt next);setField (.ref it) 1 (rawInt (i+1));ret x) P F s'
   |none=>wpAny (model prog w) A (do setField (.ref it) 2 .none;raiseNew (<- newExc (.type "StopIteration") [])) P F s') F s) :
 wpAny (model prog w) A (Builtin.«set_iterator.__next__» ⟨[.ref it],[]⟩) P F s:=by
 obtain⟨os,hos,hex,hds⟩:=r;unfold Builtin.«set_iterator.__next__» slotArgs;simp only[List.isEmpty_nil,PK,OD,Pk,QI,RO];refine KE (Os ?_);refine KE (Sk ho hd ?_);dsimp only;refine KE ?_;unfold setEntries;refine KE (PJ hos hds hf (Os ?_));dsimp only;rw[Ox (by rw[hn];simp)];simp only[QG];refine KE (Qc h (λm s' hm=>?_) λ_ _ e=>e);cases m with
 |none=>exact hm
 |some p=>obtain⟨x,next⟩:=p;exact hm
def nA{it S:Addr}(hne:S≠it)(hh:A.handled=none){es:Array (Int×SD)}{ep:Nat}{t:SetTable}(T:m6 t es)(hs:t.place.size<=t.mask)(hpl:t.plain=true)(hle:t.led=!byT w) :
 Walks prog w A it [it,S] [it] es.size (λi v=>((gz w S ep es)[i]?).map (·.2)=some v) (λi h=>SetIt h it S (ck w t i) i es.size ep/\jI h S es ep t) where
 sub:=λb hb=>by simp at hb;simp[hb]
 frame:=λi h h' st hk=>by obtain⟨⟨o,h1,r1⟩,⟨o2,h2,r2⟩⟩:=st;exact⟨⟨o,hk it (by simp) o h1,r1⟩,⟨o2,hk S (by simp) o2 h2,r2⟩⟩
 item:=λi s Q E hi st hQ=>by
  obtain⟨x1,x2⟩:=st;have hT:=x1.typeIs;obtain⟨o,ho,hc,hd⟩:=x1;have x2':=x2;obtain⟨o2,ho2,hex2,hd2⟩:=x2;unfold pyNext;refine KE (R9 (PB (name:=Str.ofString "__next__") hT slot_setiter_next (O_ slot_setiter_next hT dL ?_ (d8 _))));refine ol ho hd x2' (m6.fits T hs) rfl (lV x2' T hs hpl hle (by lia) ?_);have hio:i<(gz w S ep es).size:=by rw[i6];exact hi
  have e1:(gz w S ep es)[i]?=some (gz w S ep es)[i]:=by simp[hio]
  rw[e1];show wpAny _ _ _ _ _ _;refine KE (Ra ho hd (by simp) ?_);have d1:=Rx hd (·.setIfInBounds 0 (rawInt ((ck w t (i+1):Nat):Int)));have ho1:=PP (Obj.mapFields (·.setIfInBounds 0 (rawInt ((ck w t (i+1):Nat):Int)))) ho (RY d1);refine KE (Ra (s:={s with heap:=_}) ho1 d1 (by simp) ?_);have d2:=Rx d1 (·.setIfInBounds 1 (rawInt ((i:Int)+1)));have ho3:=PP (Obj.mapFields (·.setIfInBounds 1 (rawInt ((i:Int)+1)))) ho1 (RY d2);have sb:=(O9 s.heap it (Obj.mapFields (·.setIfInBounds 0 (rawInt ((ck w t (i+1):Nat):Int))))).trans (O9 _ it (Obj.mapFields (·.setIfInBounds 1 (rawInt ((i:Int)+1)))));refine Os ⟨_,rfl,Os ?_⟩;refine hQ _ _ s.toks (by rw[e1];rfl) ⟨⟨_,ho3,?_,?_⟩,o2,(sb.2 S hne).trans ho2,hex2,hd2⟩ (λb o hb e=>(sb.2 b (λz=>hb (by simp[z]))).trans e)
  .exact(Obj.cls_mapFields ..).trans ((Obj.cls_mapFields ..).trans hc)
  .rw[d2];simp[rawInt]
 done:=λs Q E st hQ=>by
  obtain⟨x1,x2⟩:=st;have hT:=x1.typeIs;obtain⟨o,ho,hc,hd⟩:=x1;unfold pyNext;refine KE (R9 (PB (name:=Str.ofString "__next__") hT slot_setiter_next (O_ slot_setiter_next hT dL ?_ (d8 _))));refine ol ho hd x2 (m6.fits T hs) rfl (lV x2 T hs hpl hle (Ou _) ?_);have e1:(gz w S ep es)[es.size]?=none:=by simp[i6]
  rw[e1];show wpAny _ _ _ _ _ _;refine KE (Ra ho hd (by simp) ?_);refine KE ?_;simp only[newExc,newTuple];refine KE (Pe ?_ (by size_fits));refine KE (m:=firstArgMember _ _) (wpAny_of_eq (a:=Value.none) (by first|rfl|(simp only[firstArgMember];rfl)) ?_);refine Pe ?_ (by size_fits);simp only[raiseNew];refine KE (wpAny_handled ?_);rw[show A.in1.handled=none from hh];refine KE (Os (wpAny_throw ?_));refine KE (QR (T:="StopIteration") (b:=true) ⟨_,Oy _ rfl,rfl⟩ isSubtype_stop ?_);refine Os (hQ _ s.toks λb o hb e=>?_);exact Ot _ (Ot _ (((O9 ..).2 b (λz=>hb (by simp[z]))).trans e))
 self:=λ_ _ _ _ st hQ=>by refine Q2 st.1.typeIs d9 (O_ d9 st.1.typeIs iG ?_ (i8 _));exact Os ⟨_,rfl,"set_iterator",_,st.1.typeIs,slot_setiter_next.lookup,hQ⟩
end
section
def uu(r:jI s.heap S es ep t)(hf:t.fits es.size=true)(hpl:t.plain=true)
 (h:Q (.ref s.heap.objs.size) { s with heap:=s.heap.push { cls:=.type "set_iterator",data:=.fields #[.int 0 0,.int 0 0,.ref S,.int es.size 0,.int ep 0] } }):wpAny (model prog w) A (pyIter (.ref S)) Q E s:=by
 obtain⟨o,ho,hex,hd⟩:=r;have hT:s.TypeIs (.ref S) "set":=⟨o,ho,hex.1⟩;refine Q2 hT PySem.F.slot_set_iter (O_ PySem.F.slot_set_iter hT nz ?_ (PySem.F.args_set_iter_1 _));unfold Builtin.«frozenset.__iter__» Builtin.Frozenset.slot0 slotArgs;simp only[List.isEmpty_nil,PK,OD,↓reduceIte,bind_assoc,QI,RO];unfold Builtin.Frozenset.addrOf Builtin.Frozenset.sizeOf setEntries;refine KE (Os (KE (Os ?_)));simp only[bind_assoc];refine KE (PJ ho hd hf (KE (Os (KE (Os ?_)))));refine KE ?_;unfold setDrawn;refine KE (PJ ho hd hf ?_);dsimp only;refine KE (ut (Os ?_));show wpAny _ _ (if(!byT w&&(!t.plain&&decide (es.size>1)))=true then _ else _) _ _ _;rw[hpl];simp only[PK,Q6,RP,OD,Pk];refine KE (Os ?_);refine KE (wpAny_setEpoch_of ho hd hf ?_);exact KE (Pe (Os ⟨_,rfl,"set_iterator",_,⟨_,Oy _ rfl,rfl⟩,slot_setiter_next.lookup,h⟩))
def zj(hT:s.TypeIs (.ref S) "set") (h:Q false s):wpAny (model prog w) A (Builtin.List.listLengthHint (.ref S)) Q E s:=by
 unfold Builtin.List.listLengthHint;refine KE (QH hT PySem.F.slot_set_len.lookup ?_);dsimp only;have hsp:splitId "set.__len__"=some ("set","__len__"):=by decide +kernel
 rw[hsp];dsimp only;refine KE (QR hT sub_set_self ?_);simp only[PK,OD,Pk];rw[Ow (by decide +kernel)];refine KE (QA hT ?_);exact Os h
def rC(r:jI s.heap S es ep t)(T:m6 t es)(hs:t.place.size<=t.mask)(hpl:t.plain=true)(hle:t.led=!byT w)(hh:A.handled=none)(hz:es.size<=300)
 (h:∀h' tk,s.heap.objs.size<h'.objs.size->(∀b o,s.heap.get? b=some o->h'.get? b=some o)->Q ((gz w S ep es).toList.map (·.2)) {s with heap:=h',toks:=tk}):wpAny (model prog w) A (collect (.ref S)) Q E s:=by
 have hf:=m6.fits T hs;obtain⟨o,ho,hex,hd⟩:=r;have hlt:S<s.heap.objs.size:=OA ho;unfold collect;refine KE (wpAny_runValue (PN entry_proto_collect' (show wpAny _ _ (do again (.builtin "list.__iadd__" ⟨[<- newList [],.ref S],[]⟩)) _ _ s from ?_)));refine KE (R_ (Os ⟨Code.quiet_builtin _ (by decide +kernel),PN entry_list_iadd' ?_⟩));show wpAny _ _ (Builtin.List.listExtendWith (.ref s.heap.objs.size) (.ref S) (.ref s.heap.objs.size)) _ _ { s with heap:=s.heap.push (seqObj "list" #[] 0) };have ho1:(s.heap.push (seqObj "list" #[] 0)).get? S=some o:=Ot _ ho;have hT1:Shared.TypeIs { s with heap:=s.heap.push (seqObj "list" #[] 0) } (.ref S) "set":=⟨o,ho1,hex.1⟩;unfold Builtin.List.listExtendWith;refine KE (QA hT1 ?_);have q1:Builtin.List.listSameRef (.ref s.heap.objs.size) (.ref S)=false:=by simp[Builtin.List.listSameRef,Qz hlt]
 have q2:(Value.type "set"==Value.type "list")=false:=by decide
 have q3:(Value.type "set"==Value.type "tuple")=false:=by decide
 simp only[q1,q2,q3,Bool.or_false,OD,Pk];refine KE (uu ⟨o,ho1,hex,hd⟩ hf hpl ?_);have hT2:Shared.TypeIs { s with heap:=(s.heap.push (seqObj "list" #[] 0)).push { cls:=.type "set_iterator",data:=.fields #[.int 0 0,.int 0 0,.ref S,.int es.size 0,.int ep 0] } } (.ref S) "set":=⟨o,Ot _ ho1,hex.1⟩;refine KE (Pd (zj hT2 ?_));rw[Ow (by decide +kernel)];refine KE (Rn ?_);have hS0:((s.heap.push (seqObj "list" #[] 0)).push { cls:=.type "set_iterator",data:=.fields #[.int 0 0,.int 0 0,.ref S,.int es.size 0,.int ep 0] }).get? s.heap.objs.size=some (seqObj "list" #[] 0):=Ot _ (Oy _ rfl);refine KE (show wpAny _ _ (updateSeq s.heap.objs.size (·.push .none) >>= λ_=>updateSeq s.heap.objs.size (·.pop)) _ _ _ from ?_);refine KE (wpAny_updateSeq hS0 rfl ?_);have hS1:=PP (Obj.mapSeq (·.push Value.none)) hS0 rfl;refine wpAny_updateSeq (hz:=by seq_fits) hS1 rfl ?_;have hS2:=PP (Obj.mapSeq (·.pop)) hS1 rfl;generalize hH:(((s.heap.push (seqObj "list" #[] 0)).push { cls:=.type "set_iterator",data:=.fields #[.int 0 0,.int 0 0,.ref S,.int es.size 0,.int ep 0] }).update s.heap.objs.size (Obj.mapSeq (·.push Value.none))).update s.heap.objs.size (Obj.mapSeq (·.pop))=H2 at *;have oth:∀b o,b≠s.heap.objs.size->((s.heap.push (seqObj "list" #[] 0)).push { cls:=.type "set_iterator",data:=.fields #[.int 0 0,.int 0 0,.ref S,.int es.size 0,.int ep 0] }).get? b=some o->H2.get? b=some o:=λb o hb e=>by rw[<- hH];exact(Qx _ _ (PV hb)).trans ((Qx _ _ (PV hb)).trans e)
 have old:∀b o,s.heap.get? b=some o->H2.get? b=some o:=λb o e=>oth b o (OJ (OA e)) (Ot _ (Ot _ e));have hsz1:(s.heap.push (seqObj "list" #[] 0)).objs.size=s.heap.objs.size+1:=size_push' _ _;have hit:H2.get? (s.heap.objs.size+1)=some { cls:=.type "set_iterator",data:=.fields #[.int 0 0,.int 0 0,.ref S,.int es.size 0,.int ep 0] }:=oth _ _ (by lia) (by rw[<- hsz1];exact Oy _ rfl);refine Os ⟨QP PySem.F.plain_extend_loop _,?_⟩;show codeAny _ _ (.builtin "list.extend.loop" ⟨[.ref s.heap.objs.size,.ref (s.heap.push (seqObj "list" #[] 0)).objs.size,.ref s.heap.objs.size],[]⟩) _ _;rw[hsz1];have W:Walks prog w A.in1 (s.heap.objs.size+1) [s.heap.objs.size+1,S] [s.heap.objs.size+1] es.size (λi v=>((gz w S ep es)[i]?).map (·.2)=some v) (λi h=>SetIt h (s.heap.objs.size+1) S (ck w t i) i es.size ep/\jI h S es ep t):=nA (OJ (RN hlt)) (by simp[hh]) T hs hpl hle;refine codeAny_extend_loopS W.toS (by rw[Pg];lia) s.heap.objs.size (by simp only[OE,PF,RQ,not_or];exact⟨OJ (Rf _),Qz hlt⟩) _ es.size 0 _ #[] _ rfl (OR _) ⟨⟨_,hit,rfl,rfl⟩,o,old S o ho,hex,hd⟩ (by rw[hS2];rfl) (ItemsOf.nil _) λs' acc c hm hS' hacc=>?_;obtain⟨h',g',d',tk',os'⟩:=s';have eg:g'=s.gens:=hm.gens;have ed:d'=s.drawn:=hm.drawn;have eo:os'=s.os:=hm.os;subst eg ed eo;refine KE (wpAny_load hS' ?_);have ea:acc.toList=(gz w S ep es).toList.map (·.2):=by
  apply QK
  intro i;by_cases hi:i<acc.size
  .have e1:acc.toList[i]?=some acc[i]:=by rw[OU];simp[hi]
   have e2:=hacc.2 i acc[i] (by simp[hi]);rw[e1,OI,OU];exact e2.symm
  .rw[Px (by simpa using Nat.le_of_not_lt hi),Px];rw[Ov,Pt,i6,<- hacc.1];exact Nat.le_of_not_lt hi
 show wpAny _ _ (pure acc.toList) _ _ _;rw[ea];refine Os (h h' tk' (OA hS') λb o e=>hm.heap b o ?_ (old b o e));have:=OA e;simp only[OE,PF,RQ,not_or];exact⟨OJ this,OJ (RN this)⟩
end
noncomputable def cr:List Int->List Int->Bool
 |[],[]=>false
 |[],_::_=>true
 |_::_,[]=>false
 |a::x,b::y=>if a=b then cr x y else decide (a<b)
theorem kZ:∀a:List Int,cr a a=false
 |[]=>rfl
 |a::x=>by unfold cr;rw[Ow rfl];exact kZ x
theorem pH:∀a b c:List Int,cr a b=true->cr b c=true->cr a c=true
 |[],[],_,h,_=>by cases h
 |[],_::_,[],_,h=>by cases h
 |[],_::_,_::_,_,_=>rfl
 |_::_,[],_,h,_=>by cases h
 |_::_,_::_,[],_,h=>by cases h
 |a::x,b::y,c::z,h1,h2=>by
  unfold cr at h1 h2 ⊢;by_cases e1:a=b
  .subst e1;rw[Ow rfl]at h1;by_cases e2:a=c
   .subst e2;rw[Ow rfl]at h2 ⊢;exact pH x y z h1 h2
   .rw[Ox e2]at h2 ⊢;exact h2
  .grind
theorem pI:∀a b:List Int,a≠b->cr a b=true\/cr b a=true
 |[],[],h=>(h rfl).elim
 |[],_::_,_=>.inl rfl
 |_::_,[],_=>.inr rfl
 |a::x,b::y,h=>by
  unfold cr;by_cases e:a=b
  .subst e;rw[Ow rfl,Ow rfl];exact pI x y λz=>h (by rw[z])
  .grind
section
variable{prog:SC}{w:World}{A:SE}{s:Sz}
theorem vA:∀{a b:List Int}{xs ys:List SD}(i:Nat),ItemsAre (aj prog w) (iK a) xs->ItemsAre (aj prog w) (iK b) ys->Q (cr a b) s->PySem.W.KatLex prog w A true (decide (xs.length<ys.length)) Q (xs.zip ys) i s
 |[],[],_,_,i,hx,hy,h=>by cases hx;cases hy;exact h
 |[],_::_,_,_,i,hx,hy,h=>by
  cases hx;cases hy with
  |cons h1 h2=>exact PySem.W.kat_nil h
 |_::_,[],_,_,i,hx,hy,h=>by
  cases hy;cases hx with
  |cons h1 h2=>exact PySem.W.kat_nil h
 |a::x,b::y,_,_,i,hx,hy,h=>by
  cases hx with
  |@cons _ v1 _ vs1 h1 hx'=>
   cases hy with
   |@cons _ v2 _ vs2 h2 hy'=>
    obtain⟨t1,rfl⟩:=kY h1;obtain⟨t2,rfl⟩:=kY h2;rw[List.zip_cons_cons];refine PySem.W.kat_cons (wpAny_eqBool_int ?_);unfold cr at h;by_cases e:a=b
    .subst e;rw[Ow rfl]at h;rw[beq_self_eq_true];refine PySem.W.kat_yes ?_;have:=vA (i+1) hx' hy' h;simpa using this
    .rw[Ox e]at h;have eb:(a==b)=false:=by grind
     rw[eb];refine PySem.W.kat_no ?_;cases i with
     |zero=>exact oneLt_int h
     |succ i=>exact PySem.W.kat_one _ _ (lt_int h)
structure qH(prog:SC) (w:World) (h:Heap) (xs:List ip):Prop where
 is:∀x∈xs,(tK prog w).is h (iK x.1) x.2
 ne:∀x∈xs,x.1≠[]
 nd:(xs.map (·.1)).Nodup
noncomputable def gh(xs:List ip):List SD:=xs.map λx=>Value.ref x.2
noncomputable def d_(xs:List ip)(i:Nat):List Int:=((xs[i]?).getD ([],0)).1
def Cf(t:qH prog w s.heap xs):Lt xs.length λi j=>cr (d_ xs i) (d_ xs j) where
 Oj:=λi=>kZ _
 tr:=λi j k=>pH _ _ _
 Ol:=λi j hi hj e=>pI _ _ λz=>by
  have gi:d_ xs i=(xs.map (·.1))[i]'(by simpa using hi):=by simp[d_,hi]
  have gj:d_ xs j=(xs.map (·.1))[j]'(by simpa using hj):=by simp[d_,hj]
  rw[gi,gj]at z;rcases Ru e with q|q
  .exact OQ.mp t.nd i j (by simpa using hi) (by simpa using hj) q z
  .exact OQ.mp t.nd j i (by simpa using hj) (by simpa using hi) q z.symm
def zk(t:qH prog w s.heap xs):Ca xs.length (λi j=>cr (d_ xs i) (d_ xs j)) (kas_ask prog w A (tuples' true) (gh xs)) s:=by intro i j C hi hj h;have one:∀k,k<xs.length->∃x,(gh xs).getD k Value.none=.ref x.2/\d_ xs k=x.1/\x∈xs:=λk hk=>⟨xs[k],by simp[gh,hk],by simp[d_,hk],R3 hk⟩;obtain⟨x,ex,kx,mx⟩:=one i hi;obtain⟨y,ey,ky,my⟩:=one j hj;unfold kas_ask;rw[ex,ey];obtain⟨ox,ix,nx,hx,cx,dx,lx⟩:=t.is x mx;obtain⟨oy,iy,ny,hy,cy,dy,ly⟩:=t.is y my;refine PySem.W.kat_lt hx dx hy dy ?_;have h:C (cr (d_ xs i) (d_ xs j)) s:=h;rw[kx,ky]at h;have:=vA (A:=A) 0 lx ly h;simpa using this
theorem rD:∀{xs:List ip},(∀x∈xs,(tK prog w).is h (iK x.1) x.2)->(∀x∈xs,x.1≠[])->∃fs:List SD,PySem.W.KatTups h (gh xs) fs/\fs.length=xs.length/\∀v∈fs,∃i t,v=Value.int i t
 |[],_,_=>⟨[],trivial,rfl,λv hv=>nomatch hv⟩
 |x::xs,h1,h2=>by
  obtain⟨fs,a,b,c⟩:=rD (λy hy=>h1 y (OW _ hy)) λy hy=>h2 y (OW _ hy);obtain⟨ox,ix,nx,hx,cx,dx,lx⟩:=h1 x OZ;have hne:=h2 x OZ;obtain⟨k,b'⟩:=x;dsimp only at hne lx hx;cases k with
  |nil=>exact(hne rfl).elim
  |cons n ns=>
   generalize hl:ix.toList=l at lx;cases lx with
   |@cons _ v _ vs q1 q2=>
    obtain⟨t,rfl⟩:=kY q1;refine⟨.int n t::fs,⟨⟨b',ox,ix,nx,rfl,hx,cx,dx,?_⟩,a⟩,by simp[b],λv hv=>?_⟩
    .rw[<- OU,hl];rfl
    .grind
def xa(t:qH prog w s.heap xs)(hne:0<xs.length)(h:Q (tuples' true) s):wpAny (model prog w) A (keyKind' (gh xs).toArray) Q E s:=by
 obtain⟨fs,a,b,c⟩:=rD t.is t.ne;refine PySem.W.kat_kind (T:=.type "int") a (by lia) (λv hv=>?_) (by decide) ?_
 .obtain⟨i,t,rfl⟩:=c v hv;exact λA Q E s k q=>Os q
 .have:(Value.type "int" != Value.type "tuple")=true:=by decide
  rw[this];exact h
end
noncomputable def pick{α:Type}(d:α)(xs:List α)(i:Nat):α:=(xs[i]?).getD d
section
variable{α β:Type}
def lW(d:α)(xs:List α):(List.range xs.length).map (pick d xs)=xs:=by
 apply QK
 intro i;rw[OI];by_cases h:i<xs.length
 .rw[List.getElem?_range h,OL h];simp[pick,h]
 .rw[Px (by grind),Px (by grind)];rfl
def om(d:α)(pm:Pm xs.length p):(p.toList.map (pick d xs)).Perm xs:=by have:=List.Perm.map (pick d xs) pm;rw[lW]at this;exact this
def vD{r:α->α->Bool}(pm:Pm xs.length p)(so:So (λi j=>r (pick d xs i) (pick d xs j)) p xs.length):(p.toList.map (pick d xs)).Pairwise λx y=>r x y=true:=by
 rw[Pi,OQ];intro i j hi hj hij;have hi':i<p.size:=by grind
 have hj':j<p.size:=by grind
 have:=so i j hij (by rw[<- pm.size];exact hj');dsimp only at this;have ei:bY p i=p.toList[i]:=by simp[bY,Array.getD,hi']
 have ej:bY p j=p.toList[j]:=by simp[bY,Array.getD,hj']
 rw[ei,ej]at this;exact this
def rE{f:α->β}{e:β}(d:α)(pm:Pm xs.length p):(p.toList.map λi=>(xs.map f).getD i e)=(p.toList.map (pick d xs)).map f:=by rw[OP];refine O0 λi hi=>?_;have hi:i<xs.length:=O5.mp (pm.mem_iff.mp hi);simp[pick,hi]
end
section
def qH.off(t:qH prog w h xs)(ho:h.get? a=some o)(hc:o.cls=.type "list") (k:∀b o,b≠a->h.get? b=some o->h'.get? b=some o):qH prog w h' xs:=by refine⟨λx hx=>?_,t.ne,t.nd⟩;obtain⟨ox,ix,nx,h1,c1,r⟩:=t.is x hx;refine⟨ox,ix,nx,k x.2 ox (λe=>?_) h1,c1,r⟩;rw[e,ho]at h1;cases h1;rw[hc]at c1;exact absurd c1 (by decide)
def rF{a:Addr}{n:Nat}{vs:List SD}{κ:SortKind}{lt:Nat->Nat->Bool}{P:PySem.Fin->Sz->Prop}(ho:s.heap.get? a=some (seqObj "list" vs.toArray n)) (h64:vs.length<64)
 (hk:∀H,(∀b o,b≠a->s.heap.get? b=some o->H.get? b=some o)->2<=vs.length->(∀Q,Q κ {s with heap:=H}->wpAny (model prog w) A (keyKind' vs.toArray) Q E {s with heap:=H})/\Lt vs.length lt/\Ca vs.length lt (kas_ask prog w A κ vs) {s with heap:=H})
 (h:∀p h' c,Pm vs.length p->So lt p vs.length->h'.get? a=some (seqObj "list" (p.toList.map λi=>vs.getD i Value.none).toArray c)->(∀b o,b≠a->s.heap.get? b=some o->h'.get? b=some o)->P (.done (.ret .none)) {s with heap:=h'}) :
 wpAny (model prog w) A (Builtin.«list.sort» ⟨[.ref a],[]⟩) P E s:=by
 rw[list_sort_plain];refine KE (listItems_at ho rfl (KE (listUpdate_at ho rfl ?_ (by rw[Oz,Pg];lia) (OR _))));obtain⟨e1,ho1⟩ : ∃e1,(s.heap.update a (Obj.mapSeq λ_=>#[])).get? a=some (seqObj "list" #[] e1):=⟨_,get?_update_seq ho (λ_=>#[])⟩;refine KE (seqEpoch_at ho1 rfl (KE (wpAny_newTuple (KE (R_ (Pd ?_) (OR _))) (by show vs.length<=_;rw[Pg];lia))));have oth:∀b o,b≠a->s.heap.get? b=some o->(((s.heap.update a (Obj.mapSeq λ_=>(#[]:Array SD))).push (seqObj "tuple" vs.toArray 0)).push (seqObj "list" #[] 0)).get? b=some o:=λb o hb e=>Ot _ (Ot _ ((Qx _ _ (PV hb)).trans e));have ho6:(((s.heap.update a (Obj.mapSeq λ_=>(#[]:Array SD))).push (seqObj "tuple" vs.toArray 0)).push (seqObj "list" #[] 0)).get? a=some (seqObj "list" #[] e1):=Ot _ (Ot _ ho1);show wpAny (model prog w) A _ P E { s with heap:=((s.heap.update a (Obj.mapSeq λ_=>(#[]:Array SD))).push (seqObj "tuple" vs.toArray 0)).push (seqObj "list" #[] 0) };generalize(((s.heap.update a (Obj.mapSeq λ_=>(#[]:Array SD))).push (seqObj "tuple" vs.toArray 0)).push (seqObj "list" #[] 0))=H6 at ho6 oth;dsimp only;have fin:∀(p:Array Nat)(out:Array SD),Pm vs.length p->So lt p vs.length->out=(p.toList.map λi=>vs.getD i Value.none).toArray->P (.done (.ret .none)) {s with heap:=H6.update a (Obj.mapSeq λ_=>out)}:=λp out hp hw ho=>by subst ho;exact h p _ _ hp hw (get?_update_seq ho6 λ_=>(p.toList.map λi=>vs.getD i Value.none).toArray) λb o hb e=>(Qx _ _ (PV hb)).trans (oth b o hb e)
 by_cases h2:vs.toArray.size<2
 .rw[Ow h2,Ow h2];refine KE (Os ?_);rw[StateT.run_pure];have hx2:vs.length<2:=by grind
  have hout:Array.map (λx:Keyed=>x.2) (vs.toArray.zip vs.toArray)=vs.toArray:=by apply Array.ext';simp[List.map_snd_zip]
  refine KE (Os ?_);dsimp only;refine KE (seqEpoch_at ho6 rfl (KE (listUpdate_at ho6 rfl ?_ (OR _) ?_)))
  .simp only[RO,OD,Pk];refine Os (fin (List.range vs.length).toArray _ (List.Perm.refl _) (λa b h1 h2=>by lia) (hout.trans ?_));rw[show(λi=>vs.getD i Value.none)=pick Value.none vs from funext λi=>by simp[pick]];show _=(List.map _ (List.range vs.length)).toArray;rw[lW]
  .show(Array.map (λx:Keyed=>x.2) (vs.toArray.zip vs.toArray)).size<=_;rw[hout,Oz,Pg];lia
 .rw[Ox h2,Ox h2];have hx2:2<=vs.length:=by grind
  obtain⟨k1,k2,k3⟩:=hk H6 oth hx2;refine KE (k1 _ ?_);refine KE (Qc (PySem.W.kat_run (s:={s with heap:=H6}) (Q:=λst' s'=>s'={s with heap:=H6}/\∃p:Array Nat,Pm vs.length p/\So lt p vs.length/\arrOf st'=p.map (PySem.W.kas_item (vs.toArray.zip vs.toArray))/\failedOf st'=none)
   (G:=λp s'=>s'={s with heap:=H6}/\Pm vs.length p/\So lt p vs.length) rfl (by lia) (by lia) (λp st' s' _ a2 a3 g=>⟨g.1,p,g.2.1,g.2.2,a2,a3⟩) ?_) ?_ λ_ _ e=>e)
  .exact Cb k2 k3 hx2 λp pm so=>⟨rfl,pm,so⟩
  .rintro⟨⟨⟩,st'⟩ s' ⟨rfl,p,pm,so,har,hf⟩;dsimp only;rw[PySem.W.kat_snds rfl har];refine KE (seqEpoch_at ho6 rfl (KE (listUpdate_at ho6 rfl ?_ (OR _) ?_)))
   .rw[hf];simp only[RO,OD,Pk];exact Os (fin _ _ pm so rfl)
   .have:=pm.size;simp[this];rw[Pg];lia
def xb(ho:s.heap.get? a=some (seqObj "list" (gh xs).toArray n)) (t:qH prog w s.heap xs) (h64:xs.length<64)
 (h:∀ys h' c,ys.Perm xs->ys.Pairwise (λx y=>cr x.1 y.1=true)->h'.get? a=some (seqObj "list" (gh ys).toArray c)->(∀b o,b≠a->s.heap.get? b=some o->h'.get? b=some o)->P (.done (.ret .none)) {s with heap:=h'}) :
 wpAny (model prog w) A (Builtin.«list.sort» ⟨[.ref a],[]⟩) P E s:=by
 have hvl:(gh xs).length=xs.length:=by simp[gh]
 refine rF (κ:=tuples' true) (lt:=λi j=>cr (d_ xs i) (d_ xs j)) ho (by lia) (λH oth h2=>?_) λp h' c pm so e k=>?_
 .have t6:qH prog w H xs:=t.off ho rfl oth;rw[hvl];exact⟨λQ q=>xa (s:={s with heap:=H}) t6 (by lia) q,Cf (s:={s with heap:=H}) t6,zk (s:={s with heap:=H}) t6⟩
 .rw[hvl]at pm so;exact h (p.toList.map (pick ([],0) xs)) h' c (om _ pm) (vD (r:=λx y=>cr x.1 y.1) pm so) (by rw[e];unfold gh;rw[rE ([],0) pm]) k
def pJ(prog:SC)(w:World)(N:Nat):Prop:=∀(A:SE)(E:SD->Sz->Prop)(s:Sz)(a:Addr)(n:Nat)(xs:List ip)(P:PySem.Fin->Sz->Prop),s.heap.get? a=some (seqObj "list" (gh xs).toArray n)->qH prog w s.heap xs->xs.length<=N->
 (∀ys h' c,ys.Perm xs->ys.Pairwise (λx y=>cr x.1 y.1=true)->h'.get? a=some (seqObj "list" (gh ys).toArray c)->(∀b o,b≠a->s.heap.get? b=some o->h'.get? b=some o)->P (.done (.ret .none)) {s with heap:=h'})->wpAny (model prog w) A (Builtin.«list.sort» ⟨[.ref a],[]⟩) P E s
def Cg:pJ prog w 63:=λ_ _ _ _ _ _ _ ho t hz h=>xb ho t (by lia) h
end
section
variable{κ μ:Type}{its:List (κ×μ)}
theorem rG:∀(l:List (Int×SD)),(∀e∈l,∃x∈its,e=ent x)->∃zs:List (κ×μ),l=zs.map ent/\∀z∈zs,z∈its
 |[],_=>⟨[],rfl,λz hz=>nomatch hz⟩
 |e::l,h=>by
  obtain⟨x,hx,rfl⟩:=h e OZ;obtain⟨zs,h1,h2⟩:=rG l λe he=>h e (OW _ he);exact⟨x::zs,by rw[h1];rfl,λz hz=>by
   rcases OE.mp hz with rfl|hz
   .exact hx
   .exact h2 z hz⟩
structure tG(lt:κ->κ->Prop) (its ys:List (κ×μ)):Prop where
 sub:∀y∈ys,y∈its
 all:∀x∈its,∃y∈ys,y.1=x.1
 pw:ys.Pairwise λx y=>lt x.1 y.1
def FJ(prog:SC)(w:World)(hb:Heap)(ent:κ×μ->Int×SD)(lt:κ->κ->Prop)(its:List (κ×μ)) (N:Nat):Prop:=∀(A:SE)(E:SD->Sz->Prop)(s:Sz)(a:Addr)(n:Nat)(zs:List (κ×μ))(P:PySem.Fin->Sz->Prop),(∀b o,hb.get? b=some o->s.heap.get? b=some o)->s.heap.get? a=some (seqObj "list" (zs.map λz=>(ent z).2).toArray n)->(∀z∈zs,z∈its)->(zs.map (·.1)).Nodup->zs.length<=N->
 (∀(ys:List (κ×μ)) h' c,ys.Perm zs->ys.Pairwise (λx y=>lt x.1 y.1)->h'.get? a=some (seqObj "list" (ys.map λz=>(ent z).2).toArray c)->(∀b o,b≠a->s.heap.get? b=some o->h'.get? b=some o)->P (.done (.ret .none)) {s with heap:=h'})->wpAny (model prog w) A (Builtin.«list.sort» ⟨[.ref a],[]⟩) P E s
def i9(sa:SetAt w s.heap S es)(v:gq ent es its)(un:Cd ent its)(hh:A.handled=none)(hN:N<=300)(hs:FJ prog w s.heap ent lt its N)(hz:its.length<=N)
 (h:∀(ys:List (κ×μ)) h' tk l c,tG lt its ys->ys.length<=N->s.heap.objs.size<=l->h'.get? l=some (seqObj "list" (ys.map λz=>(ent z).2).toArray c)->(∀b o,s.heap.get? b=some o->h'.get? b=some o)->Q (.ref l) {s with heap:=h',toks:=tk}) :
 wpAny (model prog w) A (call (.builtin "sorted") [.ref S]) Q E s:=by
 obtain⟨o,ep,t,ho,hex,hd,T,sp,hpl,hle⟩:=sa;have pe:=rB w S ep es;have hes:=v.sz;obtain⟨zs,ez,zm⟩:=rG (ent:=ent) (its:=its) (gz w S ep es).toList λe he=>v.el e (pe.mem_iff.mp he);have ev:(gz w S ep es).toList.map (·.2)=zs.map λz=>(ent z).2:=by rw[ez,OP];rfl
 have hzl:zs.length=es.size:=by have:=Qn List.length ez;rw[Ov,Pt,i6]at this;exact this.symm
 have nd:(zs.map (·.1)).Nodup:=by have pw:=(pe.pairwise_iff (λ{x y} hxy a b e1 e2 m1 m2 z=>hxy b a e2 e1 m2 m1 z.symm)).mpr v.pw;rw[ez,Pi]at pw;unfold List.Nodup;rw[Pi];exact QJ (λ{a b} ha hb hab=>hab a b rfl rfl (zm a ha) (zm b hb)) pw
 refine Rb kind_sorted plain_sorted entry_sorted (args_sorted1 _) ?_;unfold Builtin.«sorted»;refine KE (m:=checkCount "sorted" 1 1 _) (Os (KE (rC ⟨o,ho,hex,hd⟩ T (fC sp) hpl hle (by simp[hh]) (by lia) λh1 tk1 g1 k1=>?_)));rw[ev];refine KE (R_ ?_ (by rw[Ov,hzl,Pg];lia));have hoL:(h1.push (seqObj "list" (zs.map λz=>(ent z).2).toArray 0)).get? h1.objs.size=some (seqObj "list" (zs.map λz=>(ent z).2).toArray 0):=Oy _ rfl;have kk:∀b o,s.heap.get? b=some o->(h1.push (seqObj "list" (zs.map λz=>(ent z).2).toArray 0)).get? b=some o:=λb o e=>Ot _ (k1 b o e);have ge:s.heap.objs.size<=h1.objs.size:=P_ g1;refine KE (Pd (O_ slot_list_sort ⟨_,hoL,rfl⟩ entry_list_sort (hs _ _ { s with heap:=h1.push (seqObj "list" (zs.map λz=>(ent z).2).toArray 0),toks:=tk1 } _ _ zs _ kk hoL zm nd (by lia) λys h2 c2 hp hw hl2 k2=>⟨_,rfl,?_⟩) (args_list_sort _)));refine Os ⟨_,rfl,h ys h2 tk1 _ c2 ⟨λy hy=>zm y (hp.mem_iff.mp hy),λx hx=>?_,hw⟩ (by rw[hp.length_eq];lia) ge hl2 λb o e=>k2 b o (λz=>?_) (kk b o e)⟩
 .obtain⟨y,y1,y2,y3⟩:=v.all x hx;have y4:=pe.mem_iff.mpr y3;rw[ez]at y4;obtain⟨z,z1,z2⟩:=OB.mp y4;exact⟨z,hp.mem_iff.mpr z1,(un z (zm z z1) y y1 z2).trans y2⟩
 .subst z;exact absurd (OA e) (Sx.mpr ge)
end
def TupsIn(H:Hp):List V->List ip->Prop:=Paired λv x=>v=.ref x.2/\H x.2=some (.tup ((iK x.1).map kV))
theorem TupsIn.get(t:TupsIn H vs its)(rv:Vals vs us):its.length=us.length/\(∀(i:Nat)(v:SD),us[i]?=some v->∃x:ip,its[i]?=some x/\v=.ref x.2)/\∀x∈its,H x.2=some (.tup ((iK x.1).map kV)):=by
 unfold TupsIn at t;induction t generalizing us with
 |nil=>cases rv;exact⟨rfl,λi v e=>by simp at e,λx hx=>nomatch hx⟩
 |@cons v y vs its q t ih=>
  cases rv with
  |@cons _ u _ us r s=>
   obtain⟨a,b,c⟩:=ih s;obtain⟨rfl,q⟩:=q;obtain rfl:u=Value.ref y.2:=r;refine⟨by simp[a],λi v e=>?_,λx hx=>?_⟩
   .cases i with
    |zero=>simp at e;exact⟨y,rfl,e.symm⟩
    |succ i=>exact b i v e
   .rcases OE.mp hx with rfl|hx
    .exact q
    .exact c x hx
section
def xc(hc:X.calm=true)(hu:X.A.units+64<cLine):CallR X (.type "set") (λxs H Q=>∃l vs its,xs=[.ref l]/\Rd H l (.lst vs)/\TupsIn H vs its/\vs.length<=300/\
 ∀p es,H p=none->gq (eT X.prog X.w) es its->Q (.ref p) (upd H p (.ext λh=>SetAt X.w h p es))):=by
 intro aa s σ H xs us Q I r h;obtain⟨l,vs,its,rfl,hl,hp,hz,q⟩:=h;obtain⟨u,rfl,ru⟩:=db r;obtain rfl:u=Value.ref l:=ru;obtain⟨_,us,n,rv,hg⟩:=(show ObjOk X.prog X.w H s.heap l (.lst vs)from hl.ok I.aF);obtain⟨g1,g2,g3⟩:=hp.get rv;have his:=λx hx=>cO I.aF (g3 x hx);refine oj (ent:=eT X.prog X.w) (I.ok.hd hc) hg (its:=its) (by grind) (by rw[Oz,<- rv.length];exact hz) (λi v e=>g2 i v (by grind)) (IW his) (Ce (by show X.A.units+1+1+1<cLine;lia) his) λh' tk es hS v hk=>?_;have hf:H s.heap.objs.size=none:=I.aF.fresh (Ou _);refine⟨.ref s.heap.objs.size,_,I.laid (a:=s.heap.objs.size) (o:=.ext λh=>SetAt X.w h s.heap.objs.size es) (t':=tk) (λb o e=>hk b o (OA e) e) (Ou _) ?_,rfl,q _ es hf v⟩;exact⟨hS,(let ⟨o,_,_,e,_⟩:=hS;⟨o,e⟩),λh1 h2 hs k=>SetAt.keep hs k⟩
def pK(hc:X.calm=true)(hN:N<=300)(hs:pJ X.prog X.w N):CallR X (.builtin "sorted") (λxs H Q=>∃p es its,xs=[.ref p]/\H p=some (.ext λh=>SetAt X.w h p es)/\gq (eT X.prog X.w) es its/\(∀x∈its,H x.2=some (.tup ((iK x.1).map kV)))/\(∀x∈its,x.1≠[])/\its.length<=N/\
 ∀l ys,H l=none->tG (λx y=>cr x y=true) its ys->Q (.ref l) (upd H l (.lst (ys.map λy=>.ref y.2)))):=by
 intro aa s σ H xs us Q I r h;obtain⟨p,es,its,rfl,hp,v,ht,hne,hz,q⟩:=h;obtain⟨u,rfl,ru⟩:=db r;obtain rfl:u=Value.ref p:=ru;obtain⟨hS,_,_⟩:=(show ObjOk X.prog X.w H s.heap p (.ext λh=>SetAt X.w h p es)from I.aF p _ hp);have his:=λx hx=>cO I.aF (ht x hx);refine i9 hS v (IW his) (I.ok.hd hc) hN (lt:=λx y=>cr x y=true) (λA E s a n zs P kk ho zm nd hz h=>hs A E s a n zs P ho ⟨λx hx=>iX (his x (zm x hx)) kk,λx hx=>hne x (zm x hx),nd⟩ hz h) hz λys h' tk l c so hyl hle hl hk=>?_;refine⟨.ref l,_,I.laid (a:=l) (o:=.lst (ys.map λy=>.ref y.2)) (t':=tk) hk hle ⟨by rw[Ov,Pg];lia,_,c,?_,hl⟩,rfl,q l ys (I.aF.fresh hle) so⟩;clear so hl hyl;induction ys with
 |nil=>exact .nil
 |cons y ys ih=>exact .cons rfl ih
end
end L2
namespace L2
open PySem PySem.Spec PySem.Calls PyProof.Rows ST
section
def Ci(T:m6 t es)(sp:io t)(h:Int)(x:SD):∃j,j∉t.place.toList/\j<=t.mask/\Rea t.mask (·∈ t.place.toList) h j/\layNew t es h x=(SetTable.insertAt es (t.put j).2 (h,x),(t.put j).1,false,false):=by
 have hs:=fC sp;have pr:=lQ T.tb hs (λ_=>h+1) h (Va.st t.mask h);have hst:t.probeStart h=st t.mask h:=rfl;generalize hp:t.probe (λ_=>h+1) h (st t.mask h)=m at pr;cases pr with
 |ca n i hi e q b=>exact absurd q (by lia)
 |em n e b=>
  have re:Rea t.mask (·∈ t.place.toList) h (it t.mask n (st t.mask h)).j:=⟨n,rfl,λk hk=>by obtain⟨i,hi,q,_⟩:=b k hk;show _∈t.place.toList;rw[<- q];simp⟩;have hjm:(it t.mask n (st t.mask h)).j<=t.mask:=((Va.st t.mask h).it).NC;refine⟨_,e,hjm,re,?_⟩;obtain⟨T',em,ez⟩:=ul T e hjm (v:=x) re;have hp1:(t.put (it t.mask n (st t.mask h)).j).2<=es.size:=by rw[kX,<- T.len];exact(cj _ T.tb.tB).1
  have le':(t.put (it t.mask n (st t.mask h)).j).1.place.size<=(t.put (it t.mask n (st t.mask h)).j).1.mask:=by grind [io]
  have hf:=m6.fits T' le';unfold layNew SetTable.freeSlot;rw[hst,hp];dsimp only[Option.getD,Option.isSome];unfold SetTable.orStandIn;rw[Ow hf,hf];rfl
def xg(hm:tH m)(hn:SetTable.sizeAbove n=m+1)(hl:es.size<=m):∃es' t',relayAll t es n=(es',t',false)/\Laid m es es' t'/\t'.led=t.led/\t'.plain=t.plain:=by
 obtain⟨t',order,e,L,h1,h2,hp⟩:=rq hm es hl t.finger (t.movedTo m) t.led t.plain;refine⟨_,t',?_,L,h1,h2⟩;have er:t.relaid (es.map (·.1)) n=some (t',order):=by unfold SetTable.relaid;rw[hn];exact e
 unfold relayAll;rw[er];dsimp only;have hc:coversAll order es.size=true:=by unfold coversAll;exact List.isPerm_iff.mpr hp
 have hf:t'.fits (order.filterMap (es[·]?)).size=true:=m6.fits L.tE (by rw[L.tE.len,L.mask,L.size];exact hl);rw[hc,hf];rfl
end
section
def Cj(hS:SetAt w s.heap a es)(el:ElemsOf (intKind prog w) es.toList)(hz:es.size+1<=300)
 (h1:∀tk,s.toks<=tk->(∃e∈es.toList,(intKind prog w).is i e.2=true)->Q false {s with toks:=tk})
 (h2:∀tk h' es',s.toks<=tk->(∀e∈es.toList,(intKind prog w).is i e.2=false)->Heap.SameBut a s.heap h'->SetAt w h' a es'->ko es es' ((intKind prog w).hash i,.int i t0)->Q true {s with heap:=h',toks:=tk}) :
 wpAny (model prog w) A (setAdd a (.int i t0)) Q E s:=by
 obtain⟨o,ep,t,ho,hex,hd,T,sp,hpl,hle⟩:=hS;have hf:=m6.fits T (fC sp);have dh:=intKind_is prog w i t0;have hsc:(Value.int i t0).scannable=true:=rfl;unfold setAdd;refine Pd ?_;refine KE ((intKind prog w).pyHash (k:=i) dh ?_);have htk:s.toks<=s.toks+1:=Nat.le_succ _;generalize s.toks+1=tk at htk;unfold setAddHashed setAddHashedIn;refine Pd (KE (PJ (s:={s with toks:=tk}) ho hd hf ?_));dsimp only;rw[byScan_of hsc (by unfold scanBound;lia) el];simp only[Qy];unfold setAddByScan;refine KE ?_;refine KE (Rn ?_);refine KE (wpAny_setScan_of (s:={s with toks:=tk}) dh ho hd hf el ?_);cases hr:List.findIdx? (λe=>(intKind prog w).is i e.2) es.toList with
 |some j=>dsimp only;obtain⟨hj,hpj,_⟩:=List.findIdx?_eq_some_iff_getElem.mp hr;exact Os (Os (h1 tk htk ⟨_,R3 hj,hpj⟩))
 |none=>
  dsimp only;have hout:∀e∈es.toList,(intKind prog w).is i e.2=false:=λe he=>by have:=List.findIdx?_eq_none_iff.mp hr e he;simpa using this
  obtain⟨j,hj,hjm,re,hlay⟩:=Ci T sp ((intKind prog w).hash i) (.int i t0);obtain⟨T',em,ez⟩:=ul T hj hjm (v:=Value.int i t0) re;have hpl':(t.put j).1.plain=true:=by rw[i4 T.tb];exact hpl
  have hle':(t.put j).1.led=!byT w:=by rw[i4 T.tb];exact hle
  rw[hlay];dsimp only;refine KE (show wpAny _ _ (pure ()) _ _ _ from Os ?_);rw[hpl'];simp only[Qy];rw[hashByValue_scannable 8 hsc];refine KE (Os ?_);rw[show plainKind (Value.int i t0)=true from rfl];simp only[Qy];have hp:(t.put j).2<=es.size:=by rw[kX,<- T.len];exact(cj j T.tb.tB).1
  have g:=oh es (t.put j).2 ((intKind prog w).hash i,Value.int i t0) hp;refine KE (RK (s:={s with toks:=tk}) ho hd ?_ (by rw[g.size,Pg];lia));obtain⟨o1,q1,q2,q3⟩:=g8 (SetTable.insertAt es (t.put j).2 ((intKind prog w).hash i,Value.int i t0)) (t.put j).1 ho hex hd;have sb:=O9 s.heap a (Obj.putSet (SetTable.insertAt es (t.put j).2 ((intKind prog w).hash i,Value.int i t0)) (t.put j).1);have fill:(t.put j).1.fill=es.size+1:=by unfold SetTable.fill;rw[T'.tb.Iw,ez,T.len];rfl
  by_cases hfull:(t.put j).1.tooFull=true
  .rw[hfull];simp only[Bool.not_false,R8,Qy];unfold SetTable.tooFull at hfull;rw[fill,em]at hfull;have hfull:(es.size+1)*5>=t.mask*3:=by simpa using hfull
   have sp':es.size*5<t.mask*3:=by rw[<- T.len];exact sp
   obtain⟨m,m1,m2,m3⟩:=lT T.tb.d4 sp' hfull hz;rw[g.size];obtain⟨es',t',hra,L,l1,l2⟩:=xg (t:=(t.put j).1) (es:=SetTable.insertAt es (t.put j).2 ((intKind prog w).hash i,Value.int i t0)) m2 m1 (by rw[g.size];lia);rw[hra];dsimp only;refine KE (show wpAny _ _ (pure ()) _ _ _ from Os ?_);refine KE (RK q1 q3 ?_ (by rw[L.size,g.size,Pg];lia));obtain⟨o2,r1,r2,r3⟩:=g8 es' t' q1 q2 q3;refine Os (Os (h2 tk _ es' htk hout (sb.trans (O9 _ a _)) ⟨o2,_,_,r1,r2,r3,L.tE,?_,by rw[l2];exact hpl',by rw[l1];exact hle'⟩ (g.laid L)));unfold io;rw[L.tE.len,L.mask,L.size,g.size];exact m3
  .have hfull:(t.put j).1.tooFull=false:=by simpa using hfull
   rw[hfull];simp only[RP,OD,Pk];refine Os (Os (h2 tk _ _ htk hout sb ⟨o1,_,_,q1,q2,q3,T',?_,hpl',hle'⟩ g));unfold SetTable.tooFull at hfull;unfold io;rw[fill]at hfull;rw[ez,T.len];simpa using hfull
end
section
noncomputable abbrev oo:=Int×Tok
noncomputable abbrev eI(prog:SC)(w:World)(x:oo):Int×SD:=((intKind prog w).hash x.1,.int x.1 x.2)
def isI:(intKind prog w).is k (.int j t)=true↔k=j:=by
 constructor
 .intro h;by_cases e:k=j
  .exact e
  .have h2:=intKind_is prog w j t;exact absurd ((intKind prog w).inj _ _ _ h h2) e
 .rintro rfl;exact intKind_is prog w k t
def IX:Cd (eI prog w) its:=λx _ y _ e=>by injection e with _ e;injection e
def Ck:vy prog w A hb S (eI prog w) its:=λx xs s es Q E hx hs K hS v hz h1 h2=>by
 refine Cj hS (λe he=>?_) hz (λtk t hin=>h1 tk t ?_) λtk h' es' t hout sb sa g=>h2 tk h' es' t (λhin=>?_) sb sa g
 .obtain⟨y,_,rfl⟩:=v.el e he;exact⟨⟨y.1,intKind_is prog w y.1 y.2,rfl⟩,rfl⟩
 .obtain⟨e,he,hh⟩:=hin;obtain⟨y,y1,rfl⟩:=v.el e he;exact⟨y,y1,(isI.mp hh).symm⟩
 .obtain⟨y,y1,y2⟩:=hin;obtain⟨z,z1,z2,z3⟩:=v.all y y1;have:=hout _ z3;rw[isI.mpr (z2.trans y2).symm]at this;cases this
end
section
def IY(r:Vals (xs.map V.int) us):∃its:List oo,its.map (·.1)=xs/\us=its.map λz=>Value.int z.1 z.2:=by
 induction xs generalizing us with
 |nil=>cases r;exact⟨[],rfl,rfl⟩
 |cons x xs ih=>
  cases r with
  |cons q h=>obtain⟨t,rfl⟩:=q;obtain⟨its,rfl,rfl⟩:=ih h;exact⟨(x,t)::its,rfl,rfl⟩
def uw(hc:X.calm=true):CallR X (.type "set") (λvs H Q=>∃l xs,vs=[.ref l]/\Rd H l (.lst (xs.map V.int))/\xs.length<=300/\∀p es its,H p=none->its.map (·.1)=xs->gq (eI X.prog X.w) es its->Q (.ref p) (upd H p (.ext λh=>SetAt X.w h p es))):=by
 intro aa s σ H vs us Q I r h;obtain⟨l,xs,rfl,hl,hz,q⟩:=h;obtain⟨u,rfl,ru⟩:=db r;obtain rfl:u=Value.ref l:=ru;obtain⟨_,us,n,rv,hg⟩:=(show ObjOk X.prog X.w H s.heap l (.lst (xs.map V.int))from hl.ok I.aF);obtain⟨its,rfl,rfl⟩:=IY rv;rw[Ov]at hz;refine oj (ent:=eI X.prog X.w) (I.ok.hd hc) hg (its:=its) (by simp) (by simpa using hz) (λi v e=>?_) IX Ck λh' tk es hS v hk=>?_
 .simp only[List.getElem?_toArray,OI,OY]at e;obtain⟨x,h1,h2⟩:=e;exact⟨x,h1,h2.symm⟩
 .refine⟨.ref s.heap.objs.size,_,I.laid (a:=s.heap.objs.size) (o:=.ext λh=>SetAt X.w h s.heap.objs.size es) (t':=tk) (λb o e=>hk b o (OA e) e) (Ou _) ?_,rfl,q _ es its (I.aF.fresh (Ou _)) rfl v⟩;exact⟨hS,(let ⟨o,_,_,e,_⟩:=hS;⟨o,e⟩),λh1 h2 hs k=>SetAt.keep hs k⟩
end
noncomputable def valsN(zs:List oo):List SD:=zs.map λz=>Value.int z.1 z.2
section
theorem rH:∀zs:List oo,IntsAre (valsN zs) (zs.map (·.1))
 |[]=>.nil
 |z::zs=>.cons _ _ (rH zs)
def oq{P:PySem.Fin->Sz->Prop}(ho:s.heap.get? a=some (seqObj "list" (valsN zs).toArray n)) (nd:(zs.map (·.1)).Nodup) (hz:zs.length<=63)
 (h:∀ys h' c,ys.Perm zs->ys.Pairwise (λx y=>x.1<y.1)->h'.get? a=some (seqObj "list" (valsN ys).toArray c)->(∀b o,b≠a->s.heap.get? b=some o->h'.get? b=some o)->P (.done (.ret .none)) {s with heap:=h'}) :
 wpAny (model prog w) A (Builtin.«list.sort» ⟨[.ref a],[]⟩) P E s:=by
 have hvl:(valsN zs).length=zs.length:=by simp[valsN]
 have at_:∀k (hk:k<zs.length),pick (0,0) zs k=zs[k]:=λk hk=>by simp[pick,hk]
 refine rF (κ:=oneType') (lt:=λi j=>decide ((pick (0,0) zs i).1<(pick (0,0) zs j).1)) ho (by lia) (λH oth h2=>⟨λQ q=>?_,⟨λi=>by simp,λi j k=>by grind,λi j hi hj e=>?_⟩,λi j C hi hj q=>?_⟩) λp h' c pm so e k=>?_
 .have hkind:keyKind' (valsN zs).toArray=pure oneType':=by
   match zs,(show 2<=zs.length by lia)with
   |z1::z2::r,_=>exact keyKind_ints (rH (z1::z2::r))
  rw[hkind];exact Os q
 .rw[hvl]at hi hj;rw[at_ i hi,at_ j hj];rcases Ru e with q|q
  .have:=OQ.mp nd i j (by grind) (by grind) q;grind
  .have:=OQ.mp nd j i (by grind) (by grind) q;grind
 .rw[hvl]at hi hj;unfold kas_ask;have one:∀k (hk:k<zs.length),(valsN zs).getD k Value.none=.int zs[k].1 zs[k].2:=λk hk=>by simp[valsN,hk]
  rw[one i hi,one j hj,keyLt'_oneType];dsimp only at q;rw[at_ i hi,at_ j hj]at q;exact oneLt_int q
 .rw[hvl]at pm so;refine h (p.toList.map (pick (0,0) zs)) h' c (om _ pm) ((vD (r:=λx y=>decide (x.1<y.1)) pm so).imp λh=>P7 h) ?_ k;rw[e];unfold valsN;rw[rE (0,0) pm]
end
section
theorem jJ:∀ys:List oo,Vals (ys.map λy=>V.int y.1) (valsN ys)
 |[]=>.nil
 |y::ys=>.cons ⟨y.2,rfl⟩ (jJ ys)
def nB(hc:X.calm=true):CallR X (.builtin "sorted") (λvs H Q=>∃p es its,vs=[.ref p]/\H p=some (.ext λh=>SetAt X.w h p es)/\gq (eI X.prog X.w) es its/\its.length<=63/\
 ∀(l:Addr)(ks:List Int),H l=none->(∀k,k∈ks↔k∈its.map (·.1))->ks.Pairwise (·< ·)->Q (.ref l) (upd H l (.lst (ks.map V.int)))):=by
 intro aa s σ H vs us Q I r h;obtain⟨p,es,its,rfl,hp,v,hz,q⟩:=h;obtain⟨u,rfl,ru⟩:=db r;obtain rfl:u=Value.ref p:=ru;obtain⟨hS,_,_⟩:=(show ObjOk X.prog X.w H s.heap p (.ext λh=>SetAt X.w h p es)from I.aF p _ hp);refine i9 hS v IX (I.ok.hd hc) (by decide) (lt:=(·< ·)) (λA E s a n zs P _ ho _ nd hz h=>oq ho nd hz h) hz λys h' tk l c so hyl hle hl hk=>?_;have em:(ys.map (·.1)).map V.int=ys.map λy=>V.int y.1:=by rw[OP];rfl
 refine⟨.ref l,_,I.laid (a:=l) (o:=.lst ((ys.map (·.1)).map V.int)) (t':=tk) hk hle ?_,rfl,q l (ys.map (·.1)) (I.aF.fresh hle) (λk=>?_) (Pi.mpr so.pw)⟩
 .rw[em];exact⟨by rw[Ov,Pg];lia,valsN ys,c,jJ ys,hl⟩
 .constructor
  .intro hk;obtain⟨y,hy,rfl⟩:=OB.mp hk;exact OB.mpr ⟨y,so.sub y hy,rfl⟩
  .intro hk;obtain⟨x,hx,rfl⟩:=OB.mp hk;obtain⟨y,y1,y2⟩:=so.all x hx;exact OB.mpr ⟨y,y1,y2⟩
end
end L2
namespace L2
open PySem PySem.Spec PySem.Calls PyProof.Rows
section
def FL{k:List aG}{dflt:SD}{Q:SD->Sz->Prop}(hu:A.units<cLine)(dh:(tK prog w).is s.heap k a)(hm:s.heap.DictOfH (tK prog w) d xs)(hsz:xs.length<=sizeLine)
 (h1:∀p,atKey xs k=some p->Q p.2 {s with toks:=s.toks+(tK prog w).draws k})
 (h2:atKey xs k=none->∀h',h'.DictOfH (tK prog w) d (storedH xs k a dflt)->Heap.SameBut d s.heap h'->Q dflt {s with heap:=h',toks:=s.toks+(tK prog w).draws k}):wpAny (model prog w) A (dictSetDefault d (.ref a) dflt) Q E s:=by
 obtain⟨o,es,ep,ho,hc,hd,he,his,hn⟩:=hm;unfold dictSetDefault
 try with_reducible refine Pd ?_
 refine KE ((tK prog w).pyHash hu dh (KE (wpAny_dictFind_heap (knd:=tK prog w) (s:={s with toks:=s.toks+(tK prog w).draws k}) hu dh ho hd he his hn (λhno=>?_) λj p hj=>?_)))
 .have hnone:=atKey_none_of_get hno;have hnot:k∉xs.map (·.1):=not_mem_keys_of_get hno;refine KE (Rn (KE (wpAny_updateDictKeys (hz:=by have e:=size_of_entries he;lia) (s:={s with toks:=s.toks+(tK prog w).draws k}) ho hd (Os (h2 hnone _ ⟨_,_,ep+1,PP _ ho (Obj.isFreed_of_dict (Q4 hd _)),hc.mapDictKeys _,Q4 hd _,?_,?_,?_⟩ (O9 ..))))))
  .rw[storedH_new hnone];simp[he,entryOfKey]
  .rw[storedH_new hnone];intro x hx;rcases OF.mp hx with hx|hx
   .exact(tK prog w).keeps (his x hx) ho hd (O9 ..)
   .obtain rfl:=OM.mp hx;exact(tK prog w).keeps dh ho hd (O9 ..)
  .rw[storedH_new hnone,O8,PU];exact⟨hn,by simp,λx hx y hy e=>by simp only[OH,RV,OM]at hy;subst hy;exact hnot (e▸hx)⟩
 .refine KE (Qu (s:={s with toks:=s.toks+(tK prog w).draws k}) ho hd ?_);rw[entry_at he j,hj];exact KE (Rn (Os (h1 p (atKey_of_get hn hj))))
end
section
def Cm:V->List V->Hp->VK->Prop:=λx xs H Q=>∃a b k y kvs,x=.ref a/\xs=[.ref b,y]/\H b=some (.tup (k.map kV))/\H a=some (.dT kvs)/\kvs.length<sizeLine/\
 ((∃v,aL kvs k=some v/\Q v H)\/(aL kvs k=none/\Q y (upd H a (.dT (bp kvs k y)))))
def ou(hu:X.A.units+64<cLine):Fo X "dict.setdefault" Cm:=by
 intro aa s σ H x xs v us Q I rx rs q;obtain⟨a,b,k,y,kvs,rfl,rfl,hb,ha,hz,q⟩:=q;obtain rfl:v=Value.ref a:=rx;obtain⟨u1,u2,rfl,ru1,ru2⟩:=lF rs;obtain rfl:u1=Value.ref b:=ru1;obtain⟨z1,y1,vs,r1,d1⟩:=Ed I.aF ha;have dh:=cO I.aF hb;have hT:Shared.TypeIs s (.ref a) "dict":=by obtain⟨o,es,ep,ho,hc,_⟩:=d1;exact⟨o,ho,hc.1⟩
 refine O_ O4 hT R0 ?_ (RX _ _ _);unfold Builtin.«dict.setdefault»;refine KE ?_;unfold Builtin.Dict.keyAndDefault;refine KE (Qk hT (show wpAny _ _ (pure (a,Value.ref b,some u2)) _ _ s from Os ?_));show wpAny _ _ (if(a==sysModules)=true then _ else(dictSetDefault a (Value.ref b) u2 >>= _)) _ _ s;rw[Ox (by grind)];have bR:vs.length<=sizeLine:=by rw[<- QN r1];exact z1
 have rv:=r1.val k;refine KE (FL (by grind) dh d1 bR (λp hp=>?_) λhn0 h' dd' hs=>?_)
 .rcases q with⟨v,hv,q⟩|⟨hv,q⟩
  .have:RelO (some v) (some p.2):=by rw[<- hv];rw[hp]at rv;exact rv
   exact Os ⟨_,rfl,v,H,I.tok _,this,q⟩
  .have:=rv.cq;rw[hv,hp]at this;cases this
 .rcases q with⟨v,hv,q⟩|⟨hv,q⟩
  .have:=rv.cq;rw[hv,hn0]at this;cases this
  .obtain⟨o',es,ep,hq,h2,h3,h4,_,h5⟩:=dd';have hl:(bp kvs k y).length<=sizeLine:=by have:=cp kvs k y;lia
   have aF:ObjOk X.prog X.w (upd H a (.dT (bp kvs k y))) h' a (.dT (bp kvs k y)):=by refine⟨hl,y1,_,(r1.put k hb ru2).keeps λc ys ec=>?_,o',es,ep,hq,h2,h3,h4,h5⟩;rw[ah (yy ec ha (λz=>nomatch z))];exact ec
   exact Os ⟨_,rfl,y,_,fO (t':=s.toks+(tK X.prog X.w).draws k) I (by rw[ha];exact True.intro) hs ⟨o',hq⟩ aF,ru2,q⟩
def pL:V->List V->Hp->VK->Prop:=λx xs H Q=>∃a b k y kvs,x=.ref a/\xs=[.ref b,y]/\H b=some (.tup (k.map kV))/\(H a=some (.dT kvs)\/(H a=some (.dK [])/\kvs=[]))/\kvs.length<sizeLine/\
 ((∃v,aL kvs k=some v/\Q v H)\/(aL kvs k=none/\Q y (upd H a (.dT (bp kvs k y)))))
def lX(hu:X.A.units+64<cLine):Fo X "dict.setdefault" pL:=by
 intro aa s σ H x xs v us Q I rx rs q;obtain⟨a,b,k,y,kvs,e1,e2,hb,ha,hz,q⟩:=q;rcases ha with ha|⟨ha,rfl⟩
 .exact ou hu aa s σ H x xs v us Q I rx rs ⟨a,b,k,y,kvs,e1,e2,hb,ha,hz,q⟩
 .have nba:b≠a:=yy hb ha (λz=>nomatch z);refine ou hu aa s σ (upd H a (.dT [])) x xs v us Q (I.Na ha) rx rs ⟨a,b,k,y,[],e1,e2,by rw[ah nba];exact hb,ac,hz,.inr ?_⟩;rcases q with⟨v,hv,q⟩|⟨hv,q⟩
  .cases hv
  .have:upd (upd H a (.dT [])) a (.dT (bp [] k y))=upd H a (.dT (bp [] k y)):=by
    funext c;by_cases h:c=a
    .subst h;rw[ac,ac]
    .rw[ah h,ah h,ah h]
   exact⟨hv,by grind⟩
end
def RawD(h:Heap)(d:Addr)(es:Array DictEntry)(ep:Nat):Prop:=∃o,h.get? d=some o/\o.ExactDict/\o.data=.dict es ep
section
variable{prog:SC}{w:World}{A:SE}{s:Sz}{d v it:Addr}{es:Array DictEntry}{ep i:Nat}{ok ov:SD}
def RawD.ty(m:RawD s.heap d es ep):s.TypeIs (.ref d) "dict":=let ⟨o,h,c,_⟩:=m;⟨o,h,c.1⟩
def pM(d:Addr)(hd:(d==sysModules)=false) :
 MeetsIn prog w (Builtin.«dict.items» ⟨[.ref d],[]⟩) (λ_ R s=>(∃es ep,RawD s.heap d es ep)/\R (.ok (.ret (.ref s.heap.objs.size))) { s with heap:=s.heap.push { cls:=.type "dict_items",data:=.fields #[.ref d] } }):=
 .of_wp λA R s ⟨⟨es,ep,m⟩,h⟩=>by unfold Builtin.«dict.items» Builtin.Dict.noArgs;refine KE (KE (Qk m.ty (Os ?_)));show wpAny _ _ (Builtin.Dict.showsAll d >>= _) _ _ s;unfold Builtin.Dict.showsAll;rw[Ox (by rw[hd];simp)];exact KE (Os (KE (Pe (Os ⟨_,rfl,h⟩))))
def rJ(hv:s.heap.IsItemsView v d)(m:RawD s.heap d es ep)
 (hQ:Q (.ref s.heap.objs.size) { s with heap:=s.heap.push { cls:=.type "dict_itemiterator",data:=.fields #[.none,.bool false,.ref d,.int 0 0,.int es.size 0,.int ep 0,.none,.none] } }) :
 wpAny (model prog w) A (pyIter (.ref v)) Q E s:=by
 obtain⟨vo,e1,_,e2⟩:=id hv;obtain⟨o,ho,_,hd⟩:=id m;refine Q2 hv.typeIs F.slot_dict_items_iter (O_ F.slot_dict_items_iter hv.typeIs F.entry_dict_items_iter ?_ (F.args_dict_items_iter_1 _));unfold Builtin.«dict_items.__iter__» Builtin.Dict_items.dictOf Builtin.Dict_items.newIterator;refine KE (Os (KE (KE (RI e1 e2 (x:=.ref d) rfl (Os (KE (KE (Qu ho hd (KE (Ry ho hd ?_))))))))));simp only[show Builtin.Dict_items.ownsTuple "dict_itemiterator"=true by decide,Qy];refine Pe (Os ⟨_,rfl,"dict_itemiterator",_,⟨_,Oy _ rfl,rfl⟩,PH.lookup,?_⟩)
  (by simp only[sizeOk,Builtin.Dict_items.ownedTupleFields,Oz,OC,OV,QI,Pg];lia)
 simpa[rawInt,Builtin.Dict_items.ownedTupleFields]using hQ
def rK(hh:A.handled=none)(y:IsItemIter s.heap it d i es.size ep ok ov)(m:RawD s.heap d es ep)(hi:es.size<=i)(hQ:∀h',Heap.ExtBut it s.heap h'->Q none {s with heap:=h'}):wpAny (model prog w) A (pyNext (.ref it)) Q E s:=by
 obtain⟨o,ho,_,hd⟩:=id m;have hT:s.TypeIs (.ref it) "dict_itemiterator":=⟨_,y,rfl⟩;unfold pyNext;refine KE (R9 (PB (name:=Str.ofString "__next__") hT PH (O_ PH hT F.entry_dict_itemiterator_next ?_ (F.args_dict_itemiterator_next_1 _))));refine KE (Os (KE (KE ?_)))
 first|refine KE (Qm hT (Os ?_))|refine KE (QC hT (Os ?_))
 refine KE (Sk y rfl ?_);simp only[show Builtin.Dict_items.ownsTuple "dict_itemiterator"=true by decide,Qy];show wpAny _ _ (if(Value.ref d==Value.none)=true then _ else _) _ _ s;rw[Ox (show ¬((Value.ref d==Value.none)=true)from OS)];refine KE (Os (KE (Qu ho hd ?_)));rw[Ox (by simp)];refine KE (Os (KE (Ry ho hd ?_)));rw[Ox (by simp)];refine Os ?_;simp only[show ¬((i:Int)<0)from by lia,Pk,QG,Array.getElem?_eq_none hi];refine KE ?_
 first|refine KE (Qm hT (Os ?_))|refine KE (QC hT (Os ?_))
 show wpAny _ _ (setField (.ref it) 2 .none >>= _) _ _ s;refine KE (Ra y rfl (by simp) ?_);show wpAny _ _ (newExc (.type "StopIteration") [] >>= _) _ _ _;refine KE ?_;simp only[newExc,newTuple];refine KE (Pe ?_ (by size_fits));refine KE (m:=firstArgMember _ _) (wpAny_of_eq (a:=Value.none) (by first|rfl|(simp only[firstArgMember];rfl)) ?_);refine Pe ?_ (by size_fits);simp only[raiseNew];refine KE (wpAny_handled ?_);rw[show A.in1.handled=none from hh];refine KE (Os (wpAny_throw ?_));refine KE (QR (T:="StopIteration") (b:=true) ⟨_,Oy _ rfl,rfl⟩ isSubtype_stop ?_);exact Os (hQ _ (((O9 ..).extBut.push _).push _))
def ux(y:IsItemIter s.heap it d i es.size ep ok ov)(m:RawD s.heap d es ep)(he:es[i]?=some e)
 (hQ:∀h',IsItemIterOut h' it d (i+1) es.size ep e.key e.val s.heap.objs.size->h'.get? s.heap.objs.size=some { cls:=.type "tuple",data:=.seq #[e.key,e.val] }->
   (∀b o,b≠it->s.heap.get? b=some o->h'.get? b=some o)->Q (some (.ref s.heap.objs.size)) {s with heap:=h'}):wpAny (model prog w) A (pyNext (.ref it)) Q E s:=by
 obtain⟨hp,g,dr,tk,os⟩:=s;obtain⟨o,ho,_,hd⟩:=id m;have hT:Shared.TypeIs ⟨hp,g,dr,tk,os⟩ (.ref it) "dict_itemiterator":=⟨_,y,rfl⟩;have hil:hp.objs.size≠it:=Qz (OA y);unfold pyNext;refine KE (R9 (PB (name:=Str.ofString "__next__") hT PH (O_ PH hT F.entry_dict_itemiterator_next ?_ (F.args_dict_itemiterator_next_1 _))));refine KE (Os (KE (KE ?_)))
 first|refine KE (Qm hT (Os ?_))|refine KE (QC hT (Os ?_))
 refine KE (Sk y rfl ?_);simp only[show Builtin.Dict_items.ownsTuple "dict_itemiterator"=true by decide,Qy];show wpAny _ _ (if(Value.ref d==Value.none)=true then _ else _) _ _ _;rw[Ox (show ¬((Value.ref d==Value.none)=true)from OS)];refine KE (Os (KE (Qu ho hd ?_)));rw[Ox (by simp)];refine KE (Os (KE (Ry ho hd ?_)));rw[Ox (by simp)];refine Os ?_;simp only[show ¬((i:Int)<0)from by lia,Pk,QG,he];refine KE ?_
 first|refine KE (Qm hT (Os ?_))|refine KE (QC hT (Os ?_))
 refine KE (RF hT ?_);show wpAny _ _ (setField (.ref it) 3 (rawInt ((i:Int)+1)) >>= _) _ _ ⟨hp,g,dr,tk,os⟩;refine KE (QW y (by simp) λh1 y1 s1=>?_);replace s1:Heap.SameBut it hp h1:=s1;replace y1:IsItemIter h1 it d (i+1) es.size ep ok ov:=by
  have q:((i+1:Nat):Int)=(i:Int)+1:=by lia
  unfold IsItemIter;rw[q];simpa[rawInt]using y1
 have hT1:Shared.TypeIs ⟨h1,g,dr,tk,os⟩ (.ref it) "dict_itemiterator":=⟨_,y1,rfl⟩;refine KE (Pd (KE (RF hT1 (KE (RF hT1 ?_)))));show wpAny _ _ (Builtin.Dict_items.pairFromOwner (.ref it) 6 e.key e.val) _ _ ⟨h1,g,dr,tk,os⟩;unfold Builtin.Dict_items.pairFromOwner;refine KE (wpAny_newTuple ?_);have y2:IsItemIter (h1.push { cls:=.type "tuple",data:=.seq #[e.key,e.val] }) it d (i+1) es.size ep ok ov:=Ot _ y1;have t2:(h1.push { cls:=.type "tuple",data:=.seq #[e.key,e.val] }).get? hp.objs.size=some { cls:=.type "tuple",data:=.seq #[e.key,e.val] }:=by rw[<- s1.1];exact Oy _ rfl
 have k2:∀b o,b≠it->hp.get? b=some o->(h1.push { cls:=.type "tuple",data:=.seq #[e.key,e.val] }).get? b=some o:=λb o n q=>Ot _ (s1.extBut b o n q);have z1:h1.objs.size=hp.objs.size:=s1.1;generalize h1.push { cls:=.type "tuple",data:=.seq #[e.key,e.val] }=h2 at y2 t2 k2;show wpAny _ _ (Builtin.Dict_items.ownedTupleIsFree (.ref it) >>= _) _ _ ⟨h2,g,dr,tk,os⟩;rw[z1];clear y1 s1 hT1 z1 h1;refine KE ?_;unfold Builtin.Dict_items.ownedTupleIsFree;refine KE (RI y2 rfl (x:=.none) rfl (Os ?_));simp only[Qy];refine KE (RI y2 rfl (x:=ok) rfl (KE (RI y2 rfl (x:=ov) rfl ?_)));refine KE (QW y2 (by simp) λh3 y3 s3=>?_);replace y3:IsItemIter h3 it d (i+1) es.size ep e.key ov:=y3;refine KE (QW y3 (by simp) λh4 y4 s4=>?_);replace y4:IsItemIter h4 it d (i+1) es.size ep e.key e.val:=y4;refine KE (QW y4 (by simp) λh5 y5 s5=>?_);replace y5:IsItemIterOut h5 it d (i+1) es.size ep e.key e.val hp.objs.size:=y5;refine KE (QW y5 (by simp) λh6 y6 s6=>?_);replace y6:IsItemIterOut h6 it d (i+1) es.size ep e.key e.val hp.objs.size:=y6;have up:∀b o,b≠it->h2.get? b=some o->h6.get? b=some o:=λb o n q=>Rm (show Heap.SameBut it h5 h6 from s6) b o n (Rm (show Heap.SameBut it h4 h5 from s5) b o n (Rm (show Heap.SameBut it h3 h4 from s4) b o n (Rm (show Heap.SameBut it h2 h3 from s3) b o n q)));exact KE (wpAny_letGo (Os (Os ⟨_,rfl,Os (hQ h6 y6 (up _ _ hil t2) λb o n q=>up b o n (k2 b o n q))⟩)))
end
def uy{P:SC}{w:World}{K:SB}{es:List Expr}{k0:Nat}{pos:Pos}{J:It}{d it:Addr}{o:Obj}{u:HO}{en:Array DictEntry}{ep:Nat}(hex:o.ExactDict)(hdat:o.data=.dict en ep)(hgo:∀i H,J.go i H->H d=some (.aV o u))(hst:∀i H,J.stop i H->H d=some (.aV o u)/\en.size<=i)
 (hent:∀H h,HOk P w H h->∀i,J.go i H->∃e y v,en[i]?=some e/\RelV y e.key/\RelV v e.val/\∀p,H p=none->J.yx i H (.ref p) (upd H p (.tup [y,v]))) :
 Turn P w K (.Tuple es k0 pos) J [it] it (λi h=>∃ok ov,IsItemIter h it d i en.size ep ok ov) where
 mem:=by simp
 obj:=λi h st b hb=>by
  have e:b=it:=by simpa using hb
  subst e;obtain⟨ok,ov,e⟩:=st;exact⟨_,e,λv z=>by cases z⟩
 keep:=λi h h' st k=>by obtain⟨ok,ov,e⟩:=st;exact⟨ok,ov,k it (by simp) _ e⟩
 item:=by
  intro X hP hw hK hc i aa s σ H E I hf st hg;subst hP hw hK;have hd:=hgo i H hg;obtain⟨ok,ov,st⟩:=st;obtain⟨eo,_⟩:=(show ObjOk X.prog X.w H s.heap d (.aV o u)from I.aF d _ hd);obtain⟨e,y,v,he,ry,rv,hy⟩:=hent H s.heap I.aF i hg;have fi:=hf it (by simp);refine ux st ⟨o,eo,hex,hdat⟩ he λh' hout hT kp=>?_;refine⟨_,rfl,wpAny_letOwnedTupleGo_items hout λh'' hit'' hs''=>?_⟩;have keep2:∀b o,b≠it->s.heap.get? b=some o->h''.get? b=some o:=λb o n1 q=>(hs''.2 b n1).trans (kp b o n1 q);have hTe:s.heap.objs.size≠it:=Qz (OA st);have hT'':h''.get? s.heap.objs.size=some { cls:=.type "tuple",data:=.seq #[e.key,e.val] }:=(hs''.2 _ hTe).trans hT;have fr:=I.aF.fresh (Ou _);have I1:Inv X aa σ (upd H s.heap.objs.size (.tup [y,v])) {s with heap:=h''}:=by
   refine I.step (g':=s.gens) (d':=s.drawn) (ch:=[it]) (λb hb=>?_) (λb o _ _ hn q _=>keep2 b o (λz=>hn (by simp[z])) q)
    (λb o _ _ hn q _=>⟨o.slots,keep2 b o (λz=>hn (by simp[z])) q⟩) (λb o _ q hH=>by rw[ah (OJ (OA q))];exact hH)
    (λb o hn q=>⟨o,keep2 b o (λz=>hn (by simp[z])) q⟩) (λb ys q=>by rw[ah (ak q fr)];exact q)
    (λb o' u' q=>by rw[ah (ak q fr)];exact q) (λb ps q=>⟨#[],by rw[ah (ak q fr)];simp[q]⟩) (λm hm=>?_) (λb u' q=>?_) I.bare
   .have:b=it:=by simpa using hb
    subst this;exact⟨fi.2.2.2.1,fi.2.1,fi.2.2.2.2.1,fi.2.2.2.2.2⟩
   .obtain⟨o,es',ep,ho',r⟩:=hm;exact⟨o,es',ep,keep2 _ o (PV fi.2.1) ho',r⟩
   .by_cases hb:b=s.heap.objs.size
    .subst hb;rw[ac]at q;cases q;exact⟨by show 2<=sizeLine;decide,[e.key,e.val],.cons ry (.cons rv .nil),⟨_,hT'',rfl,0,rfl⟩⟩
    .rw[ah hb]at q;refine(I.aF b u' q).stay (λc v hc' q'=>keep2 c v ?_ q') (λc r=>by rw[ah (ak r fr)];exact r) λc ys r=>by rw[ah (ak r fr)];exact r
     rcases hc' with z|z
     .rw[z];exact ak q fi.1
     .exact ak z fi.1
  refine⟨.ref s.heap.objs.size,_,I1,rfl,hy _ fr,⟨_,_,hit''⟩,λb hb=>?_⟩;have:b=it:=by simpa using hb
  subst this;rw[ah (OJ (OA st))];exact fi.1
 done:=by intro X hP hw hK hc i aa s σ H E I hf st hg;subst hP hw hK;obtain⟨hd,hi⟩:=hst i H hg;obtain⟨ok,ov,st⟩:=st;obtain⟨eo,_⟩:=(show ObjOk X.prog X.w H s.heap d (.aV o u)from I.aF d _ hd);obtain⟨f0,f1,f2,f3,f4,f5⟩:=hf it (by simp);exact rK (I.ok.hd hc) st ⟨o,eo,hex,hdat⟩ (by lia) λh' eb=>⟨rfl,I.turned (t':=s.toks) (λb o hb e=>eb b o hb e) f0 f1 f3 f4 f5⟩
 self:=λA i s Q E st h=>by obtain⟨ok,ov,st⟩:=st;have hT:s.TypeIs (.ref it) "dict_itemiterator":=⟨_,st,rfl⟩;refine Q2 hT F.slot_dict_itemiterator_iter (O_ F.slot_dict_itemiterator_iter hT (entryFor_alias (id':="dict_keyiterator.__iter__") (by kernel_rfl) rfl (by decide +kernel) (by kernel_rfl):entryFor table "dict_itemiterator.__iter__"=some Builtin.«dict_keyiterator.__iter__») ?_ (F.args_dict_itemiterator_iter_1 _));show wpAny _ _ (ret (.ref it)) _ _ s;exact Os ⟨_,rfl,"dict_itemiterator",_,hT,PH.lookup,h⟩
section
def xh{R:It->Hp->Prop}(I2:Inv X aa σ H2 s1)(e2:H2 d=some (.aV o u))(hd:(d==sysModules)=false)(hex:o.ExactDict)(hdat:o.data=.dict en ep)(hgo:∀i H,J.go i H->H d=some (.aV o u))(hst:∀i H,J.stop i H->H d=some (.aV o u)/\en.size<=i)
 (hent:∀H h,HOk X.prog X.w H h->∀i,J.go i H->∃e y v,en[i]?=some e/\RelV y e.key/\RelV v e.val/\∀p,H p=none->J.yx i H (.ref p) (upd H p (.tup [y,v]))) (q2:R J H2) :
 MethodOn X.prog X.w X.A "items" cpos (.ref d) [] (λv s1=>wX X (pyIter v) (IF X aa σ (.Tuple es k0 KU) R) X.xe s1) X.xe s1:=by
 obtain⟨eo,_⟩:=(show ObjOk X.prog X.w H2 s1.heap d (.aV o u)from I2.aF d _ e2);have hty:s1.TypeIs (.ref d) "dict":=⟨o,eo,hex.1⟩;have hnod:∀a,Value.ref d=.ref a->∃ob,s1.heap.get? a=some ob/\ob.dict=none:=λa e=>by cases e;exact⟨o,eo,hex.2.1⟩
 refine⟨"dict","dict.items",Pc,PySem.F.slot_dict_items,PySem.F.type_dict_items,hty,hnod,QU rfl (PySem.evalArgs_none ?_)⟩;refine Sj PySem.F.slot_dict_items hty PySem.F.entry_dict_items (PySem.F.args_dict_items_1 _) (pM d hd) ⟨⟨en,ep,o,eo,hex,hdat⟩,?_⟩;have I3:Inv X aa σ H2 { s1 with heap:=s1.heap.push { cls:=.type "dict_items",data:=.fields #[.ref d] } }:=I2.kept (t':=s1.toks) λb o e=>Ot _ e;have e3:({ s1 with heap:=s1.heap.push { cls:=.type "dict_items",data:=.fields #[.ref d] } }:Sz).heap.get? d=some o:=Ot _ eo;generalize hs3:({ s1 with heap:=s1.heap.push { cls:=.type "dict_items",data:=.fields #[.ref d] } }:Sz)=s3 at I3 e3;have hv:s3.heap.IsItemsView s1.heap.objs.size d:=by rw[<- hs3];exact⟨_,Oy _ rfl,rfl,rfl⟩
 show wpAny _ _ (pyIter (.ref s1.heap.objs.size)) _ _ _;refine rJ hv ⟨o,e3,hex,hdat⟩ ?_;refine⟨s3.heap.objs.size,[s3.heap.objs.size],_,_,H2,rfl,I3.kept (t':=s3.toks) λb o e=>Ot _ e,uy hex hdat hgo hst hent,⟨_,_,Oy _ rfl⟩,λb hb=>?_,q2⟩;have e:b=s3.heap.objs.size:=by simpa using hb
 subst e;exact I3.nM (Ou _) (I3.aF.fresh (Ou _))
end
def Lh(d:Addr)(o:Obj)(u:HO)(kvs:List (aG×V)):It:=⟨λi H=>H d=some (.aV o u)/\i<kvs.length,λi H x H'=>∃p k v,H p=none/\x=.ref p/\H'=upd H p (.tup [kV k,v])/\kvs[i]?=some (k,v),λi H=>H d=some (.aV o u)/\kvs.length<=i⟩
theorem KV.at(r:KV a b):∀(i:Nat) p q,a[i]?=some p->b[i]?=some q->p.1=q.1/\RelV p.2 q.2:=by
 induction r with
 |nil=>intro i p q e;simp at e
 |cons hq t ih=>
  intro i p q e1 e2;cases i with
  |zero=>simp at e1 e2;subst e1 e2;exact hq
  |succ i=>exact ih i p q (by simpa using e1) (by simpa using e2)
def zn{P:SC}{w:World}{a:List (aG×V)}{b:List (aG×SD)}{l:List DictEntry}(r:KV a b)(q:Pairs (aj P w) l b):l.length=a.length/\∀(i:Nat) p,a[i]?=some p->∃e,l[i]?=some e/\RelV (kV p.1) e.key/\RelV p.2 e.val:=by
 unfold KV at r;induction r generalizing l with
 |nil=>cases q;exact⟨rfl,λi p e=>by simp at e⟩
 |cons h _ ih=>
  cases q with
  |cons h1 h2 q=>
   obtain⟨a,b⟩:=ih q;refine⟨by simp[a],λi p e=>?_⟩;cases i with
   |zero=>simp only[List.getElem?_cons_zero,Ss]at e;subst e;exact⟨_,rfl,by rw[h.1];exact kU h1,by rw[h2];exact h.2⟩
   |succ i=>exact b i p e
section
def FM(X:Cx)(tl:TE):TI:=λσ H R=>tl σ H λx H1=>∃d kvs u,x=.ref d/\(u=.dK kvs\/(u=.dT []/\kvs=[]))/\((∃o,H1 d=some (.aV o u)/\R (Lh d o u kvs) H1)\/(H1 d=some u/\∀o,(∀o' v,X.H₀ d≠some (.aV o' v))->R (Lh d o u kvs) (upd H1 d (.aV o u))))
def zp{tl:TE}{apos cpos:Pos}(hl:PE X l tl)(hbase:autoParam (attributeBase l "items" X.env (eval l X.env)=eval l X.env) SN) (hline:autoParam ((apos.endLine==cpos.line)=true) SN):PI X (.Tuple es k0 KU) (.Call (.Attribute l "items" apos) [] [] cpos) (FM X tl):=by
 intro aa s σ H R I h;refine wpAny_Call_method0_late hbase hline (bQ (hl aa s σ H _ I h) λv s1 ⟨x,H1,I1,r1,q1⟩=>?_);obtain⟨d,kvs,u,e,hu,q⟩:=q1;subst e;cases r1;have Bf:q4 u:=by rcases hu with rfl|⟨rfl,_⟩<;>exact True.intro
 have fin:∀(o:Obj)(H2:Hp),Inv X aa σ H2 s1->H2 d=some (.aV o u)->R (Lh d o u kvs) H2->MethodOn X.prog X.w X.A "items" cpos (.ref d) [] (λv s1=>wX X (pyIter v) (IF X aa σ (.Tuple es k0 KU) R) X.xe s1) X.xe s1:=λo H2 I2 e2 q2=>by
  obtain⟨eo,hx⟩:=(show ObjOk X.prog X.w H2 s1.heap d (.aV o u)from I2.aF d _ e2);have key:∀{H h},HOk X.prog X.w H h->H d=some (.aV o u)->(d==sysModules)=false/\∃en ep vs,o.ExactDict/\o.data=.dict en ep/\KV kvs vs/\Pairs (aj X.prog X.w) en.toList vs:=λ{H h} ok e=>by
   obtain⟨eo,hx⟩:=(show ObjOk X.prog X.w H h d (.aV o u)from ok d _ e);have key:(d==sysModules)=false/\∃vs,KV kvs vs/\h.DictOf (aj X.prog X.w) d vs:=by
    rcases hu with rfl|⟨rfl,rfl⟩
    .exact hx.2
    .obtain⟨hd,dd⟩:=iC hx;exact⟨hd,[],.nil,dd⟩
   obtain⟨hd,vs,rel,o',en,ep,eo',hex,hdat,_,hpr,_⟩:=key;rw[eo]at eo';cases eo';exact⟨hd,en,ep,vs,hex,hdat,rel,hpr⟩
  obtain⟨hd,en,ep,vs,hex,hdat,rel,hpr⟩:=key I2.aF e2;refine xh (J:=Lh d o u kvs) I2 e2 hd hex hdat (λi H h=>h.1) (λi H h=>⟨h.1,?_⟩) (λH h ok i g=>?_) q2
  .rw[<- Pt,(zn rel hpr).1];exact h.2
  .obtain⟨_,g⟩ : _/\i<kvs.length:=g;have hk:kvs[i]?=some kvs[i]:=by simp[g]
   obtain⟨e,h1,h2,h3⟩:=(zn rel hpr).2 i _ hk;exact⟨e,kV kvs[i].1,kvs[i].2,by rw[<- OU];exact h1,h2,h3,λp hp=>⟨p,_,_,hp,rfl,rfl,hk⟩⟩
 rcases q with⟨o,e1,q⟩|⟨e1,q⟩
 .exact fin o H1 I1 e1 q
 .have hob:∃o,s1.heap.get? d=some o:=by
   rcases hu with rfl|⟨rfl,_⟩
   .obtain⟨_,_,_,_,o,_,_,ho,_⟩:=(show ObjOk X.prog X.w H1 s1.heap d (.dK kvs)from I1.aF d _ e1);exact⟨o,ho⟩
   .obtain⟨_,_,_,_,o,_,_,ho,_⟩:=(show ObjOk X.prog X.w H1 s1.heap d (.dT [])from I1.aF d _ e1);exact⟨o,ho⟩
  obtain⟨o,ho⟩:=hob;exact fin o _ (I1.aV e1 Bf ho) ac (q o (I1.ET e1 Bf))
end
section
def rListD:List V->Hp->VK->Prop:=λxs H Q=>∃d kvs u,xs=[.ref d]/\(u=.dK kvs\/(u=.dT []/\kvs=[]))/\Rd H d u/\kvs.length<=sizeLine/\∀l,H l=none->Q (.ref l) (upd H l (.lst (kvs.map λp=>kV p.1)))
theorem vE:∀{vs:List V}{its:List SD},vs.length=its.length->(∀(i:Nat) v u,vs[i]?=some v->its[i]?=some u->RelV v u)->Vals vs its
 |[],[],_,_=>.nil
 |[],_::_,e,_=>by cases e
 |_::_,[],e,_=>by cases e
 |v::vs,u::its,e,f=>.cons (f 0 v u rfl rfl) (vE (by simpa using e) λi w z a b=>f (i+1) w z (by simpa using a) (by simpa using b))
def uz(hc:X.calm=true):CallR X (.type "list") rListD:=by
 intro aa s σ H xs us Q I r h;obtain⟨d,kvs,u,rfl,hu,hrd,hz,q⟩:=h;obtain⟨w,rfl,rx⟩:=db r;cases rx;have hx:=hrd.ok I.aF;have key:(d==sysModules)=false/\∃vs,KV kvs vs/\s.heap.DictOf (aj X.prog X.w) d vs:=by
  rcases hu with rfl|⟨rfl,rfl⟩
  .obtain⟨z,hd,vs,rel,dd⟩:=hx;exact⟨hd,vs,rel,dd⟩
  .obtain⟨hd,dd⟩:=iC hx;exact⟨hd,[],.nil,dd⟩
 obtain⟨hd,vs,rel,dd⟩:=key;obtain⟨ep,da⟩:=dd.dictAt;have hl:=rel.length;refine PySem.W.kdl_call (PySem.W.kdl_dict (knd:=aj X.prog X.w) (kvs:=vs) (ep:=ep) hd) (I.ok.hd hc) da (by rw[<- hl];exact hz) λh' tk acc c' kp e it=>?_;obtain⟨i1,i2⟩:=it;have la:acc.toList.length=kvs.length:=by rw[Pt,i1,hl]
 have rv:Vals (kvs.map λp=>kV p.1) acc.toList:=by
  refine vE (by rw[Ov,la]) λi v w ev ew=>?_;rw[OI]at ev;cases ek:kvs[i]? with
  |none=>rw[ek]at ev;cases ev
  |some p=>rw[ek]at ev;cases ev;obtain⟨k,x,e1,e2⟩:=i2 i w (by rw[<- OU];exact ew);obtain⟨ek',_⟩:=rel.at i _ _ ek e1;show RelV (kV p.1) w;rw[show p.1=k from ek'];exact kU e2
 have e:h'.get? s.heap.objs.size=some { cls:=.type "list",dict:=none,data:=.seq acc.toList.toArray c',slots:=#[] }:=by rw[Array.toArray_toList];exact e
 exact⟨.ref s.heap.objs.size,_,I.laid (t':=tk) kp (Ou _) (show ObjOk X.prog X.w _ h' _ (.lst (kvs.map λp=>kV p.1))from⟨by rw[Ov];exact hz,acc.toList,c',rv,e⟩),rfl,q _ (I.aF.fresh (Ou _))⟩
end
noncomputable def rL:List Int->Int
 |[]=>0
 |x::r=>r.foldl (λa b=>if b<a then b else a) x
def xi(h:l≠[])(z:Int):rL (l++[z])=if z<rL l then z else rL l:=by
 cases l with
 |nil=>exact(h rfl).elim
 |cons x r=>show(r++[z]).foldl _ x=_;rw[Q3];rfl
theorem rM(xs:Array (Int×Tok)):∀k,k<xs.size->numAt xs (argBest (λi j=>decide (numAt xs i<numAt xs j)) k)=rL ((xs.toList.map (·.1)).take (k+1))
 |0,h=>by
  have e:xs.toList.map (·.1)≠[]:=λz=>by have:=Qn List.length z;simp at this;rw[this]at h;simp at h
  cases q:xs.toList.map (·.1)with
  |nil=>exact(e q).elim
  |cons y r=>
   have:(xs[0]?.map (·.1))=some y:=by rw[<- OU,<- OI,q];rfl
   show numAt xs 0=y;unfold numAt;rw[this];rfl
 |k+1,h=>by
  have ih:=rM xs k (by lia);have ez:(xs.toList.map (·.1))[k+1]?=some (numAt xs (k+1)):=by rw[OI,OU];unfold numAt;rw[Array.getElem?_eq_getElem h];rfl
  have et:(xs.toList.map (·.1)).take (k+1+1)=(xs.toList.map (·.1)).take (k+1)++[numAt xs (k+1)]:=by rw[List.take_succ,ez];rfl
  have ne:(xs.toList.map (·.1)).take (k+1)≠[]:=λz=>by have h9:=Qn List.length z;rw[PQ,Ov,Pt,QI]at h9;lia
  rw[et,xi ne,<- ih];show numAt xs (if(decide (numAt xs (k+1)<numAt xs (argBest _ k)))=true then k+1 else argBest _ k)=_;by_cases hl:numAt xs (k+1)<numAt xs (argBest (λi j=>decide (numAt xs i<numAt xs j)) k)
  .rw[Ow (OT hl),Ow hl]
  .rw[Ox (by simpa using hl),Ox hl]
theorem lY:∀{ns:List Int}{its:List SD},Vals (ns.map V.int) its->∃ps:List (Int×Tok),its=ps.map (λp=>.int p.1 p.2)/\ps.map (·.1)=ns
 |[],_,h=>by cases h;exact⟨[],rfl,rfl⟩
 |n::ns,_,h=>by
  cases h with
  |cons r rr=>obtain⟨t,rfl⟩:=r;obtain⟨ps,rfl,e⟩:=lY rr;exact⟨(n,t)::ps,rfl,by rw[OH,e]⟩
def xj(hc:X.calm=true):CallR X (.builtin "min") (λxs H Q=>∃p ns,xs=[.ref p]/\SqL X.K H p (ns.map V.int)/\ns≠[]/\Q (.int (rL ns)) H):=by
 intro aa s σ H xs us Q I r h;obtain⟨p,ns,rfl,hq,hne,q⟩:=h;obtain⟨u,rfl,rx⟩:=db r;cases rx;obtain⟨its,rv,pl,hz⟩:=I.list hq;obtain⟨ps,rfl,e⟩:=lY rv;have hl:s.heap.IsList p (intItems ps.toArray):=by
  have:intItems ps.toArray=(ps.map (λp=>Value.int p.1 p.2)).toArray:=by simp[intItems]
  rw[this];exact pl.isList
 have hpos:0<ps.toArray.size:=by
  cases ps with
  |nil=>exact(hne e.symm).elim
  |cons _ _=>simp
 refine min_intList (I.ok.hd hc) hl hpos λv h' tk ev kp=>?_;obtain⟨t,rfl⟩:=intItems_at ev;rw[rM ps.toArray _ (by lia)];have ef:(ps.toArray.toList.map (·.1)).take (ps.toArray.size-1+1)=ns:=by rw[RE (by simp;lia)];simpa using e
 rw[ef];exact⟨.int (rL ns),H,I.kept (t':=tk) kp,⟨t,rfl⟩,q⟩
end L2
namespace L2
open PySem PySem.Spec PySem.Calls PyProof.Rows ST
section
variable{prog:SC}{w:World}{A:SE}{E:SD->Sz->Prop}{s:Sz}
def rN(K:PySem.W.KdlSrc prog w T r d n P OK)(hh:A.handled=none)(aF:OK s.heap)(hn:n<=sizeLine)
 (h:∀h' tk (acc:Array SD),s.heap.objs.size<h'.objs.size->(∀b o,s.heap.get? b=some o->h'.get? b=some o)->ItemsOf P acc n->Q acc.toList {s with heap:=h',toks:=tk}):wpAny (model prog w) A (collect (.ref r)) Q E s:=by
 have hlt:=K.there _ aF;have hS:(s.heap.push (seqObj "list" #[] 0)).get? s.heap.objs.size=some (seqObj "list" #[] 0):=Oy _ rfl;have key:∀R:Result->Sz->Prop,(∀h' tk (acc:Array SD) c,(∀b o,b≠s.heap.objs.size->(s.heap.push (seqObj "list" #[] 0)).get? b=some o->h'.get? b=some o)->h'.get? s.heap.objs.size=some { cls:=.type "list",dict:=none,data:=.seq acc c,slots:=#[] }->ItemsOf P acc n->R (.ok (.ret (.ref s.heap.objs.size))) {s with heap:=h',toks:=tk})->
  codeAny (model prog w) A (.builtin "list.__iadd__" ⟨[.ref s.heap.objs.size,.ref r],[]⟩) R { s with heap:=s.heap.push (seqObj "list" #[] 0) }:=λR hR=>PN entry_list_iadd' (by
  rw[PX (show plainId "list.__iadd__"=true by decide +kernel) _];exact PySem.W.kdl_extend (s:={ s with heap:=s.heap.push (seqObj "list" #[] 0) }) K hh (K.keep _ _ aF λb _ o e=>Ot _ e) s.heap.objs.size (Qz hlt.1) (Qz hlt.2) (.ref s.heap.objs.size) 0 hS hR hn)
 unfold collect;refine KE (wpAny_runValue (PN entry_proto_collect' (show wpAny _ _ (do again (.builtin "list.__iadd__" ⟨[<- newList [],.ref r],[]⟩)) _ _ s from ?_)));refine KE (R_ (Os ⟨Code.quiet_builtin _ (by decide +kernel),key _ λh' tk acc c kp hS' hacc=>?_⟩));refine KE (wpAny_load hS' ?_);show wpAny _ _ (pure acc.toList) _ _ _;exact Os (h h' tk acc (OA hS') (λb o e=>kp b o (OJ (OA e)) (Ot _ e)) hacc)
end
section
variable{X:Cx}
theorem oz:∀{is:List Int}{us:List SD},us.length=is.length->(∀(i:Nat)(n:Int) u,is[i]?=some n->us[i]?=some u->RelV (.int n) u)->∃zs:List oo,us=valsN zs/\zs.map (·.1)=is
 |[],[],_,_=>⟨[],rfl,rfl⟩
 |[],_::_,e,_=>by cases e
 |_::_,[],e,_=>by cases e
 |n::is,u::us,e,f=>by obtain⟨t,rfl⟩:=f 0 n u rfl rfl;obtain⟨zs,h1,h2⟩:=oz (is:=is) (us:=us) (by simpa using e) λi m v a b=>f (i+1) m v (by simpa using a) (by simpa using b);exact⟨(n,t)::zs,by rw[h1];rfl,by rw[OH,h2]⟩
def nC(hc:X.calm=true):CallR X (.builtin "sorted") (λxs H Q=>∃(d:Addr)(kvs:List (aG×V))(u:HO)(is:List Int),xs=[.ref d]/\(u=.dK kvs\/(u=.dT []/\kvs=[]))/\Rd H d u/\kvs.map (·.1)=is.map Sum.inl/\is.length<=63/\
 ∀(l:Addr)(ks:List Int),H l=none->(∀k,k∈ks↔k∈is)->ks.Pairwise (·< ·)->Q (.ref l) (upd H l (.lst (ks.map V.int)))):=by
 intro aa s σ H xs us Q I r h;obtain⟨d,kvs,u,is,rfl,hu,hrd,hk,hz,q⟩:=h;obtain⟨w,rfl,rx⟩:=db r;cases rx;have hx:=hrd.ok I.aF;have key:(d==sysModules)=false/\∃vs,KV kvs vs/\s.heap.DictOf (aj X.prog X.w) d vs:=by
  rcases hu with rfl|⟨rfl,rfl⟩
  .obtain⟨z,hd,vs,rel,dd⟩:=hx;exact⟨hd,vs,rel,dd⟩
  .obtain⟨hd,dd⟩:=iC hx;exact⟨hd,[],.nil,dd⟩
 obtain⟨hd,vs,rel,dd⟩:=key;obtain⟨ep,da⟩:=dd.dictAt;have hl:=rel.length;have hki:kvs.length=is.length:=by have:=Qn List.length hk;simpa using this
 have hnd:(vs.map (·.1)).Nodup:=by obtain⟨_,_,_,_,_,_,_,_,nd⟩:=dd;exact nd
 have hvk:vs.map (·.1)=is.map Sum.inl:=by
  rw[<- hk];apply QK
  intro i;rw[OI,OI];cases e:kvs[i]? with
  |none=>rw[Px (by rw[<- hl];exact List.getElem?_eq_none_iff.mp e)];rfl
  |some p=>
   have hi:i<vs.length:=by rw[<- hl];exact(OG.mp e).1
   obtain⟨e1,_⟩:=rel.at i _ _ e (OL hi);rw[OL hi];exact Qn some e1.symm
 have ndI:is.Nodup:=by rw[hvk]at hnd;unfold List.Nodup at hnd ⊢;rw[Pi]at hnd;exact hnd.imp λ{a b} hab z=>hab (by rw[z])
 refine Rb kind_sorted plain_sorted entry_sorted (args_sorted1 _) ?_;unfold Builtin.«sorted»;refine KE (m:=checkCount "sorted" 1 1 _) (Os (KE (rN (PySem.W.kdl_dict (knd:=aj X.prog X.w) (kvs:=vs) (ep:=ep) hd) (I.ok.hd hc) da (by rw[<- hl,hki,Pg];lia) λh1 tk1 acc g1 k1 it=>?_)));obtain⟨i1,i2⟩:=it;obtain⟨zs,ez,ezk⟩:=oz (is:=is) (us:=acc.toList) (by rw[Pt,i1,<- hl,hki]) λi n v en ev=>by
  obtain⟨k,x,e1,e2⟩:=i2 i v (by rw[<- OU];exact ev);have:(vs.map (·.1))[i]?=some k:=by rw[OI,e1];rfl
  rw[hvk,OI,en]at this;cases this;exact kU e2
 rw[ez];have hzl:zs.length=is.length:=by have:=Qn List.length ezk;simpa using this
 refine KE (R_ ?_ (by show(valsN zs).length<=_;simp only[valsN,Ov];rw[hzl,Pg];lia));have hoL:(h1.push (seqObj "list" (valsN zs).toArray 0)).get? h1.objs.size=some (seqObj "list" (valsN zs).toArray 0):=Oy _ rfl;have kk:∀b o,s.heap.get? b=some o->(h1.push (seqObj "list" (valsN zs).toArray 0)).get? b=some o:=λb o e=>Ot _ (k1 b o e);have ge:s.heap.objs.size<=h1.objs.size:=P_ g1;refine KE (Pd (O_ slot_list_sort ⟨_,hoL,rfl⟩ entry_list_sort ?body (args_list_sort _)))
 case body=>
  refine oq (s:={ s with heap:=h1.push (seqObj "list" (valsN zs).toArray 0),toks:=tk1 }) hoL (by rw[ezk];exact ndI) (by lia) λys h2 c2 hp hw hl2 k2=>⟨_,rfl,?_⟩;have hf:H h1.objs.size=none:=I.aF.fresh ge;have em:(ys.map (·.1)).map V.int=ys.map λy=>V.int y.1:=by rw[OP];rfl
  refine Os ⟨_,rfl,.ref h1.objs.size,_,I.laid (a:=h1.objs.size) (o:=.lst ((ys.map (·.1)).map V.int)) (t':=tk1) (λb o e=>k2 b o (λz=>?_) (kk b o e)) ge ?_,rfl,q h1.objs.size (ys.map (·.1)) hf (λk=>?_) (by rw[Pi];exact hw)⟩
  .subst z;exact absurd (OA e) (Sx.mpr ge)
  .rw[em];exact⟨by rw[Ov,Pg,hp.length_eq];lia,valsN ys,c2,jJ ys,hl2⟩
  .rw[(hp.map (·.1)).mem_iff,ezk]
end
end L2
namespace L2
open PySem PySem.Spec PyProof.Rows
open Sem (wp)
open Builtin
open Sem (wp)
open Builtin
noncomputable def lZ(kts:List (Addr×List V))(a:Addr)(o:Obj)(ns:List Int):Hp:=λb=>match kts.lookup b with
 |some xs=>some (.tup xs)
 |none=>if b=a then some (.aV o (.lst (ns.map V.int)))else none
section
def Co(e:kts.lookup b=some xs):lZ kts a o ns b=some (.tup xs):=by unfold lZ;rw[e]
def Cp(e:kts.lookup a=none):lZ kts a o ns a=some (.aV o (.lst (ns.map V.int))):=by unfold lZ;rw[e];exact Ow rfl
def Cq(e:kts.lookup b=none)(n:b≠a):lZ kts a o ns b=none:=by unfold lZ;rw[e];exact Ox n
end
theorem i_:∀{vs:List SD}{ns:List Int},IntsAre vs ns->Vals (ns.map V.int) vs
 |_,_,.nil=>.nil
 |_,_,.cons n t h=>.cons ⟨t,rfl⟩ (i_ h)
def xk{P:SC}{w:World}{K:SB}{mg mb:Str->Option SD}{CX:Br}{k:Nat}{fa a:Addr}{fd:FuncData}{x:Str}{sp:Sp}{s₁:Sz}{vs:List SD}{ns:List Int}{kts:List (Addr×List V)}
 (KX:K.In s₁.heap) (hns:s₁.heap.Ns mainGlobals mg) (hb:s₁.heap.Ns builtinsNs mb) (hbb:∀x:Str,x≠"__name__"->mb x=bootBuiltins x) (hlim:s₁.heap.NoLimit) (hg:s₁.gens=#[])
 (ha:s₁.heap.get? a=some { cls:=.type "list",data:=.seq vs.toArray }) (hi:IntsAre vs ns) (hl:ns.length<=sizeLine) (hr:cI k callerA)
 (hK:∀o,K.lookup a=some o->o.cls=.type "list"->False)
 (hT:∀b xs,kts.lookup b=some xs->K.lookup b=none/\∃(o:Obj)(its:Array SD)(n:Nat),s₁.heap.get? b=some o/\o.cls=.type "tuple"/\o.data=.seq its n/\its.size<=sizeLine/\Vals xs its.toList)
 (hM:∀p∈K,∀b xs,BH p.2=some (b,xs)->kts.lookup b=some xs)
 (F:∀base:Heap,K.In base->base.Ns mainGlobals mg->bu P w K mg base CX k fa fd [x] sp) (hbind:∀(s:Sz)(u:SD),BindsTo s fd ⟨[u],[]⟩ [(x,u)])
 (hsp:∀H:Hp,(∃o,H a=some (.aV o (.lst (ns.map V.int))))->sp [.ref a] H (λv _=>v=.bl true) λ_ _ _=>False)
 (hCX:∀H e s',CX [] H s₁ (λ_ _ _=>False) e s'->False) :
 codeAny (model P w) callerA (.call (.ref fa) ⟨[.ref a],[]⟩) (λr s'=>r=.ok (.ret (.bool true))/\OldK s₁.heap s'.heap/\s'.os=s₁.os/\AllBare s'.gens) s₁:=by
 have rv:=i_ hi;have noK:K.lookup a=none:=by
  cases q:K.lookup a with
  |none=>rfl
  |some o=>have e:=KX a o q;rw[ha]at e;cases e;exact(hK _ q rfl).elim
 have noT:kts.lookup a=none:=by
  cases q:kts.lookup a with
  |none=>rfl
  |some xs=>obtain⟨_,o,its,n,e,c,_⟩:=hT a xs q;rw[ha]at e;cases e;exact absurd c (by simp)
 obtain⟨ob,eob⟩ : ∃ob:Obj,ob={ cls:=.type "list",data:=.seq vs.toArray }:=⟨_,rfl⟩;rw[<- eob]at ha;generalize eH:lZ kts a ob ns=H;have Ha:H a=some (.aV ob (.lst (ns.map V.int))):=by rw[<- eH];exact Cp noT
 have Ht:∀b xs,kts.lookup b=some xs->H b=some (.tup xs):=λb xs e=>by rw[<- eH];exact Co e
 have Hn:∀b,kts.lookup b=none->b≠a->H b=none:=λb e n=>by rw[<- eH];exact Cq e n
 have freeK:∀b o,K.lookup b=some o->H b=none:=λb o e=>by
  refine Hn b ?_ λz=>by rw[z,noK]at e;cases e
  cases q:kts.lookup b with
  |none=>rfl
  |some xs=>rw[(hT b xs q).1]at e;cases e
 have freeD:∀(b:Addr)(o:Obj)(es:Array DictEntry)(ep:Nat),s₁.heap.get? b=some o->o.data=.dict es ep->H b=none:=λb o es ep e d=>by
  refine Hn b ?_ λz=>?_
  .cases q:kts.lookup b with
   |none=>rfl
   |some xs=>obtain⟨_,o',its,n,e',_,d',_⟩:=hT b xs q;rw[e]at e';cases e';rw[d]at d';cases d'
  .rw[z,ha]at e;cases e;rw[eob]at d;cases d
 have nsK:∀{b:Addr}{m:Str->Option SD},s₁.heap.Ns b m->(qM s₁.heap H).Ns b m:=λ{b m} ⟨o,es,ep,e,d,r⟩=>⟨o,es,ep,qN e (freeD b o es ep e d),d,r⟩;have hKb:K.In (qM s₁.heap H):=λb o e=>qN (KX b o e) (freeK b o e);have hMd:Mod K mg (qM s₁.heap H):=⟨hKb,nsK hns,⟨mb,nsK hb,hbb⟩,let ⟨mc,h1,h2⟩:=hlim;⟨mc,nsK h1,h2⟩⟩;have aF:HOk P w H s₁.heap:=λb u e=>by
  cases q:kts.lookup b with
  |some xs=>rw[Ht b xs q]at e;cases e;obtain⟨_,o,its,n,e1,c,d,z,r⟩:=hT b xs q;refine⟨by rw[r.length];simpa using z,its.toList,r,o,e1,c,n,by simpa using d⟩
  |none=>
   by_cases hba:b=a
   .rw[hba,Ha]at e;cases e;rw[hba];exact⟨ha,by rw[Ov];exact hl,vs,_,rv,by rw[ha,eob]⟩
   .rw[Hn b q hba]at e;cases e
 have e0:ve P w K mg (qM s₁.heap H) callerA [] s₁ H:=⟨rfl,hMd,λb o e=>BF e,Nat.le_of_eq (wG _ _),trivial,λb hb=>absurd (show b∈([]:List Addr)from hb) (by simp),aF,.of_eq hg,λp hp b xs e=>Ht b xs (hM p hp b xs e)⟩;refine RT ((F _ hKb (nsK hns)).run callerA [] s₁ H ⟨[.ref a],[]⟩ [.ref a] [.ref a] _ _ hr e0 (hbind s₁ (.ref a)) (.cons rfl .nil) (hsp H ⟨ob,Ha⟩)) λr s' h=>?_;cases r with
 |error e=>exact(hCX H e s' h).elim
 |ok fl=>
  cases fl with
  |next=>exact False.elim h
  |brk=>exact False.elim h
  |cont=>exact False.elim h
  |ret u=>
   obtain⟨v,H',os,bare,un,hok',r',q⟩:=h;have q':v=.bl true:=q;subst q';obtain rfl:u=Value.bool true:=r';refine⟨rfl,OldK.of_keep λb o e=>?_,os,bare⟩;by_cases hba:b=a
   .rw[hba]at e ⊢;have z2:=un.jY a ob _ Ha;obtain⟨e2,_⟩:=hok' a _ z2;rw[ha]at e;cases e;exact e2
   .refine un.keep b o e ?_ (by intro z;exact absurd (show b∈([]:List Addr)from z) (by simp)) (by simp);cases q:kts.lookup b with
    |none=>exact .inl (Hn b q hba)
    |some xs=>exact .inr ⟨xs,Ht b xs q⟩
section
variable{K K':SB}
def LQ(K:SB):Bool:=K.all λp=>(BH p.2).isNone
structure tq(K K':SB):Prop where
 look:∀b o,K.lookup b=some o->(∀its n,o.data≠.seq its n)->K'.lookup b=some o
def xl:tq K K:=⟨λ_ _ e _=>e⟩
def tq.code(S:tq K K')(h:codeIn K cd q=true):codeIn K' cd q=true:=by
 unfold codeIn at h ⊢;cases cd with
 |ref c=>
  dsimp only at h ⊢;cases e:K.lookup c with
  |none=>rw[e]at h;cases h
  |some o=>
   obtain⟨o1,o2,o3,o4⟩:=o;cases o3 with
   |fields vs=>rw[S.look c _ e (λ_ _ z=>nomatch z)];rw[e]at h;exact h
   |_=>rw[e]at h;cases h
 |_=>cases h
def tq.keep(S:tq K K')(e:K.lookup f=some ⟨o1,o2,.func fd,o4⟩):keepIn K' (.ref f)=true:=by unfold keepIn;dsimp only;rw[S.look f _ e (λ_ _ z=>nomatch z)]
end
noncomputable def vF:SD->Bool
 |.type n=>n=="list"
 |_=>false
def LR(K:SB):Bool:=K.all λp=>!vF p.2.cls
theorem zq:∀{K:SB},LR K=true->K.lookup a=some o->o.cls=.type "list"->False
 |[],_,e,_=>by cases e
 |(b,x)::r,h,e,c=>by
  unfold LR at h;rw[List.all_cons,Pa]at h;rw[QS]at e;split at e
  .cases e;rw[c]at h;have h1:=h.1;simp[vF]at h1
  .exact zq (K:=r) h.2 e c
section
variable{l:PySem.W.OpenLaw}{K:Params->SB}{CX:World->Br}{sp:World->Sp}
def zt(hn:l.most=some n)(hn2:n<=sizeLine)(hdf:d.params.defaults=[])(hr:cI k callerA)(hY:∀(w:World)(h:Heap),YP w h->(K w.params).In h)
 (hL:∀w:World,LR (K w.params)=true/\LQ (K w.params)=true)
 (F:∀(w:World)(mg:Str->Option SD)(fa:Addr)(h:Heap),(K w.params).In h->h.Ns mainGlobals mg->mg d.name=some (.ref fa)->
   ∃fd:FuncData,(∀(s:Sz)(u:SD),BindsTo s fd ⟨[u],[]⟩ [(x,u)])/\∀base:Heap,(K w.params).In base->base.Ns mainGlobals mg->bu l.prog w (K w.params) mg base (CX w) k fa fd [x] (sp w))
 (hsp:∀(w:World)(H:Hp)(a:Addr)(ns:List Int),ns.length<=n->(∃o,H a=some (.aV o (.lst (ns.map V.int))))->sp w [.ref a] H (λv _=>v=.bl true) λ_ _ _=>False)
 (hCX:∀(w:World)(H:Hp)(s:Sz)(e:SD)(s':Sz),CX w [] H s (λ_ _ _=>False) e s'->False) :
 PySem.W.WalkO q loose XP YP l.row.toRowW d [] (λf vs=>PySem.call f vs):=by
 refine Att.attach_call hn hdf λw s₀ s₁ mg mb fa o pm cd doc a vs ns G Y ho hd hcd hmg hobj hints bR hg=>?_;have KX:=hY w _ Y;obtain⟨fd,hb,hF⟩:=F w mg fa _ KX G.T.g hmg;exact xk (kts:=[]) KX G.T.g G.T.b G.T.builtins G.T.nolimit hg hobj hints (O3 bR hn2) hr (λo e c=>zq (hL w).1 e c) (λb xs e=>by cases e)
  (λp hp b xs e=>by have:=PR.mp (hL w).2 p hp;rw[e]at this;cases this) hF hb (λH hS=>hsp w H a ns bR hS) λH e s'=>hCX w H s₁ e s'
end
end L2
namespace L2
open PySem PySem.Spec PySem.Calls PyProof.Rows
abbrev NK:=List (Sum aG (List aG))
section
variable(P:SC)(w:World)
inductive gc(h:Heap):NK->List SD->Prop
 |nil:gc h [] []
 |val {k:aG} {v:SD} {ks:NK} {vs:List SD}:(aj P w).is k v=true->gc h ks vs->gc h (.inl k::ks) (v::vs)
 |tup {k:List aG} {b:Addr} {ks:NK} {vs:List SD}:(tupleKind (aj P w)).is h k b->gc h ks vs->gc h (.inr k::ks) (.ref b::vs)
def IsN(h:Heap)(ks:NK)(a:Addr):Prop:=∃o items n,h.get? a=some o/\o.cls=.type "tuple"/\o.data=.seq items n/\gc P w h ks items.toList
def yq:Sum aG (List aG)->Int
 |.inl k=>(aj P w).hash k
 |.inr ks=>tupleKeyHash (aj P w) ks
noncomputable def IZ:Sum aG (List aG)->Nat
 |.inl _=>1
 |.inr ks=>ks.length+1
def nDrs(ks:NK):Nat:=(ks.map IZ).sum
end
section
variable{P:SC}{w:World}{h h':Heap}{A:SE}{E:SD->Sz->Prop}{s:Sz}
theorem gc.inj(hx:gc P w h x vs)(hy:gc P w h y vs):x=y:=by
 induction hx generalizing y with
 |nil=>cases hy;rfl
 |val h1 _ ih=>
  cases hy with
  |val h2 t2=>rw[(aj P w).inj _ _ _ h1 h2,ih t2]
  |tup h2 t2=>exact absurd ((aj P w).byValue _ _ h1) (by simp[carriedByValue])
 |tup h1 _ ih=>
  cases hy with
  |val h2 t2=>exact absurd ((aj P w).byValue _ _ h2) (by simp[carriedByValue])
  |tup h2 t2=>rw[(tupleKind (aj P w)).inj h1 h2,ih t2]
def gc.len(hx:gc P w h x vs):x.length=vs.length:=by
 induction hx with
 |nil=>rfl
 |val _ _ ih=>simp[ih]
 |tup _ _ ih=>simp[ih]
def gc.mono(m:∀k b,(tupleKind (aj P w)).is h k b->(tupleKind (aj P w)).is h' k b)(hx:gc P w h x vs):gc P w h' x vs:=by
 induction hx with
 |nil=>exact .nil
 |val a _ ih=>exact .val a ih
 |tup a _ ih=>exact .tup (m _ _ a) ih
def IsN.ty(x:IsN P w s.heap ks a):s.TypeIs (.ref a) "tuple":=let ⟨o,_,_,ho,hc,_⟩:=x;⟨o,ho,hc⟩
theorem IsN.inj(hx:IsN P w h x a)(hy:IsN P w h y a):x=y:=by obtain⟨o,items,n,ho,_,hd,hi⟩:=hx;obtain⟨o',items',n',ho',_,hd',hi'⟩:=hy;obtain rfl:o=o':=PC (ho.symm.trans ho');rw[hd]at hd';injection hd' with h1 _;subst h1;exact hi.inj hi'
theorem IsN.keeps{es ep}(x:IsN P w h ks a)(ho:h.get? d=some o)(hd:o.data=.dict es ep)(hs:Heap.SameBut d h h'):IsN P w h' ks a:=by
 obtain⟨o',items,n,ho',hc,hd',hi⟩:=x;have hne:a≠d:=by rintro rfl;obtain rfl:o'=o:=PC (ho'.symm.trans ho);rw[hd]at hd';exact nomatch hd'
 exact⟨o',items,n,(hs.2 a hne).trans ho',hc,hd',hi.mono λk b z=>(tupleKind (aj P w)).keeps z ho hd hs⟩
def zu(hu:A.units+1<cLine)(hk:IsN P w s.heap ks a)(h:Q (reduceHash (Builtin.Tuple.tupleHashOf (ks.map (yq P w)))) {s with toks:=s.toks+(nDrs ks+1)}) :
 wpAny (model P w) A (pyHash (.ref a)) Q E s:=by
 have hT:=hk.ty;obtain⟨o,items,n,ho,_,hd,hi⟩:=hk;unfold pyHash
 first|unfold pyHashByItsType|skip
 first|refine KE (wpAny_cRoomFor_or (.inr (by lia)) ?_)|skip
 refine KE (QH hT Qp.lookup ?_);show wpAny _ _ (if(some (Value.builtin "tuple.__hash__")==some Value.none)=true then _ else _) Q E s;rw[Ox (by rw[beq_builtin_none];exact OS)];refine KE (QH hT Qp.lookup ?_);show wpAny _ _ (callSpecialIfBoundUnlessNone? (.ref a) "__hash__" _ >>= _) Q E s;refine KE (wpAny_callSpecialIfBoundUnlessNone?_slot hT Qp (O_ Qp hT PySem.F.entry_tuple_hash ?_ (PySem.F.args_tuple_hash_1 _)));show wpAny _ _ (Builtin.Tuple.tupleItemsOf (.ref a) >>= _) _ _ s;refine KE (wpAny_tupleItemsOf ho hd ?_);refine KE ?_;rw[<- QV];refine QQ _
  (λrest (b:Array Int) s'=>∃done left,ks=done++left/\gc P w s.heap left rest/\b.toList=done.map (yq P w)/\s'={s with toks:=s.toks+nDrs done})
  _ ?_ ?_ _ _ ⟨[],ks,rfl,hi,rfl,rfl⟩
 .rintro x rest b s' ⟨done,left,rfl,hl,hb,rfl⟩;cases hl with
  |@val k _ ks' _ h1 hl'=>
   refine KE ((aj P w).pyHash h1 ?_)
   first
    |exact Os ⟨done++[.inl k],ks',by simp,hl',by simp[hb,yq],by simp[nDrs,IZ,Rz]⟩
    |exact KE (Os (Os ⟨done++[.inl k],ks',by simp,hl',by simp[hb,yq],by simp[nDrs,IZ,Rz]⟩))
  |@tup k c ks' _ h1 hl'=>
   refine KE ((tupleKind (aj P w)).pyHash (show A.units+1<cLine from hu) h1 ?_)
   first
    |exact Os ⟨done++[.inr k],ks',by simp,hl',by simp[hb,yq];rfl,by simp[nDrs,IZ,Rz];rfl⟩
    |exact KE (Os (Os ⟨done++[.inr k],ks',by simp,hl',by simp[hb,yq];rfl,by simp[nDrs,IZ,Rz];rfl⟩))
 .rintro b s' ⟨done,left,rfl,hl,hb,rfl⟩;cases hl;rw[Qj]at h;show wpAny _ _ (retInt (Builtin.Tuple.tupleHashOf b.toList)) _ _ _;rw[hb];refine wpAny_ret_mkInt ?_;show wpAny _ _ (if(decide (-(2:Int)^63<=Builtin.Tuple.tupleHashOf (done.map (yq P w)))&&decide (Builtin.Tuple.tupleHashOf (done.map (yq P w))<2^63))=true then _ else _) Q E _;unfold reduceHash at h;by_cases hr:(decide (-(2:Int)^63<=Builtin.Tuple.tupleHashOf (done.map (yq P w)))&&decide (Builtin.Tuple.tupleHashOf (done.map (yq P w))<2^63))=true
  .rw[Ow hr];rw[Ow hr]at h;exact Os (by simpa[Rz]using h)
  .rw[Ox hr];rw[Ox hr]at h;exact KE (Rn (Os (by simpa[Rz]using h)))
end
def vG{α:Type}[DecidableEq α]:∀(x y:List α),((List.range (min x.length y.length)).all (λj=>decide (x[j]?=y[j]?))&&x.length==y.length)=decide (x=y):=by
 intro x y;rw[PL];simp only[Pa,PR,O5,Qw,Sn];constructor
 .rintro⟨h,l⟩;apply QK
  intro j;by_cases hj:j<min x.length y.length
  .exact h j hj
  .rw[Px (by lia),Px (by lia)]
 .rintro rfl;exact⟨λ_ _=>rfl,rfl⟩
section
variable{P:SC}{w:World}{h h':Heap}{A:SE}{E:SD->Sz->Prop}{s:Sz}
def rO(h1:(aj P w).is x u=true)(h2:(aj P w).is y v=true):SeqAt.EqAt A s u v (decide (x=y)):=by
 have ii:∀i j:Int,decide ((Sum.inl i:aG)=Sum.inl j)=(i==j):=λi j=>by by_cases e:i=j<;>simp[e]
 have ss:∀i j:Str,decide ((Sum.inr i:aG)=Sum.inr j)=(i==j):=λi j=>by by_cases e:i=j<;>simp[e]
 rcases aK (show gf x u=true from h1)with⟨i,t,rfl,rfl⟩|⟨i,t,rfl,rfl⟩<;>rcases aK (show gf y v=true from h2)with⟨j,t',rfl,rfl⟩|⟨j,t',rfl,rfl⟩
 .rw[ii];exact .int_int i t j t'
 .exact .int_str i t j t'
 .exact .str_int i t j t'
 .rw[ss];exact .str_str i t j t'
def vH{α:Type}[DecidableEq α]{R:α->SD->Prop}{x y:List α}{xs ys:Array SD}(lx:x.length=xs.size)(ly:y.length=ys.size)(hx:∀(j:Nat)(k:α)(z:j<xs.size),x[j]?=some k->R k xs[j])(hy:∀(j:Nat)(k:α)(z:j<ys.size),y[j]?=some k->R k ys[j])
 (he:∀k l u v,R k u->R l v->SeqAt.EqAt A s u v (decide (k=l))):∀j (z1:j<xs.size) (z2:j<ys.size),SeqAt.EqAt A s xs[j] ys[j] (decide (x[j]?=y[j]?)):=by
 intro j z1 z2;have k1:j<x.length:=by lia
 have k2:j<y.length:=by lia
 have g1:x[j]?=some x[j]:=by simp[k1]
 have g2:y[j]?=some y[j]:=by simp[k2]
 have e:decide (x[j]?=y[j]?)=decide (x[j]=y[j]):=by rw[g1,g2];by_cases q:x[j]=y[j]<;>simp[q]
 rw[e];exact he _ _ _ _ (hx j _ z1 g1) (hy j _ z2 g2)
def oA(h:ItemsAre (aj P w) k vs):∀(j:Nat)(x:aG)(v:SD),k[j]?=some x->vs[j]?=some v->(aj P w).is x v=true:=by
 induction h with
 |nil=>intro j x v e;simp at e
 |cons a _ ih=>
  intro j x v e e';cases j with
  |zero=>simp at e e';subst e;subst e';exact a
  |succ j=>exact ih j x v (by simpa using e) (by simpa using e')
def Cr(hu:A.units<cLine)(hx:(tupleKind (aj P w)).is s.heap x a)(hy:(tupleKind (aj P w)).is s.heap y b):SeqAt.EqAt A s (.ref a) (.ref b) (decide (x=y)):=by
 by_cases e:a=b
 .subst e;obtain rfl:=(tupleKind (aj P w)).inj hx hy;rw[OT rfl];exact Se _
 .obtain⟨o1,i1,n1,q1,c1,d1,r1⟩:=hx;obtain⟨o2,i2,n2,q2,c2,d2,r2⟩:=hy;have l1:x.length=i1.size:=by rw[r1.length];simp
  have l2:y.length=i2.size:=by rw[r2.length];simp
  have z:=SeqAt.RcAt.tuples (s:=s) (A:=A) (l:=a) (b:=b) ⟨o1,q1,c1,n1,d1⟩ ⟨o2,q2,c2,n2,d2⟩ hu (vH (A:=A.in1) l1 l2 (λj k z e=>oA r1 j k _ e (by simp[z])) (λj k z e=>oA r2 j k _ e (by simp[z])) λk l u v=>rO);rw[<- l1,<- l2,vG]at z;exact SeqAt.EqAt.of_refs e z
def LS(P:SC)(w:World)(h:Heap):Sum aG (List aG)->SD->Prop
 |.inl k,v=>(aj P w).is k v=true
 |.inr k,v=>∃b,v=.ref b/\(tupleKind (aj P w)).is h k b
def gc.at'(h':gc P w h k vs):∀(j:Nat)(x:Sum aG (List aG))(v:SD),k[j]?=some x->vs[j]?=some v->LS P w h x v:=by
 induction h' with
 |nil=>intro j x v e;simp at e
 |val a _ ih=>
  intro j x v e e';cases j with
  |zero=>simp at e e';subst e;subst e';exact a
  |succ j=>exact ih j x v (by simpa using e) (by simpa using e')
 |tup a _ ih=>
  intro j x v e e';cases j with
  |zero=>simp at e e';subst e;subst e';exact⟨_,rfl,a⟩
  |succ j=>exact ih j x v (by simpa using e) (by simpa using e')
def zv(hx:(tupleKind (aj P w)).is h x a):∃its,h.IsTuple a its:=let ⟨o1,i1,n1,q1,c1,d1,_⟩:=hx;⟨i1,o1,q1,c1,n1,d1⟩
def zw(hu:A.units<cLine)(hx:LS P w s.heap x u)(hy:LS P w s.heap y v):SeqAt.EqAt A s u v (decide (x=y)):=by
 cases x with
 |inl x=>
  cases y with
  |inl y=>
   have e:decide ((Sum.inl x:Sum aG (List aG))=Sum.inl y)=decide (x=y):=by by_cases q:x=y<;>simp[q]
   rw[e];exact rO hx hy
  |inr y=>
   obtain⟨b,rfl,hb⟩:=hy;obtain⟨its,p⟩:=zv hb;rcases aK (show gf x u=true from hx)with⟨i,t,rfl,rfl⟩|⟨i,t,rfl,rfl⟩
   .exact .int_tuple i t p hu
   .exact .str_tuple i t p hu
 |inr x=>
  obtain⟨a,rfl,ha⟩:=hx;cases y with
  |inl y=>
   obtain⟨its,p⟩:=zv ha;rcases aK (show gf y v=true from hy)with⟨i,t,rfl,rfl⟩|⟨i,t,rfl,rfl⟩
   .exact .tuple_int i t p hu
   .exact .tuple_str i t p hu
  |inr y=>
   obtain⟨b,rfl,hb⟩:=hy;have e:decide ((Sum.inr x:Sum aG (List aG))=Sum.inr y)=decide (x=y):=by by_cases q:x=y<;>simp[q]
   rw[e];exact Cr hu ha hb
def FN(hu:A.units+1<cLine)(hx:IsN P w s.heap x a)(hy:IsN P w s.heap y b):SeqAt.EqAt A s (.ref a) (.ref b) (decide (x=y)):=by
 by_cases e:a=b
 .subst e;obtain rfl:=hx.inj hy;rw[OT rfl];exact Se _
 .obtain⟨o1,i1,n1,q1,c1,d1,r1⟩:=hx;obtain⟨o2,i2,n2,q2,c2,d2,r2⟩:=hy;have l1:x.length=i1.size:=by rw[r1.len];simp
  have l2:y.length=i2.size:=by rw[r2.len];simp
  have z:=SeqAt.RcAt.tuples (s:=s) (A:=A) (l:=a) (b:=b) ⟨o1,q1,c1,n1,d1⟩ ⟨o2,q2,c2,n2,d2⟩ (by lia) (vH (A:=A.in1) l1 l2 (λj k z e=>r1.at' j k _ e (by simp[z])) (λj k z e=>r2.at' j k _ e (by simp[z])) λk l u v=>zw (show A.units+1<cLine from hu));rw[<- l1,<- l2,vG]at z;exact SeqAt.EqAt.of_refs e z
def zx(n:Nat)(hk:(tupleKind (aj P w)).is s.heap k a)(h:Q true s):wpAny (model P w) A (eqIsQuiet (n+1) (.ref a)) Q E s:=by
 have hT:=IsTupleKey.typeIs hk;obtain⟨o,items,n,ho,_,hd,hi⟩:=hk;unfold eqIsQuiet;refine KE (QH hT PySem.F.slot_tuple_eq.lookup ?_);show wpAny _ _ (isInstance (.ref a) (.type "tuple") >>= _) _ _ s;refine KE (QR hT isSubtype_tuple_tuple ?_);simp only[PK,OD,Pk];refine KE (Q8 ho hd ?_);refine KE ?_;show wpAny _ _ (forIn items _ _) _ _ s;rw[<- QV];refine QQ _ (λrest r s'=>r.1=none/\s'=s/\∀v∈rest,carriedByValue v=true) _ ?_ ?_ _ _ ⟨rfl,rfl,hi.byValue⟩
 .rintro v rest r s' ⟨hr,rfl,gb⟩;rw[eqIsQuiet_byValue _ (gb v OZ)];refine KE (Os ?_);simp only[PK,OD,Pk];exact Os ⟨rfl,rfl,λu hu'=>gb u (OW _ hu')⟩
 .rintro⟨r1,r2⟩ s' ⟨hr,rfl,_⟩;simp only at hr;subst hr;exact Os h
def Cs(hk:IsN P w s.heap k a)(h:Q true s):wpAny (model P w) A (eqIsQuiet 8 (.ref a)) Q E s:=by
 have hT:=hk.ty;obtain⟨o,items,n,ho,_,hd,hi⟩:=hk;unfold eqIsQuiet;refine KE (QH hT PySem.F.slot_tuple_eq.lookup ?_);show wpAny _ _ (isInstance (.ref a) (.type "tuple") >>= _) _ _ s;refine KE (QR hT isSubtype_tuple_tuple ?_);simp only[PK,OD,Pk];refine KE (Q8 ho hd ?_);refine KE ?_;show wpAny _ _ (forIn items _ _) _ _ s;rw[<- QV];refine QQ _ (λrest r s'=>r.1=none/\s'=s/\∃ks,gc P w s.heap ks rest) _ ?_ ?_ _ _ ⟨rfl,rfl,k,hi⟩
 .rintro v rest r s' ⟨hr,rfl,ks,hl⟩;cases hl with
  |val h1 h2=>rw[eqIsQuiet_byValue _ ((aj P w).byValue _ _ h1)];refine KE (Os ?_);simp only[PK,OD,Pk];exact Os ⟨rfl,rfl,_,h2⟩
  |tup h1 h2=>refine KE (zx 6 h1 ?_);simp only[PK,OD,Pk];exact Os ⟨rfl,rfl,_,h2⟩
 .rintro⟨r1,r2⟩ s' ⟨hr,rfl,_⟩;simp only at hr;subst hr;exact Os h
end
def l5(P:SC)(w:World):HeapKind P w NK where
 is:=IsN P w
 hash:=λks=>reduceHash (Builtin.Tuple.tupleHashOf (ks.map (yq P w)))
 draws:=λks=>nDrs ks+1
 room:=λA=>A.units+1<cLine
 inj:=λhx hy=>hx.inj hy
 keeps:=λx ho hd hs=>x.keeps ho hd hs
 pyHash:=λhu hk h=>zu hu hk h
 eqBool:=λhu hx hy h=>FN hu hx hy _ _ _ _ h
 quiet:=λhk h=>Cs hk h
noncomputable abbrev K0:=Sum Int (List Int)
noncomputable def xm(ks:List (List K0))(k:List K0):Bool:=ks.any λx=>decide (x=k)
noncomputable def rP:K0->Sum aG (List aG)
 |.inl i=>.inl (.inl i)
 |.inr l=>.inr (l.map Sum.inl)
noncomputable def NL:K0->Int
 |.inl i=>hashInt i
 |.inr l=>reduceHash (Builtin.Tuple.tupleHashOf (l.map hashInt))
def I0(k:List K0):Int:=reduceHash (Builtin.Tuple.tupleHashOf (k.map NL))
abbrev NX:=List (List K0×Addr×SD)
def gs(a:Addr)(xs:NX)(h:Heap):Prop:=∃o es ep,h.get? a=some o/\o.ExactDict/\o.data=.dict es ep/\es.toList=xs.map (λx=>⟨I0 x.1,.ref x.2.1,x.2.2⟩)/\(xs.map (·.1)).Nodup
noncomputable def NVs(H:Hp):List K0->List V->Prop
 |[],vs=>vs=[]
 |.inl i::ks,vs=>∃r,vs=.int i::r/\NVs H ks r
 |.inr l::ks,vs=>∃c r,vs=.ref c::r/\H c=some (.tup (l.map V.int))/\NVs H ks r
def KeyN(H:Hp)(k:List K0)(b:Addr):Prop:=∃vs,H b=some (.tup vs)/\NVs H k vs
section
variable{H H':Hp}
theorem NVs.mono(kt:∀b vs,H b=some (.tup vs)->H' b=some (.tup vs)):∀{k:List K0}{vs:List V},NVs H k vs->NVs H' k vs
 |[],_,h=>h
 |.inl i::ks,_,⟨r,e,h⟩=>⟨r,e,NVs.mono kt h⟩
 |.inr l::ks,_,⟨c,r,e,e2,h⟩=>⟨c,r,e,kt _ _ e2,NVs.mono kt h⟩
theorem KeyN.mono(kt:∀b vs,H b=some (.tup vs)->H' b=some (.tup vs))(h:KeyN H k b):KeyN H' k b:=let ⟨vs,e,q⟩:=h;⟨vs,kt _ _ e,q.mono kt⟩
end
section
variable{P:SC}{w:World}{H:Hp}{h:Heap}{a:Addr}
def Ct{a b:K0}(h:rP a=rP b):a=b:=by
 have li:∀x y:List Int,x.map (Sum.inl:Int->aG)=y.map Sum.inl->x=y:=λx y e=>(List.map_inj_right λ_ _ z=>Sf z).mp e;cases a<;>cases b<;>simp only[rP,Sum.inl.injEq,Sum.inr.injEq,reduceCtorEq]at h
 .rw[h]
 .rw[li _ _ h]
def l6{a b:List K0}(h:a.map rP=b.map rP):a=b:=(List.map_inj_right λ_ _ z=>Ct z).mp h
def zy(k:List K0):(l5 P w).hash (k.map rP)=I0 k:=by
 show reduceHash (Builtin.Tuple.tupleHashOf ((k.map rP).map (yq P w)))=_;rw[OP];unfold I0;congr 2;apply O0;intro x _;cases x with
 |inl i=>rfl
 |inr l=>show reduceHash (Builtin.Tuple.tupleHashOf ((l.map Sum.inl).map (IA w)))=_;rw[OP];rfl
theorem pN(ok:HOk P w H h):∀{k:List K0}{vs:List V}{its:List SD},NVs H k vs->Vals vs its->gc P w h (k.map rP) its
 |[],_,_,e,r=>by cases e;cases r;exact .nil
 |.inl i::ks,_,_,⟨r,e,q⟩,z=>by
  subst e;cases z with
  |cons z1 z2=>obtain⟨t,rfl⟩:=z1;exact .val (nP i t) (pN ok q z2)
 |.inr l::ks,_,_,⟨c,r,e,hc,q⟩,z=>by
  subst e;cases z with
  |cons z1 z2=>cases z1;refine .tup (cO ok ?_) (pN ok q z2);rw[hc,OP];rfl
def vI(ok:HOk P w H h)(q:KeyN H k b):(l5 P w).is h (k.map rP) b:=by obtain⟨vs,e,q⟩:=q;obtain⟨_,its,r,o,h1,h2,n,h3⟩:=(show ObjOk P w H h b (.tup vs)from ok b _ e);exact⟨o,its.toArray,n,h1,h2,h3,by simpa using pN ok q r⟩
def xn(xs:NX):List (NK×Addr×SD):=xs.map λx=>(x.1.map rP,x.2)
def Cu(ok:HOk P w H h){xs:NX}(d:gs a xs h)(ks:∀x∈xs,KeyN H x.1 x.2.1):h.DictOfH (l5 P w) a (xn xs):=by
 obtain⟨o,es,ep,h1,h2,h3,h4,h5⟩:=d;refine⟨o,es,ep,h1,h2,h3,?_,λx hx=>?_,?_⟩
 .rw[h4];unfold xn;rw[OP];apply O0;intro x _;show _=entryOfKey (l5 P w) (x.1.map rP,x.2);unfold entryOfKey;rw[zy]
 .obtain⟨y,hy,rfl⟩:=OB.mp hx;exact vI ok (ks y hy)
 .unfold xn;rw[OP];exact Pi.mpr ((Pi.mp h5).imp λz e=>z (l6 e))
def Cv(d:h.DictOfH (l5 P w) a (xn xs)):gs a xs h:=by
 obtain⟨o,es,ep,h1,h2,h3,h4,_,h5⟩:=d;refine⟨o,es,ep,h1,h2,h3,?_,?_⟩
 .rw[h4];unfold xn;rw[OP];apply O0;intro x _;show entryOfKey (l5 P w) (x.1.map rP,x.2)=_;unfold entryOfKey;rw[zy]
 .unfold xn at h5;rw[OP]at h5;exact Pi.mpr ((Pi.mp h5).imp λz e=>z (Qn (List.map rP) e))
def zA(xs:NX)(k:List K0):(atKey (xn xs) (k.map rP)).isSome=xm (xs.map (·.1)) k:=by
 unfold atKey xn;rw[Q1,PL,List.find?_isSome];unfold xm;simp only[Ri,OB,Qw];constructor
 .rintro⟨_,⟨x,hx,rfl⟩,e⟩;exact⟨_,⟨x,hx,rfl⟩,l6 e⟩
 .rintro⟨_,⟨x,hx,rfl⟩,rfl⟩;exact⟨_,⟨x,hx,rfl⟩,rfl⟩
def rQ(xs:NX)(k:List K0)(b:Addr)(v:SD):NX:=if xm (xs.map (·.1)) k then xs.map (λx=>if x.1=k then(x.1,x.2.1,v)else x)else xs++[(k,b,v)]
def xo(xs:NX)(k:List K0)(b:Addr)(v:SD):storedH (xn xs) (k.map rP) b v=xn (rQ xs k b v):=by
 unfold storedH rQ;rw[zA];by_cases hk:xm (xs.map (·.1)) k=true
 .rw[Ow hk,Ow hk];unfold xn;rw[OP,OP];apply O0;intro x _;show putAt (k.map rP) v (x.1.map rP,x.2)=_;unfold putAt;by_cases e:x.1=k
  .rw[Ow (by rw[e])];simp[e]
  .rw[Ox λz=>e (l6 z)];simp[e]
 .rw[Ox hk,Ox hk];unfold xn;rw[O8];rfl
end
section
variable{X:Cx}{aa:List (Addr×Obj)}{σ:St}{H:Hp}{s:Sz}{a b:Addr}{xs:NX}{k:List K0}{A:SE}{E:SD->Sz->Prop}
def Eh(I:Inv X aa σ H s)(e:H a=some (.ext (gs a xs))):gs a xs s.heap:=(show ObjOk X.prog X.w H s.heap a (.ext (gs a xs))from I.aF a _ e).1
def zB(d:gs a xs h):ObjOk P w H h a (.ext (gs a xs)):=⟨d,let ⟨o,_,_,q,_⟩:=d;⟨o,q⟩,λh1 h2 ⟨o,es,ep,q,r⟩ k=>⟨o,es,ep,k _ q,r⟩⟩
def FO(hu:A.units+2<cLine)(I:Inv X aa σ H s)(e:H a=some (.ext (gs a xs)))(hz:xs.length<=sizeLine)(ks:∀x∈xs,KeyN H x.1 x.2.1)(hk:KeyN H k b)
 (h:∀s',Inv X aa σ (upd H a (.ext (gs a (rQ xs k b r)))) s'->Q () s'):wpAny (model X.prog X.w) A (setItem (.ref a) (.ref b) r) Q E s:=by
 refine wpAny_setItem_heap (knd:=l5 X.prog X.w) (hsz:=by unfold xn;rw[Ov];exact hz) (show A.units+1+1<cLine by lia) (vI I.aF hk) (Cu I.aF (Eh I e) ks) λh' dd' hs=>h _ ?_;rw[xo]at dd';have nd:=Cv dd';exact fO I (by rw[e];exact True.intro) hs (let ⟨q,_,_,hq,_⟩:=nd;⟨q,hq⟩) (zB nd)
def uA:TE:=λ_ H Q=>∀p,H p=none->(p==sysModules)=false->Q (.ref p) (upd H p (.ext (gs p [])))
def rR:PE X (.Dict [] [] pos) uA:=λaa s σ H Q I h=>
 wpAny_Dict_empty ⟨.ref s.heap.objs.size,_,I.laid (a:=s.heap.objs.size) (o:=.ext (gs s.heap.objs.size [])) (t':=s.toks) (λ_ _ q=>Ot _ q) (Ou _)
  (zB ⟨_,#[],0,Oy _ rfl,⟨rfl,rfl,rfl⟩,rfl,rfl,Qf⟩),rfl,h _ (I.aF.fresh (Ou _)) (QO.mpr (PV (OJ I.big)))⟩
end
section
variable{X:Cx}{value o i:Expr}{td ty tv:TE}{pos pos':Pos}
def Ei(td ty tv:TE):TS:=λD σ H=>tv σ H λv H1=>td σ H1 λx H2=>ty σ H2 λy H3=>∃a b xs k,x=.ref a/\y=.ref b/\H3 a=some (.ext (gs a xs))/\xs.length<=sizeLine/\(∀x∈xs,KeyN H3 x.1 x.2.1)/\KeyN H3 k b/\∀r,D.nx σ (upd H3 a (.ext (gs a (rQ xs k b r))))
def Cw(hu:X.A.units+2<cLine)(ho:PE X o td)(hi:PE X i ty)(hv:PE X value tv)(hs:swapsWith value (some (.Subscript o i pos')) pos.line X.env=pure false) :
 PS X (.Assign [.Subscript o i pos'] value pos) (Ei td ty tv):=by
 intro aa s σ H D I h;refine wpAny_Assign_Subscript (bQ (hv aa s σ H _ I h) λr s1 ⟨v,H1,I1,rv,q1⟩=>bQ (ho aa s1 σ H1 _ I1 q1) λu s2 ⟨x,H2,I2,rx,q2⟩=>bQ (hi aa s2 σ H2 _ I2 q2) λiv s3 ⟨y,H3,I3,ry,a,b,xs,k,ex,ey,e1,e2,e3,e4,q3⟩=>?_) hs;subst ex ey;obtain rfl:u=Value.ref a:=rx;obtain rfl:iv=Value.ref b:=ry;exact FO hu I3 e1 e2 e3 e4 λs4 I4=>⟨σ,_,I4,q3 r⟩
end
end L2
namespace L3
open PySem PySem.Spec PyProof.Rows L2
abbrev DK:=Sum aG (List aG)
inductive D where
 |ba|bl (b:Bool)|int (i:Int)|str (x:Str)|tup (ds:List D)|lst (ds:List D)|iU (ks:List DK) (ds:List D)
mutual
noncomputable def D.flat:D->Bool
 |.lst _=>false
 |.iU _ _=>false
 |.tup ds=>D.aY ds
 |_=>true
noncomputable def D.aY:List D->Bool
 |[]=>true
 |d::ds=>d.flat&&D.aY ds
end
mutual
noncomputable def D.dep:D->Nat
 |.lst ds=>D.ie ds+1
 |.tup ds=>D.ie ds+1
 |.iU _ ds=>D.ie ds+1000
 |_=>0
noncomputable def D.ie:List D->Nat
 |[]=>0
 |d::ds=>max d.dep (D.ie ds)
end
mutual
noncomputable def g9:D->D->Bool
 |.ba,e=>match e with|.ba=>true|_=>false
 |.bl a,e=>match e with|.bl b=>a==b|.int b=>(if a then 1 else 0)==b|_=>false
 |.int a,e=>match e with|.int b=>a==b|.bl b=>a==(if b then 1 else 0)|_=>false
 |.str a,e=>match e with|.str b=>a==b|_=>false
 |.tup as,e=>match e with|.tup bs=>eqDs as bs|_=>false
 |.lst as,e=>match e with|.lst bs=>eqDs as bs|_=>false
 |.iU ks as,e=>match e with|.iU ls bs=>decide (ks=ls)&&eqDs as bs|_=>false
noncomputable def eqDs:List D->List D->Bool
 |[],bs=>match bs with|[]=>true|_=>false
 |a::as,bs=>match bs with|b::r=>g9 a b&&eqDs as r|[]=>false
end
mutual
theorem gA:∀d:D,g9 d d=true
 |.ba=>rfl
 |.bl a=>by simp[g9]
 |.int a=>by simp[g9]
 |.str a=>by simp[g9]
 |.tup as=>by simp only[g9];exact eqDs_refl as
 |.lst as=>by simp only[g9];exact eqDs_refl as
 |.iU ks as=>by simp only[g9,decide_true,Bool.true_and];exact eqDs_refl as
theorem eqDs_refl:∀ds:List D,eqDs ds ds=true
 |[]=>rfl
 |d::ds=>by simp only[eqDs,gA d,eqDs_refl ds,R8]
end
def DAt(H:Hp)(a:Addr)(ks:List DK)(vs:List V):Prop:=(∃kvs:List (aG×V),Rd H a (.dK kvs)/\ks=kvs.map (λp=>.inl p.1)/\vs=kvs.map Prod.snd)\/∃kvs:List (List aG×V),Rd H a (.dT kvs)/\ks=kvs.map (λp=>.inr p.1)/\vs=kvs.map Prod.snd
noncomputable def I_:HO->Prop
 |.lst _=>True
 |.dK _=>True
 |.dT _=>True
 |.ext _=>True
 |_=>False
def Mu(H:Hp)(a:Addr):Prop:=∃o,H a=some o/\I_ o
theorem Mu.lst(h:H a=some (.lst vs)):Mu H a:=⟨_,h,True.intro⟩
def Mu.same(h:Mu H a)(s:∀o,H a=some o->H' a=some o):Mu H' a:=let ⟨o,e,m⟩:=h;⟨o,s o e,m⟩
def Mu.some(h:Mu H a):H a≠none:=by obtain⟨o,e,_⟩:=h;rw[e];simp
def Ej(h:Rd H a u):∃o,H a=some o:=h.elim (λe=>⟨_,e⟩) λ⟨_,e⟩=>⟨_,e⟩
def zC(h:Rd H a u)(s:∀o,H a=some o->H' a=some o):Rd H' a u:=h.imp (s _) λ⟨o,e⟩=>⟨o,s _ e⟩
def DAt.obj(h:DAt H a ks vs):∃o,H a=some o:=h.elim (λ⟨_,e,_⟩=>Ej e) λ⟨_,e,_⟩=>Ej e
def DAt.keep(h:DAt H a ks vs)(s:∀o,H a=some o->H' a=some o):DAt H' a ks vs:=h.imp (λ⟨kvs,e,r⟩=>⟨kvs,zC e s,r⟩) λ⟨kvs,e,r⟩=>⟨kvs,zC e s,r⟩
def DAt.inj(h:DAt H a ks vs)(g:DAt H a ls ws):ks=ls/\vs=ws:=by rcases h with⟨k1,e1|⟨o1,e1⟩,r1,r2⟩|⟨k1,e1|⟨o1,e1⟩,r1,r2⟩<;>rcases g with⟨k2,e2|⟨o2,e2⟩,q1,q2⟩|⟨k2,e2|⟨o2,e2⟩,q1,q2⟩<;>(rw[e1]at e2;cases e2;try exact⟨r1.trans q1.symm,r2.trans q2.symm⟩)
noncomputable def LU:HO->Prop
 |.dK _=>False
 |.dT _=>False
 |.aV _ (.dK _)=>False
 |.aV _ (.dT _)=>False
 |_=>True
def DAt.no(h:DAt H a ks vs)(e:H a=some o)(n:LU o):False:=by rcases h with⟨k,z|⟨o',z⟩,_⟩|⟨k,z|⟨o',z⟩,_⟩<;>(rw[e]at z;cases z;exact n)
mutual
noncomputable def Is(H:Hp)(m:Addr->Prop):D->V->Prop
 |.ba,v=>v=.ba
 |.bl b,v=>v=.bl b
 |.int i,v=>v=.int i
 |.str x,v=>v=.str x
 |.tup ds,v=>∃a vs,v=.ref a/\H a=some (.tup vs)/\IsAll H m ds vs
 |.lst ds,v=>∃a vs,v=.ref a/\((H a=some (.lst vs)/\m a)\/∃o,H a=some (.aV o (.lst vs))/\m a)/\IsAll H m ds vs
 |.iU ks ds,v=>∃a vs,v=.ref a/\(DAt H a ks vs/\m a)/\IsAll H m ds vs
noncomputable def IsAll(H:Hp)(m:Addr->Prop):List D->List V->Prop
 |[],vs=>vs=[]
 |d::ds,vs=>∃v r,vs=v::r/\Is H m d v/\IsAll H m ds r
end
noncomputable def gB:HO->Prop
 |.tup _=>True
 |.aV _ _=>True
 |_=>False
section
mutual
theorem Is.mono(kp:∀a o,H a=some o->(m a\/gB o)->H' a=some o)(mm:∀a o,H a=some o->m a->m' a):∀{d:D}{v:V},Is H m d v->Is H' m' d v
 |.ba,_,h=>h
 |.bl _,_,h=>h
 |.int _,_,h=>h
 |.str _,_,h=>h
 |.tup ds,_,h=>by obtain⟨a,vs,e,h1,h2⟩:=h;exact⟨a,vs,e,kp a _ h1 (.inr True.intro),IsAll.mono kp mm h2⟩
 |.lst ds,_,h=>by
  obtain⟨a,vs,e,h1,h2⟩:=h;refine⟨a,vs,e,?_,IsAll.mono kp mm h2⟩;rcases h1 with⟨h1,h3⟩|⟨o,h1,h3⟩
  .exact .inl ⟨kp a _ h1 (.inl h3),mm a _ h1 h3⟩
  .exact .inr ⟨o,kp a _ h1 (.inr True.intro),mm a _ h1 h3⟩
 |.iU ks ds,_,h=>by obtain⟨a,vs,e,h1,h2⟩:=h;obtain⟨o,eo⟩:=h1.1.obj;exact⟨a,vs,e,⟨h1.1.keep λo e=>kp a o e (.inl h1.2),mm a o eo h1.2⟩,IsAll.mono kp mm h2⟩
theorem IsAll.mono(kp:∀a o,H a=some o->(m a\/gB o)->H' a=some o)(mm:∀a o,H a=some o->m a->m' a):∀{ds:List D}{vs:List V},IsAll H m ds vs->IsAll H' m' ds vs
 |[],_,h=>h
 |d::ds,_,h=>by obtain⟨v,r,e,h1,h2⟩:=h;exact⟨v,r,e,Is.mono kp mm h1,IsAll.mono kp mm h2⟩
end
def Is.weak(mm:∀a,m a->m' a)(h:Is H m d v):Is H m' d v:=h.mono (λ_ _ e _=>e) λa _ _=>mm a
def IsAll.weak(mm:∀a,m a->m' a)(h:IsAll H m ds vs):IsAll H m' ds vs:=h.mono (λ_ _ e _=>e) λa _ _=>mm a
def Is.same(s:Same H H')(h:Is H m d v):Is H' m d v:=h.mono (λa o e _=>s a o e) λ_ _ _ z=>z
def IsAll.same(s:Same H H')(h:IsAll H m ds vs):IsAll H' m ds vs:=h.mono (λa o e _=>s a o e) λ_ _ _ z=>z
mutual
theorem Is.flat:∀{d:D}{v:V},d.flat=true->Is H m d v->Is H m' d v
 |.ba,_,_,h=>h
 |.bl _,_,_,h=>h
 |.int _,_,_,h=>h
 |.str _,_,_,h=>h
 |.tup ds,_,f,h=>by obtain⟨a,vs,e,h1,h2⟩:=h;exact⟨a,vs,e,h1,IsAll.flat (by simpa only[D.flat]using f) h2⟩
 |.lst ds,_,f,_=>by simp[D.flat]at f
 |.iU ks ds,_,f,_=>by simp[D.flat]at f
theorem IsAll.flat:∀{ds:List D}{vs:List V},D.aY ds=true->IsAll H m ds vs->IsAll H m' ds vs
 |[],_,_,h=>h
 |d::ds,_,f,h=>by obtain⟨v,r,e,h1,h2⟩:=h;simp only[D.aY,Pa]at f;exact⟨v,r,e,Is.flat f.1 h1,IsAll.flat f.2 h2⟩
end
mutual
theorem Is.inj:∀{d e:D}{v:V},Is H m d v->Is H m' e v->d=e
 |.ba,e,_,h,g=>by cases e<;>first|rfl|(cases h;first|(obtain⟨_,_,z,_⟩:=g;cases z;done)|cases g)
 |.bl _,e,_,h,g=>by cases e<;>(cases h;first|(obtain⟨_,_,z,_⟩:=g;cases z;done)|(cases g;rfl)|cases g)
 |.int _,e,_,h,g=>by cases e<;>(cases h;first|(obtain⟨_,_,z,_⟩:=g;cases z;done)|(cases g;rfl)|cases g)
 |.str _,e,_,h,g=>by cases e<;>(cases h;first|(obtain⟨_,_,z,_⟩:=g;cases z;done)|(cases g;rfl)|cases g)
 |.tup ds,e,_,h,g=>by
  obtain⟨a,vs,rfl,h1,h2⟩:=h;cases e with
  |tup es=>obtain⟨b,ws,z,g1,g2⟩:=g;cases z;rw[h1]at g1;cases g1;rw[IsAll.inj h2 g2]
  |lst es=>obtain⟨b,ws,z,g1,g2⟩:=g;cases z;rcases g1 with⟨g1,_⟩|⟨o,g1,_⟩<;>(rw[h1]at g1;cases g1)
  |iU ls es=>obtain⟨b,ws,z,g1,g2⟩:=g;cases z;exact(g1.1.no h1 True.intro).elim
  |_=>cases g
 |.lst ds,e,_,h,g=>by
  obtain⟨a,vs,rfl,h1,h2⟩:=h;cases e with
  |tup es=>obtain⟨b,ws,z,g1,g2⟩:=g;cases z;rcases h1 with⟨h1,_⟩|⟨o,h1,_⟩<;>(rw[h1]at g1;cases g1)
  |lst es=>
   obtain⟨b,ws,z,g1,g2⟩:=g;cases z;have e:vs=ws:=by rcases h1 with⟨h1,_⟩|⟨o,h1,_⟩<;>rcases g1 with⟨g1,_⟩|⟨o',g1,_⟩<;>(rw[h1]at g1;cases g1;try rfl)
   subst e;rw[IsAll.inj h2 g2]
  |iU ls es=>obtain⟨b,ws,z,g1,g2⟩:=g;cases z;rcases h1 with⟨h1,_⟩|⟨o,h1,_⟩<;>exact(g1.1.no h1 True.intro).elim
  |_=>cases g
 |.iU ks ds,e,_,h,g=>by
  obtain⟨a,vs,rfl,h1,h2⟩:=h;cases e with
  |tup es=>obtain⟨b,ws,z,g1,g2⟩:=g;cases z;exact(h1.1.no g1 True.intro).elim
  |lst es=>obtain⟨b,ws,z,g1,g2⟩:=g;cases z;rcases g1 with⟨g1,_⟩|⟨o,g1,_⟩<;>exact(h1.1.no g1 True.intro).elim
  |iU ls es=>obtain⟨b,ws,z,g1,g2⟩:=g;cases z;obtain⟨e1,e2⟩:=h1.1.inj g1.1;subst e1 e2;rw[IsAll.inj h2 g2]
  |_=>cases g
theorem IsAll.inj:∀{ds es:List D}{vs:List V},IsAll H m ds vs->IsAll H m' es vs->ds=es
 |[],es,_,h,g=>by
  cases h;cases es with
  |nil=>rfl
  |cons e es=>obtain⟨_,_,z,_⟩:=g;cases z
 |d::ds,es,_,h,g=>by
  obtain⟨v,r,rfl,h1,h2⟩:=h;cases es with
  |nil=>cases g
  |cons e es=>obtain⟨w,q,z,g1,g2⟩:=g;cases z;rw[Is.inj h1 g1,IsAll.inj h2 g2]
end
theorem IsAll.length:∀{ds:List D}{vs:List V},IsAll H m ds vs->vs.length=ds.length
 |[],_,h=>by cases h;rfl
 |d::ds,_,h=>by obtain⟨v,r,rfl,_,h2⟩:=h;simp[IsAll.length h2]
theorem IsAll.append:∀{ds es:List D}{vs ws:List V},IsAll H m ds vs->IsAll H m es ws->IsAll H m (ds++es) (vs++ws)
 |[],_,_,_,h,g=>by cases h;exact g
 |d::ds,_,_,_,h,g=>by obtain⟨v,r,rfl,h1,h2⟩:=h;exact⟨v,r++_,rfl,h1,IsAll.append h2 g⟩
def IsAll.snoc(h:IsAll H m ds vs)(g:Is H m d v):IsAll H m (ds++[d]) (vs++[v]):=h.append ⟨v,[],rfl,g,rfl⟩
theorem IsAll.get:∀{ds:List D}{vs:List V}{i:Nat}{d:D},IsAll H m ds vs->ds[i]?=some d->∃v,vs[i]?=some v/\Is H m d v
 |[],_,_,_,_,e=>by simp at e
 |d::ds,_,0,_,h,e=>by obtain⟨v,r,rfl,h1,h2⟩:=h;simp at e;subst e;exact⟨v,rfl,h1⟩
 |d::ds,_,i+1,_,h,e=>by obtain⟨v,r,rfl,h1,h2⟩:=h;obtain⟨w,a,b⟩:=IsAll.get (i:=i) h2 (by simpa using e);exact⟨w,by simpa using a,b⟩
theorem IsAll.take:∀{ds:List D}{vs:List V}(n:Nat),IsAll H m ds vs->IsAll H m (ds.take n) (vs.take n)
 |_,_,0,_=>rfl
 |[],_,n+1,h=>by cases h;exact rfl
 |d::ds,_,n+1,h=>by obtain⟨v,r,rfl,h1,h2⟩:=h;exact⟨v,r.take n,rfl,h1,IsAll.take n h2⟩
theorem IsAll.drop:∀{ds:List D}{vs:List V}(n:Nat),IsAll H m ds vs->IsAll H m (ds.drop n) (vs.drop n)
 |_,_,0,h=>h
 |[],_,n+1,h=>by cases h;exact rfl
 |d::ds,_,n+1,h=>by obtain⟨v,r,rfl,h1,h2⟩:=h;exact IsAll.drop n h2
end
section
variable{s:Sz}{m m':Addr->Prop}
def FP(ok:HOk P w H s.heap)(h:(H a=some (.lst vs)/\m a)\/∃o,H a=some (.aV o (.lst vs))/\m a) :
 ∃its:List SD,Vals vs its/\s.heap.IsList a its.toArray:=by
 have key:ObjOk P w H s.heap a (.lst vs)->∃its:List SD,Vals vs its/\s.heap.IsList a its.toArray:=λ⟨_,its,n,r,e⟩=>⟨its,r,⟨_,e,rfl,n,rfl⟩⟩;rcases h with⟨h,_⟩|⟨o,h,_⟩
 .exact key (ok a _ h)
 .exact key (ok a _ h).2
def FQ(ok:HOk P w H s.heap)(h:H a=some (.tup vs)):∃its:List SD,Vals vs its/\s.heap.IsTuple a its.toArray:=by obtain⟨_,its,r,e⟩:=ok a _ h;exact⟨its,r,e⟩
def xp(n:Nat)(e:Nat->Bool):(List.range n).all e=true↔∀j,j<n->e j=true:=by simp[PR,O5]
theorem l7:∀(ds es:List D),eqDs ds es=true↔ds.length=es.length/\∀(j:Nat)(d e:D),ds[j]?=some d->es[j]?=some e->g9 d e=true
 |[],[]=>by simp[eqDs]
 |[],e::es=>by simp[eqDs]
 |d::ds,[]=>by simp[eqDs]
 |d::ds,e::es=>by
  simp only[eqDs,Pa,l7 ds es,OV,Nat.add_right_cancel_iff];constructor
  .rintro⟨h1,h2,h3⟩;refine⟨h2,λj x y ex ey=>?_⟩;cases j with
   |zero=>simp at ex ey;subst ex;subst ey;exact h1
   |succ j=>exact h3 j x y (by simpa using ex) (by simpa using ey)
  .rintro⟨h2,h3⟩;exact⟨h3 0 d e rfl rfl,h2,λj x y ex ey=>h3 (j+1) x y (by simpa using ex) (by simpa using ey)⟩
theorem dk:∀{ds:List D}{j:Nat}{d:D},ds[j]?=some d->d.dep<=D.ie ds
 |[],_,_,e=>by simp at e
 |d::ds,0,_,e=>by simp at e;subst e;simp only[D.ie];lia
 |d::ds,j+1,x,e=>by have:=dk (ds:=ds) (j:=j) (d:=x) (by simpa using e);simp only[D.ie];lia
def pO(ok:HOk P w H s.heap){A:SE}{ds es:List D}(h1:IsAll H m ds vs)(h2:IsAll H m' es ws)(r1:Vals vs its)(r2:Vals ws its2)
 (rec:∀d∈ds,∀e∈es,∀(v w:V)(u u':SD),Is H m d v->Is H m' e w->RelV v u->RelV w u'->SeqAt.EqAt A.in1 s u u' (g9 d e)) :
 ∀j (z1:j<its.toArray.size) (z2:j<its2.toArray.size),SeqAt.EqAt A.in1 s its.toArray[j] its2.toArray[j] (match ds[j]?,es[j]? with|some d,some e=>g9 d e|_,_=>true):=by
 intro j z1 z2;have l1:=r1.length;have l2:=r2.length;have l3:=h1.length;have l4:=h2.length;have y1:j<its.length:=by simpa using z1
 have y2:j<its2.length:=by simpa using z2
 have k1:j<ds.length:=by lia
 have k2:j<es.length:=by lia
 obtain⟨v,ev,iv⟩:=h1.get (i:=j) (d:=ds[j]) (by simp[k1]);obtain⟨v',ev',iv'⟩:=h2.get (i:=j) (d:=es[j]) (by simp[k2]);obtain⟨u,eu,ru⟩:=r1.get ev;obtain⟨u',eu',ru'⟩:=r2.get ev'
 grind
theorem uB(hl:ds.length=es.length) :
 ((List.range ds.length).all λj=>match ds[j]?,es[j]? with|some d,some e=>g9 d e|_,_=>true)=eqDs ds es:=by
 rw[PL,xp,l7];constructor
 .intro h;refine⟨hl,λj d e ed ee=>?_⟩;have:=h j (OG.mp ed).1;rw[ed,ee]at this;exact this
 .rintro⟨_,h⟩ j hj;have e1:ds[j]?=some ds[j]:=by simp[hj]
  have hj':j<es.length:=by lia
  have e2:es[j]?=some es[j]:=by simp[hj']
  rw[e1,e2];exact h j _ _ e1 e2
theorem pP(hl:ds.length≠es.length):eqDs ds es=false:=by grind [eqDs,l7]
end
section
variable{s:Sz}
abbrev ke(H:Hp)(s:Sz)(m m':Addr->Prop)(A:SE)(n:Nat):Prop:=∀(d e:D)(v w:V)(u u':SD),d.dep<n->e.dep<1000->Is H m d v->Is H m' e w->RelV v u->RelV w u'->SeqAt.EqAt A.in1 s u u' (g9 d e)
section
def l9(ok:HOk P w H s.heap)(hn:(D.lst l1).dep<=n)(hE:(D.lst l2).dep<1000)(hu:A.units<cLine)(q1:IsAll H m l1 vs1)(q2:IsAll H m' l2 vs2)(y1:Vals vs1 its1)(y2:Vals vs2 its2)(p1:s.heap.IsList a1 its1.toArray)(p2:s.heap.IsList a2 its2.toArray)
 (rec:ke H s m m' A n):SeqAt.RcAt A s (.ref a1) (.ref a2) (g9 (.lst l1) (.lst l2)):=by
 have e1:its1.toArray.size=l1.length:=by rw[Oz,<- y1.length,q1.length]
 have e2:its2.toArray.size=l2.length:=by rw[Oz,<- y2.length,q2.length]
 have hd:∀d∈l1,d.dep<n:=λd hd=>by obtain⟨j,hj⟩:=OO.mp hd;have:=dk hj;simp only[D.dep]at hn;lia
 have he:∀e∈l2,e.dep<1000:=λd hd=>by obtain⟨j,hj⟩:=OO.mp hd;have:=dk hj;simp only[D.dep]at hE;lia
 by_cases hl:l1.length=l2.length
 .have z:=SeqAt.RcAt.lists p1 p2 (by rw[e1,e2,hl]) hu (pO ok q1 q2 y1 y2 λd hm e hm2 v w u u' i1 i2 r1 r2=>rec d e v w u u' (hd d hm) (he e hm2) i1 i2 r1 r2);rw[e1,uB hl]at z;exact z
 .have z:=SeqAt.RcAt.lists_lengths p1 p2 (by rw[e1,e2];simpa using hl) hu;rw[show g9 (.lst l1) (.lst l2)=eqDs l1 l2 from rfl,pP hl];exact z
def pQ(ok:HOk P w H s.heap)(hn:(D.lst l1).dep<=n)(hE:(D.lst l2).dep<1000)(hu:A.units<cLine)(q1:IsAll H m l1 vs1)(q2:IsAll H m' l2 vs2)(y1:Vals vs1 its1)(y2:Vals vs2 its2)(p1:s.heap.IsList a1 its1.toArray)(p2:s.heap.IsList a2 its2.toArray)
 (rec:ke H s m m' A n):SeqAt.RcNeAt A s (.ref a1) (.ref a2) (!g9 (.lst l1) (.lst l2)):=by
 have e1:its1.toArray.size=l1.length:=by rw[Oz,<- y1.length,q1.length]
 have e2:its2.toArray.size=l2.length:=by rw[Oz,<- y2.length,q2.length]
 have hd:∀d∈l1,d.dep<n:=λd hd=>by obtain⟨j,hj⟩:=OO.mp hd;have:=dk hj;simp only[D.dep]at hn;lia
 have he:∀e∈l2,e.dep<1000:=λd hd=>by obtain⟨j,hj⟩:=OO.mp hd;have:=dk hj;simp only[D.dep]at hE;lia
 by_cases hl:l1.length=l2.length
 .have z:=SeqAt.RcNeAt.lists p1 p2 (by rw[e1,e2,hl]) hu (pO ok q1 q2 y1 y2 λd hm e hm2 v w u u' i1 i2 r1 r2=>rec d e v w u u' (hd d hm) (he e hm2) i1 i2 r1 r2);rw[e1,uB hl]at z;exact z
 .have z:=SeqAt.RcNeAt.lists_lengths p1 p2 (by rw[e1,e2];simpa using hl) hu;rw[show g9 (.lst l1) (.lst l2)=eqDs l1 l2 from rfl,pP hl];exact z
def vJ:((List.range (min l1.length l2.length)).all (λj=>match l1[j]?,l2[j]? with|some d,some e=>g9 d e|_,_=>true)&&l1.length==l2.length)=eqDs l1 l2:=by grind [uB,pP]
def oB(ok:HOk P w H s.heap)(hn:(D.tup l1).dep<=n)(hE:(D.tup l2).dep<1000)(hu:A.units<cLine)(q1:IsAll H m l1 vs1)(q2:IsAll H m' l2 vs2)(y1:Vals vs1 its1)(y2:Vals vs2 its2)(p1:s.heap.IsTuple a1 its1.toArray)(p2:s.heap.IsTuple a2 its2.toArray)
 (rec:ke H s m m' A n):SeqAt.RcAt A s (.ref a1) (.ref a2) (g9 (.tup l1) (.tup l2)):=by
 have e1:its1.toArray.size=l1.length:=by rw[Oz,<- y1.length,q1.length]
 have e2:its2.toArray.size=l2.length:=by rw[Oz,<- y2.length,q2.length]
 have hd:∀d∈l1,d.dep<n:=λd hd=>by obtain⟨j,hj⟩:=OO.mp hd;have:=dk hj;simp only[D.dep]at hn;lia
 have he:∀e∈l2,e.dep<1000:=λd hd=>by obtain⟨j,hj⟩:=OO.mp hd;have:=dk hj;simp only[D.dep]at hE;lia
 have z:=SeqAt.RcAt.tuples p1 p2 hu (pO ok q1 q2 y1 y2 λd hm e hm2 v w u u' i1 i2 r1 r2=>rec d e v w u u' (hd d hm) (he e hm2) i1 i2 r1 r2);rw[e1,e2,vJ]at z;exact z
def rS(ok:HOk P w H s.heap)(hn:(D.tup l1).dep<=n)(hE:(D.tup l2).dep<1000)(hu:A.units<cLine)(q1:IsAll H m l1 vs1)(q2:IsAll H m' l2 vs2)(y1:Vals vs1 its1)(y2:Vals vs2 its2)(p1:s.heap.IsTuple a1 its1.toArray)(p2:s.heap.IsTuple a2 its2.toArray)
 (rec:ke H s m m' A n):SeqAt.RcNeAt A s (.ref a1) (.ref a2) (!g9 (.tup l1) (.tup l2)):=by
 have e1:its1.toArray.size=l1.length:=by rw[Oz,<- y1.length,q1.length]
 have e2:its2.toArray.size=l2.length:=by rw[Oz,<- y2.length,q2.length]
 have hd:∀d∈l1,d.dep<n:=λd hd=>by obtain⟨j,hj⟩:=OO.mp hd;have:=dk hj;simp only[D.dep]at hn;lia
 have he:∀e∈l2,e.dep<1000:=λd hd=>by obtain⟨j,hj⟩:=OO.mp hd;have:=dk hj;simp only[D.dep]at hE;lia
 have z:=SeqAt.RcNeAt.tuples p1 p2 hu (pO ok q1 q2 y1 y2 λd hm e hm2 v w u u' i1 i2 r1 r2=>rec d e v w u u' (hd d hm) (he e hm2) i1 i2 r1 r2);rw[e1,e2,vJ]at z;exact z
def rT(h:SeqAt.RcAt A s (.ref a1) (.ref a2) k)(hs:a1=a2->k=true):SeqAt.EqAt A s (.ref a1) (.ref a2) k:=by
 by_cases e:a1=a2
 .subst e;rw[hs rfl];exact Se _
 .exact SeqAt.EqAt.of_refs e h
end
def Is.shape(ok:HOk P w H s.heap)(hE:d.dep<1000)(h:Is H m d v)(r:RelV v u):(d=.ba/\u=.none)\/(∃b,d=.bl b/\u=.bool b)\/(∃i t,d=.int i/\u=.int i t)\/(∃x t,d=.str x/\u=.str x t)\/
 (∃l a vs its,d=.lst l/\v=.ref a/\u=.ref a/\IsAll H m l vs/\Vals vs its/\s.heap.IsList a its.toArray)\/∃l a vs its,d=.tup l/\v=.ref a/\u=.ref a/\IsAll H m l vs/\Vals vs its/\s.heap.IsTuple a its.toArray:=by
 cases d with
 |ba=>cases h;cases r;exact .inl ⟨rfl,rfl⟩
 |bl b=>cases h;cases r;exact .inr (.inl ⟨b,rfl,rfl⟩)
 |int i=>cases h;obtain⟨t,rfl⟩:=r;exact .inr (.inr (.inl ⟨i,t,rfl,rfl⟩))
 |str x=>cases h;obtain⟨t,rfl⟩:=r;exact .inr (.inr (.inr (.inl ⟨x,t,rfl,rfl⟩)))
 |lst l=>obtain⟨a,vs,rfl,g,q⟩:=h;cases r;obtain⟨its,y,p⟩:=FP ok g;exact .inr (.inr (.inr (.inr (.inl ⟨l,a,vs,its,rfl,rfl,rfl,q,y,p⟩))))
 |tup l=>obtain⟨a,vs,rfl,g,q⟩:=h;cases r;obtain⟨its,y,p⟩:=FQ ok g;exact .inr (.inr (.inr (.inr (.inr ⟨l,a,vs,its,rfl,rfl,rfl,q,y,p⟩))))
 |iU k l=>exact absurd hE (by simp only[D.dep];lia)
def Cy(ok:HOk P w H s.heap)(hu:A.units<cLine)(rec:ke H s m m' A n)(hn:d.dep<=n)(hN:n<1000)(hE:e.dep<1000)(h1:Is H m d v)(h2:Is H m' e w')(r1:RelV v u)(r2:RelV w' u') :
 SeqAt.RcAt A s u u' (g9 d e):=by
 rcases h1.shape ok (by lia) r1 with⟨rfl,rfl⟩|⟨b1,rfl,rfl⟩|⟨i1,t1,rfl,rfl⟩|⟨x1,t1,rfl,rfl⟩|⟨l1,a1,vs1,its1,rfl,rfl,rfl,q1,y1,p1⟩|⟨l1,a1,vs1,its1,rfl,rfl,rfl,q1,y1,p1⟩<;>rcases h2.shape ok hE r2 with⟨rfl,rfl⟩|⟨b2,rfl,rfl⟩|⟨i2,t2,rfl,rfl⟩|⟨x2,t2,rfl,rfl⟩|⟨l2,a2,vs2,its2,rfl,rfl,rfl,q2,y2,p2⟩|⟨l2,a2,vs2,its2,rfl,rfl,rfl,q2,y2,p2⟩;exact .none_none;exact .none_bool b2;exact .none_int i2 t2;exact .none_str x2 t2;exact .none_list p2 hu;exact .none_tuple p2 hu;exact .bool_none b1;exact .bool_bool b1 b2;exact .bool_int b1 i2 t2;exact .bool_str b1 x2 t2;exact .bool_list b1 p2 hu;exact .bool_tuple b1 p2 hu;exact .int_none i1 t1;exact .int_bool i1 t1 b2;exact .int_int i1 t1 i2 t2;exact .int_str i1 t1 x2 t2;exact .int_list i1 t1 p2 hu;exact .int_tuple i1 t1 p2 hu;exact .str_none x1 t1;exact .str_bool x1 t1 b2;exact .str_int x1 t1 i2 t2;exact .str_str x1 t1 x2 t2;exact .str_list x1 t1 p2 hu;exact .str_tuple x1 t1 p2 hu;exact .list_none p1 hu;exact .list_bool b2 p1 hu;exact .list_int i2 t2 p1 hu;exact .list_str x2 t2 p1 hu;exact l9 ok hn hE hu q1 q2 y1 y2 p1 p2 rec;exact .list_tuple p1 p2 hu;exact .tuple_none p1 hu;exact .tuple_bool b2 p1 hu;exact .tuple_int i2 t2 p1 hu;exact .tuple_str x2 t2 p1 hu;exact .tuple_list p1 p2 hu;exact oB ok hn hE hu q1 q2 y1 y2 p1 p2 rec
def Cz(ok:HOk P w H s.heap)(hu:A.units<cLine)(rec:ke H s m m' A n)(hn:d.dep<=n)(hN:n<1000)(hE:e.dep<1000)(h1:Is H m d v)(h2:Is H m' e w')(r1:RelV v u)(r2:RelV w' u') :
 SeqAt.RcNeAt A s u u' (!g9 d e):=by
 rcases h1.shape ok (by lia) r1 with⟨rfl,rfl⟩|⟨b1,rfl,rfl⟩|⟨i1,t1,rfl,rfl⟩|⟨x1,t1,rfl,rfl⟩|⟨l1,a1,vs1,its1,rfl,rfl,rfl,q1,y1,p1⟩|⟨l1,a1,vs1,its1,rfl,rfl,rfl,q1,y1,p1⟩<;>rcases h2.shape ok hE r2 with⟨rfl,rfl⟩|⟨b2,rfl,rfl⟩|⟨i2,t2,rfl,rfl⟩|⟨x2,t2,rfl,rfl⟩|⟨l2,a2,vs2,its2,rfl,rfl,rfl,q2,y2,p2⟩|⟨l2,a2,vs2,its2,rfl,rfl,rfl,q2,y2,p2⟩;exact .none_none;exact .none_bool b2;exact .none_int i2 t2;exact .none_str x2 t2;exact .none_list p2 hu;exact .none_tuple p2 hu;exact .bool_none b1;exact .bool_bool b1 b2;exact .bool_int b1 i2 t2;exact .bool_str b1 x2 t2;exact .bool_list b1 p2 hu;exact .bool_tuple b1 p2 hu;exact .int_none i1 t1;exact .int_bool i1 t1 b2;exact .int_int i1 t1 i2 t2;exact .int_str i1 t1 x2 t2;exact .int_list i1 t1 p2 hu;exact .int_tuple i1 t1 p2 hu;exact .str_none x1 t1;exact .str_bool x1 t1 b2;exact .str_int x1 t1 i2 t2;exact .str_str x1 t1 x2 t2;exact .str_list x1 t1 p2 hu;exact .str_tuple x1 t1 p2 hu;exact .list_none p1 hu;exact .list_bool b2 p1 hu;exact .list_int i2 t2 p1 hu;exact .list_str x2 t2 p1 hu;exact pQ ok hn hE hu q1 q2 y1 y2 p1 p2 rec;exact .list_tuple p1 p2 hu;exact .tuple_none p1 hu;exact .tuple_bool b2 p1 hu;exact .tuple_int i2 t2 p1 hu;exact .tuple_str x2 t2 p1 hu;exact .tuple_list p1 p2 hu;exact rS ok hn hE hu q1 q2 y1 y2 p1 p2 rec
def vK(ok:HOk P w H s.heap)(hu:A.units<cLine)(rec:ke H s m m' A n)(hn:d.dep<=n)(hN:n<1000)(hE:e.dep<1000)(h1:Is H m d v)(h2:Is H m' e w')(r1:RelV v u)(r2:RelV w' u') :
 SeqAt.EqAt A s u u' (g9 d e):=by
 rcases h1.shape ok (by lia) r1 with⟨rfl,rfl⟩|⟨b1,rfl,rfl⟩|⟨i1,t1,rfl,rfl⟩|⟨x1,t1,rfl,rfl⟩|⟨l1,a1,vs1,its1,rfl,rfl,rfl,q1,y1,p1⟩|⟨l1,a1,vs1,its1,rfl,rfl,rfl,q1,y1,p1⟩<;>rcases h2.shape ok hE r2 with⟨rfl,rfl⟩|⟨b2,rfl,rfl⟩|⟨i2,t2,rfl,rfl⟩|⟨x2,t2,rfl,rfl⟩|⟨l2,a2,vs2,its2,rfl,rfl,rfl,q2,y2,p2⟩|⟨l2,a2,vs2,its2,rfl,rfl,rfl,q2,y2,p2⟩;exact .same _;exact .none_bool b2;exact .none_int i2 t2;exact .none_str x2 t2;exact .none_list p2 hu;exact .none_tuple p2 hu;exact .bool_none b1;exact .bool_bool b1 b2;exact .bool_int b1 i2 t2;exact .bool_str b1 x2 t2;exact .bool_list b1 p2 hu;exact .bool_tuple b1 p2 hu;exact .int_none i1 t1;exact .int_bool i1 t1 b2;exact .int_int i1 t1 i2 t2;exact .int_str i1 t1 x2 t2;exact .int_list i1 t1 p2 hu;exact .int_tuple i1 t1 p2 hu;exact .str_none x1 t1;exact .str_bool x1 t1 b2;exact .str_int x1 t1 i2 t2;exact .str_str x1 t1 x2 t2;exact .str_list x1 t1 p2 hu;exact .str_tuple x1 t1 p2 hu;exact .list_none p1 hu;exact .list_bool b2 p1 hu;exact .list_int i2 t2 p1 hu;exact .list_str x2 t2 p1 hu;exact rT (l9 ok hn hE hu q1 q2 y1 y2 p1 p2 rec) (λz=>by subst z;rw[Is.inj h1 h2];exact gA _);exact .list_tuple p1 p2 hu;exact .tuple_none p1 hu;exact .tuple_bool b2 p1 hu;exact .tuple_int i2 t2 p1 hu;exact .tuple_str x2 t2 p1 hu;exact .tuple_list p1 p2 hu;exact rT (oB ok hn hE hu q1 q2 y1 y2 p1 p2 rec) (λz=>by subst z;rw[Is.inj h1 h2];exact gA _)
theorem Ek(ok:HOk P w H s.heap):∀(n:Nat)(A:SE){d e:D}{v w':V}{u u':SD},A.units+n<cLine->n<1000->d.dep<=n->e.dep<1000->Is H m d v->Is H m' e w'->RelV v u->RelV w' u'->SeqAt.EqAt A s u u' (g9 d e)
 |0,A,d,e,v,w',u,u',hu,hN,hn,hE,h1,h2,r1,r2=>vK ok (by lia) (λd e v w u u' hd=>absurd hd (by lia)) hn hN hE h1 h2 r1 r2
 |n+1,A,d,e,v,w',u,u',hu,hN,hn,hE,h1,h2,r1,r2=>vK ok (by lia) (λd e v w u u' hd he i1 i2 r1 r2=>Ek ok n A.in1 (by show A.units+1+n<cLine;lia) (by lia) (by lia) he i1 i2 r1 r2) hn hN hE h1 h2 r1 r2
def zD(ok:HOk P w H s.heap)(hu:A.units+n<cLine)(hN:n<1000):ke H s m m' A n:=λd e v w u u' hd he i1 i2 r1 r2=>Ek ok (n-1) A.in1 (by show A.units+1+(n-1)<cLine;lia) (by lia) (by lia) he i1 i2 r1 r2
end
abbrev St:=L2.St
inductive Res(α:Type) where
 |stuck|ok (a:α)|exc (c:Str)
noncomputable def Res.bind{α β:Type}:Res α->(α->Res β)->Res β
 |.stuck,_=>.stuck
 |.exc c,_=>.exc c
 |.ok a,k=>k a
@[simp] theorem Res.eS {α β:Type}(a:α)(k:α->Res β):(Res.ok a).bind k=k a:=rfl
inductive Kd where
 |no|tr (d:D)|ds (d:D)
inductive Sl where
 |val (d:D) (fr:Bool)|own (ds:List D) (fr:Bool)|oY (d:D)|Bz (d:D)
noncomputable abbrev En:=List (Option Sl)
inductive R where
 |val (d:D) (fr:Bool) (al:List Nat)|new (ds:List D) (fr:Bool)|gd (d:D)
noncomputable def R.d:R->D
 |.val d _ _=>d
 |.new ds _=>.lst ds
 |.gd d=>d
noncomputable def R.fr:R->Bool
 |.val _ f _=>f
 |.new _ f=>f
 |.gd _=>true
noncomputable def R.al:R->List Nat
 |.val _ _ al=>al
 |.new _ _=>[]
 |.gd _=>[]
def jK(d:D)(fr:Bool)(al:List Nat):R:=if d.flat then .val d true []else .val d fr al
structure Gd where
 H₀:Hp
 Ma:Addr->Prop
 Z:Addr->Prop
 root:Option V
 Ng:Option V
noncomputable abbrev Ja(H:Hp)(Ma:Addr->Prop):Gd:=⟨H,Ma,λ_=>False,none,none⟩
def MuZ(g:Gd)(H:Hp)(a:Addr):Prop:=Mu H a\/(g.Z a/\∃o u,H a=some (.aV o u))
theorem MuZ.same(h:MuZ g H a)(s:∀o,H a=some o->H' a=some o):MuZ g H' a:=h.imp (λz=>z.same s) λ⟨z,o,u,e⟩=>⟨z,o,u,s _ e⟩
def d4(g:Gd)(M:Addr->Prop)(fr:Bool)(a:Addr):Prop:=M a/\(fr=true->g.H₀ a=none)
noncomputable abbrev Pr:=Nat->Addr->Prop
def vmsk(g:Gd)(M:Addr->Prop)(fr:Bool)(ρ:Pr)(al:List Nat)(a:Addr):Prop:=d4 g M fr a\/∃i,i∈al/\ρ i a
mutual
noncomputable def IsSh(H:Hp)(m:Addr->Prop):D->V->Prop
 |.tup ds,v=>∃a vs,v=.ref a/\H a=some (.tup vs)/\IsShs H m ds vs
 |.lst _,v=>∃a vs,v=.ref a/\H a=some (.lst vs)/\m a
 |_,_=>True
noncomputable def IsShs(H:Hp)(m:Addr->Prop):List D->List V->Prop
 |[],_=>True
 |d::ds,vs=>∃v r,vs=v::r/\IsSh H m d v/\IsShs H m ds r
end
def Dst(H:Hp)(T:Addr->Prop)(v:V):Prop:=∃(a:Addr)(vs:List V),v=.ref a/\T a/\(H a=some (.lst vs)\/(∃kvs,H a=some (.dK kvs)/\vs=kvs.map Prod.snd)\/(H a=some (.dT [])/\vs=[]))/\V.ref a∉vs/\∀(i j:Nat)(b:Addr),vs[i]?=some (V.ref b)->vs[j]?=some (V.ref b)->i=j
def Dst.mono(kp:∀a o,T a->H a=some o->H' a=some o)(mm:∀a,T a->T' a)(h:Dst H T v):Dst H' T' v:=by obtain⟨a,vs,e,ta,h1,h2⟩:=h;exact⟨a,vs,e,mm a ta,h1.imp (kp a _ ta) (.imp (λ⟨kvs,q,z⟩=>⟨kvs,kp a _ ta q,z⟩) λ⟨q,z⟩=>⟨kp a _ ta q,z⟩),h2⟩
def KdOk(H:Hp)(T:Addr->Prop)(v:V):Kd->Prop
 |.no=>True
 |.tr d=>Is H T d v
 |.ds d=>Is H T d v/\Dst H T v
theorem KdOk.mono(kp:∀a o,H a=some o->(T a\/gB o)->H' a=some o)(h:KdOk H T v k):KdOk H' T v k:=by
 cases k with
 |no=>exact h
 |tr d=>exact Is.mono kp (λ_ _ _ z=>z) h
 |ds d=>exact⟨Is.mono kp (λ_ _ _ z=>z) h.1,h.2.mono (λa o z e=>kp a o e (.inl z)) λ_ z=>z⟩
noncomputable def Gd.rt(g:Gd)(n:Nat):Option V:=if n=0 then g.root else g.Ng
def SlOk(g:Gd)(M T:Addr->Prop)(H:Hp)(v:V):Sl->Prop
 |.val d fr=>Is H (d4 g M fr) d v
 |.own ds fr=>∃a vs,v=.ref a/\H a=some (.lst vs)/\(∀b,T b↔b=a)/\IsAll H (d4 g M fr) ds vs
 |.oY d=>Is H T d v
 |.Bz d=>IsSh H T d v
noncomputable def Sl.Lw:Sl->Bool
 |.val _ _=>false
 |_=>true
def eh(env:En)(j:Nat):Bool:=match env[j]? with
 |some (some sl)=>sl.Lw
 |_=>false
structure Rep(g:Gd) (M:Addr->Prop) (ρ:Pr) (env:En) (σ:St) (H:Hp):Prop where
 same:Same g.H₀ H
 ic:∀a,M a->H a≠none
 tL:∀a,M a->g.H₀ a=none\/g.Ma a
 fl:∀a,M a->g.H₀ a=none->MuZ g H a
 slot:∀(i:Nat)(sl:Sl),env[i]?=some (some sl)->∃v,σ[i]?=some (some v)/\SlOk g M (ρ i) H v sl
 bO:∀(i:Nat)(a:Addr),ρ i a->¬M a/\g.H₀ a=none/\Mu H a
 apart:∀(i j:Nat)(a:Addr),ρ i a->ρ j a->i=j
 ow:∀(i:Nat)(a:Addr),ρ i a->eh env i=true
 len:env.length=σ.length
 zz:∀a,g.Z a->H a≠none
def ROk(g:Gd)(M:Addr->Prop)(ρ:Pr)(H0 H:Hp)(v:V):R->Prop
 |.val d fr al=>Is H (vmsk g M fr ρ al) d v
 |.new ds fr=>∃a vs,v=.ref a/\H a=some (.lst vs)/\¬M a/\H0 a=none/\(∀i,¬ρ i a)/\IsAll H (d4 g M fr) ds vs
 |.gd d=>∃T:Addr->Prop,(∀a,T a->¬M a/\H0 a=none/\Mu H a/\∀i,¬ρ i a)/\Is H T d v
structure Ext(M:Addr->Prop) (H:Hp) (M':Addr->Prop) (H':Hp):Prop where
 m:∀a,M a->M' a
 h:Same H H'
 n:∀a,M' a->M a\/H a=none
theorem Ext.refl(M:Addr->Prop)(H:Hp):Ext M H M H:=⟨λ_ z=>z,Same.refl H,λ_ z=>.inl z⟩
theorem Ext.trans{M M1 M2:Addr->Prop}(a:Ext M H M1 H1)(b:Ext M1 H1 M2 H2):Ext M H M2 H2:=⟨λx z=>b.m x (a.m x z),a.h.trans b.h,λx z=>(b.n x z).elim (a.n x) λw=>.inr (a.h.free w)⟩
section
mutual
theorem IsSh.mono(kp:∀a o,H a=some o->gB o->H' a=some o)(kl:∀a vs,m a->H a=some (.lst vs)->∃vs',H' a=some (.lst vs'))(mm:∀a,m a->m' a):∀{d:D}{v:V},IsSh H m d v->IsSh H' m' d v
 |.ba,_,h=>h
 |.bl _,_,h=>h
 |.int _,_,h=>h
 |.str _,_,h=>h
 |.tup ds,_,h=>by obtain⟨a,vs,e,h1,h2⟩:=h;exact⟨a,vs,e,kp a _ h1 True.intro,IsShs.mono kp kl mm h2⟩
 |.lst ds,_,h=>by obtain⟨a,vs,e,h1,h2⟩:=h;obtain⟨vs',h3⟩:=kl a vs h2 h1;exact⟨a,vs',e,h3,mm a h2⟩
 |.iU _ _,_,h=>h
theorem IsShs.mono(kp:∀a o,H a=some o->gB o->H' a=some o)(kl:∀a vs,m a->H a=some (.lst vs)->∃vs',H' a=some (.lst vs'))(mm:∀a,m a->m' a):∀{ds:List D}{vs:List V},IsShs H m ds vs->IsShs H' m' ds vs
 |[],_,h=>h
 |d::ds,_,h=>by obtain⟨v,r,e,h1,h2⟩:=h;exact⟨v,r,e,IsSh.mono kp kl mm h1,IsShs.mono kp kl mm h2⟩
end
def d4.mono(mm:∀a,M a->M' a)(h:d4 g M fr a):d4 g M' fr a:=⟨mm a h.1,h.2⟩
theorem vmsk.mono(mm:∀a,M a->M' a)(h:vmsk g M fr ρ al a):vmsk g M' fr ρ al a:=h.imp (d4.mono mm) id
def Is.ext(e:Ext M H M' H')(h:Is H (vmsk g M fr ρ al) d v):Is H' (vmsk g M' fr ρ al) d v:=h.mono (λa o q _=>e.h a o q) λ_ _ _ z=>z.mono e.m
def IsAll.ext(e:Ext M H M' H')(h:IsAll H (vmsk g M fr ρ al) ds vs):IsAll H' (vmsk g M' fr ρ al) ds vs:=h.mono (λa o q _=>e.h a o q) λ_ _ _ z=>z.mono e.m
theorem SlOk.weak(mm:∀a,M a->M' a)(h:SlOk g M T H v sl):SlOk g M' T H v sl:=by
 cases sl with
 |val d fr=>exact Is.weak (λb z=>d4.mono mm z) h
 |own ds fr=>obtain⟨b,vs,rfl,h1,h2,h4⟩:=h;exact⟨b,vs,rfl,h1,h2,IsAll.weak (λb z=>d4.mono mm z) h4⟩
 |oY d=>exact h
 |Bz d=>exact h
theorem SlOk.same(s:Same H H')(h:SlOk g M T H v sl):SlOk g M T H' v sl:=by
 cases sl with
 |val d fr=>exact Is.same s h
 |own ds fr=>obtain⟨b,vs,rfl,h1,h2,h4⟩:=h;exact⟨b,vs,rfl,s _ _ h1,h2,IsAll.same s h4⟩
 |oY d=>exact Is.same s h
 |Bz d=>exact IsSh.mono (λa o e _=>s a o e) (λa vs _ e=>⟨vs,s _ _ e⟩) (λ_ z=>z) h
def Rep.Bk{T:Addr->Prop}(r:Rep g M ρ env σ H)(ht:∀a,T a->Mu H a/\g.H₀ a=none/\∀i,¬ρ i a):Rep g (λb=>M b\/T b) ρ env σ H where
 same:=r.same
 ic:=λb hb=>hb.elim (r.ic b) λe=>(ht b e).1.some
 tL:=λb hb=>hb.elim (r.tL b) λe=>.inl (ht b e).2.1
 fl:=λb hb h0=>hb.elim (λz=>r.fl b z h0) λe=>.inl (ht b e).1
 slot:=λi sl e=>by obtain⟨v,ev,s⟩:=r.slot i sl e;exact⟨v,ev,SlOk.weak (λ_=>.inl) s⟩
 bO:=λi a h=>⟨λz=>z.elim (r.bO i a h).1 λz=>(ht a z).2.2 i h,(r.bO i a h).2⟩
 apart:=r.apart
 ow:=r.ow
 len:=r.len
 zz:=r.zz
def Rep.more{a:Addr}(r:Rep g M ρ env σ H)(ha:H a=some (.lst ws))(h0:g.H₀ a=none)(no:∀i,¬ρ i a):Rep g (λb=>M b\/b=a) ρ env σ H:=r.Bk λb e=>by subst e;exact⟨Mu.lst ha,h0,no⟩
def Rep.grow(r:Rep g M ρ env σ H)(s:Same H H'):Rep g M ρ env σ H' where
 same:=r.same.trans s
 ic:=λa ha e=>by
  cases q:H a with
  |none=>exact r.ic a ha q
  |some o=>rw[s a o q]at e;cases e
 tL:=r.tL
 fl:=λa ha h0=>(r.fl a ha h0).same λo e=>s a o e
 slot:=λi sl e=>by obtain⟨v,ev,k⟩:=r.slot i sl e;exact⟨v,ev,SlOk.same s k⟩
 bO:=λi a h=>let ⟨a1,a2,a3⟩:=r.bO i a h;⟨a1,a2,a3.same λo e=>s a o e⟩
 apart:=r.apart
 ow:=r.ow
 len:=r.len
 zz:=λa z e=>by
  cases q:H a with
  |none=>exact r.zz a z q
  |some o=>rw[s a o q]at e;cases e
theorem Rep.free(r:Rep g M ρ env σ H)(h:H a=none):g.H₀ a=none/\¬M a/\∀i,¬ρ i a:=by refine⟨r.same.free h,λz=>r.ic a z h,λi o=>?_⟩;exact(r.bO i a o).2.2.some h
def ai(h:H a=none):Same H (upd H a o):=λb u e=>by rw[ah (ak e h)];exact e
theorem ROk.is(rep:Rep g M ρ env σ H)(x:Ext M0 H0 M H)(h0:Same g.H₀ H0)(h:ROk g M ρ H0 H v r):∃M',Ext M0 H0 M' H/\(∀a,M a->M' a)/\Rep g M' ρ env σ H/\Is H (vmsk g M' r.fr ρ r.al) r.d v:=by
 cases r with
 |val d fr al=>exact⟨M,x,λ_ z=>z,rep,h⟩
 |new ds fr=>obtain⟨a,vs,rfl,h1,h2,h3,h4,h5⟩:=h;have z0:g.H₀ a=none:=h0.free h3;exact⟨λb=>M b\/b=a,⟨λb z=>.inl (x.m b z),x.h,λb z=>z.elim (x.n b) λe=>.inr (e▸h3)⟩,λ_=>.inl,rep.more h1 z0 h4,a,vs,rfl,.inl ⟨h1,.inl ⟨.inr rfl,λ_=>z0⟩⟩,IsAll.weak (λb z=>.inl (d4.mono (λ_=>.inl) z)) h5⟩
 |gd d=>obtain⟨T,ht,is⟩:=h;exact⟨λb=>M b\/T b,⟨λb z=>.inl (x.m b z),x.h,λb z=>z.elim (x.n b) λe=>.inr (ht b e).2.1⟩,λ_=>.inl,rep.Bk λa z=>let ⟨a1,a2,a3,a4⟩:=ht a z;⟨a3,h0.free a2,a4⟩,Is.weak (λb z=>.inl ⟨.inr z,λ_=>h0.free (ht b z).2.1⟩) is⟩
theorem ROk.jK(h:Is H (vmsk g M fr ρ al) d v):ROk g M ρ H0 H v (jK d fr al):=by
 unfold L3.jK;split
 .exact Is.flat (by assumption) h
 .exact h
def ROk.back(s:Same H1 H0)(h:ROk g M ρ H0 H v r):ROk g M ρ H1 H v r:=by
 cases r with
 |val d fr al=>exact h
 |new ds fr=>obtain⟨a,vs,rfl,h1,h2,h3,h4,h5⟩:=h;exact⟨a,vs,rfl,h1,h2,s.free h3,h4,h5⟩
 |gd d=>obtain⟨T,ht,is⟩:=h;exact⟨T,λa z=>let ⟨a1,a2,a3⟩:=ht a z;⟨a1,s.free a2,a3⟩,is⟩
end
def CA(mg:Str->Option SD)(E:XK)(g:Gd)(c:Str):Prop:=∀cls dx H',mg c=some cls->Same g.H₀ H'->E cls dx H'
section
variable(mg:Str->Option SD)(E:XK)(g:Gd)(M:Addr->Prop)(ρ:Pr)(env:En)(σ:St)(H:Hp)
def PostE(Q:VK):Res R->Prop
 |.stuck=>False
 |.exc c=>CA mg E g c
 |.ok r=>∀v M' H',Ext M H M' H'->Rep g M' ρ env σ H'->ROk g M' ρ H H' v r->Q v H'
def bc(rs:List R):Bool:=rs.all R.fr
def bM(rs:List R):List Nat:=rs.flatMap R.al
def PostA(Q:List V->Hp->Prop):Res (List R)->Prop
 |.stuck=>False
 |.exc c=>CA mg E g c
 |.ok rs=>∀vs M' H',Ext M H M' H'->Rep g M' ρ env σ H'->IsAll H' (vmsk g M' (bc rs) ρ (bM rs)) (rs.map R.d) vs->Q vs H'
noncomputable def PostT(Q:Bool->Hp->Prop):Res Bool->Prop
 |.stuck=>False
 |.exc c=>CA mg E g c
 |.ok b=>∀M' H',Ext M H M' H'->Rep g M' ρ env σ H'->Q b H'
end
def Snd(mg:Str->Option SD)(E:XK)(t:TE)(f:En->Res R):Prop:=∀g M ρ env σ H Q,Rep g M ρ env σ H->PostE mg E g M ρ env σ H Q (f env)->t σ H Q
def SndA(mg:Str->Option SD)(E:XK)(t:TA)(f:En->Res (List R)):Prop:=∀g M ρ env σ H Q,Rep g M ρ env σ H->PostA mg E g M ρ env σ H Q (f env)->t σ H Q
def SndT(mg:Str->Option SD)(E:XK)(t:TT)(f:En->Res Bool):Prop:=∀g M ρ env σ H Q,Rep g M ρ env σ H->PostT mg E g M ρ env σ H Q (f env)->t σ H Q
def PD(X:Cx)(E:XK)(e:Expr)(f:En->Res R):Prop:=∃t,PE X e t/\Snd X.mg E t f
def Bs(X:Cx)(E:XK)(es:List Expr)(f:En->Res (List R)):Prop:=∃t,PA X es t/\SndA X.mg E t f
def zE(X:Cx)(E:XK)(e:Expr)(f:En->Res Bool):Prop:=∃t,PT X e t/\SndT X.mg E t f
def PWD(X:Cx)(E:XK)(e:Expr)(f:En->Res Bool):Prop:=∃t,PW X e t/\SndT X.mg E t f
theorem PWD.pt(h:PWD X E e f):zE X E e f:=let ⟨t,a,b⟩:=h;⟨t,a.pt,b⟩
section
def PostE.ext(e:Ext M H M' H')(p:PostE mg E g M ρ env σ H Q r):PostE mg E g M' ρ env σ H' Q r:=by
 cases r with
 |stuck=>exact p
 |exc c=>exact p
 |ok r=>exact λv M2 H2 e2 rep2 ro=>p v M2 H2 (e.trans e2) rep2 (ro.back e.h)
def PostA.ext(e:Ext M H M' H')(p:PostA mg E g M ρ env σ H Q r):PostA mg E g M' ρ env σ H' Q r:=by
 cases r with
 |stuck=>exact p
 |exc c=>exact p
 |ok r=>exact λv M2 H2 e2=>p v M2 H2 (e.trans e2)
def PostT.ext(e:Ext M H M' H')(p:PostT mg E g M ρ env σ H Q r):PostT mg E g M' ρ env σ H' Q r:=by
 cases r with
 |stuck=>exact p
 |exc c=>exact p
 |ok r=>exact λM2 H2 e2=>p M2 H2 (e.trans e2)
def PostE.val(p:PostE mg E g M ρ env σ H Q (.ok (jK d fr al)))(rep:Rep g M ρ env σ H)(h:Is H (vmsk g M fr ρ al) d v):Q v H:=p v M H (Ext.refl M H) rep (ROk.jK h)
theorem PostE.new(p:PostE mg E g M ρ env σ H Q (.ok (.new ds fr)))(rep:Rep g M ρ env σ H)(ha:H a=none)(h:IsAll H (d4 g M fr) ds vs):Q (.ref a) (upd H a (.lst vs)):=by have s:Same H (upd H a (.lst vs)):=ai ha;obtain⟨h0,hm,ho⟩:=rep.free ha;exact p _ M _ ⟨λ_ z=>z,s,λ_ z=>.inl z⟩ (rep.grow s) ⟨a,vs,rfl,ac,hm,ha,ho,IsAll.same s h⟩
theorem PostE.tup(p:PostE mg E g M ρ env σ H Q (.ok (jK (.tup ds) fr al)))(rep:Rep g M ρ env σ H)(ha:H a=none)(h:IsAll H (vmsk g M fr ρ al) ds vs):Q (.ref a) (upd H a (.tup vs)):=by have s:Same H (upd H a (.tup vs)):=ai ha;exact p _ M _ ⟨λ_ z=>z,s,λ_ z=>.inl z⟩ (rep.grow s) (ROk.jK ⟨a,vs,rfl,ac,IsAll.same s h⟩)
def Snd.one{t:TE}{f:En->Res R}(h:Snd mg E t f)(rep:Rep g M ρ env σ H){α:Type}{K:R->Res α}{P:(M:Addr->Prop)->(H:Hp)->Res α->Prop}{Q:VK}
 (hp:P M H ((f env).bind K)) (hs:∀M H,P M H .stuck->False) (hx:∀M H c,P M H (.exc c)->CA mg E g c) (he:∀M H M' H' r,Ext M H M' H'->P M H r->P M' H' r)
 (k:∀r v M' H',Ext M H M' H'->Rep g M' ρ env σ H'->Is H' (vmsk g M' r.fr ρ r.al) r.d v->P M' H' (K r)->Q v H'):t σ H Q:=by
 refine h g M ρ env σ H Q rep ?_;cases e:f env with
 |stuck=>rw[e]at hp;exact hs _ _ hp
 |exc c=>rw[e]at hp;exact hx _ _ c hp
 |ok r=>rw[e]at hp;intro v M1 H1 e1 rep1 ro;obtain⟨M2,e2,_,rep2,is⟩:=ro.is rep1 e1 rep.same;exact k r v M2 H1 e2 rep2 is (he _ _ _ _ _ e2 hp)
def Snd.jA{f:En->Res R}(h:Snd mg E t f)(rep:Rep g M ρ env σ H){K:R->Res R}(hp:PostE mg E g M ρ env σ H Q' ((f env).bind K))
 (k:∀r v M' H',Ext M H M' H'->Rep g M' ρ env σ H'->Is H' (vmsk g M' r.fr ρ r.al) r.d v->PostE mg E g M' ρ env σ H' Q' (K r)->Q v H'):t σ H Q:=
 h.one rep (P:=λM H r=>PostE mg E g M ρ env σ H Q' r) hp (λ_ _ z=>z) (λ_ _ _ z=>z) (λ_ _ _ _ _ e p=>p.ext e) k
def Snd.Ij{f:En->Res R}(h:Snd mg E t f)(rep:Rep g M ρ env σ H){K:R->Res (List R)}{Q':List V->Hp->Prop}(hp:PostA mg E g M ρ env σ H Q' ((f env).bind K))
 (k:∀r v M' H',Ext M H M' H'->Rep g M' ρ env σ H'->Is H' (vmsk g M' r.fr ρ r.al) r.d v->PostA mg E g M' ρ env σ H' Q' (K r)->Q v H'):t σ H Q:=
 h.one rep (P:=λM H r=>PostA mg E g M ρ env σ H Q' r) hp (λ_ _ z=>z) (λ_ _ _ z=>z) (λ_ _ _ _ _ e p=>p.ext e) k
def Snd.ym{f:En->Res R}(h:Snd mg E t f)(rep:Rep g M ρ env σ H){K:R->Res Bool}{Q':Bool->Hp->Prop}(hp:PostT mg E g M ρ env σ H Q' ((f env).bind K))
 (k:∀r v M' H',Ext M H M' H'->Rep g M' ρ env σ H'->Is H' (vmsk g M' r.fr ρ r.al) r.d v->PostT mg E g M' ρ env σ H' Q' (K r)->Q v H'):t σ H Q:=
 h.one rep (P:=λM H r=>PostT mg E g M ρ env σ H Q' r) hp (λ_ _ z=>z) (λ_ _ _ z=>z) (λ_ _ _ _ _ e p=>p.ext e) k
def Snd.D7{fa fb:En->Res R}(ha:Snd mg E ta fa)(hb:Snd mg E tb fb)(rep:Rep g M ρ env σ H){K:R->R->Res R}{S:V->V->Hp->Prop}
 (hp:PostE mg E g M ρ env σ H Q' ((fa env).bind λra=>(fb env).bind λrb=>K ra rb))
 (k:∀ra rb x y M' H',Rep g M' ρ env σ H'->Is H' (vmsk g M' ra.fr ρ ra.al) ra.d x->Is H' (vmsk g M' rb.fr ρ rb.al) rb.d y->PostE mg E g M' ρ env σ H' Q' (K ra rb)->S x y H') :
 ta σ H λx H1=>tb σ H1 λy H2=>S x y H2:=
 ha.jA rep hp λra x M1 H1 e1 rep1 i1 p1=>hb.jA rep1 p1 λrb y M2 H2 e2 rep2 i2 p2=>k ra rb x y M2 H2 rep2 (i1.ext e2) i2 p2
end
noncomputable def lim:Nat:=1000000
def gC(h:n<=lim):n<=sizeLine:=by rw[Pg];unfold lim at h;lia
def zF(h:n<lim):n<sizeLine:=by rw[Pg];unfold lim at h;lia
def kC(ds:List D)(fr:Bool)(al:List Nat):R:=if D.aY ds then .new ds true else if al.isEmpty then .new ds fr else .val (.lst ds) fr al
section
def vmsk.nil(h:vmsk g M fr ρ [] a):d4 g M fr a:=h.elim id λ⟨_,z,_⟩=>absurd z (by simp)
theorem PostE.lst(p:PostE mg E g M ρ env σ H Q (.ok (kC ds fr al)))(rep:Rep g M ρ env σ H)(ha:H a=none)(h:IsAll H (vmsk g M fr ρ al) ds vs):Q (.ref a) (upd H a (.lst vs)):=by
 unfold kC at p;by_cases hf:D.aY ds=true
 .rw[Ow hf]at p;exact p.new rep ha (IsAll.flat hf h)
 .rw[Ox hf]at p;cases al with
  |nil=>exact PostE.new (p:=p) rep ha (IsAll.weak (λ_ z=>z.nil) h)
  |cons i al=>have p:PostE mg E g M ρ env σ H Q (.ok (.val (.lst ds) fr (i::al))):=p;have s:Same H (upd H a (.lst vs)):=ai ha;obtain⟨h0,hm,ho⟩:=rep.free ha;refine p _ (λb=>M b\/b=a) _ ⟨λ_=>.inl,s,λb z=>z.imp id λ(e:b=a)=>by grind⟩ ((rep.grow s).more ac h0 ho) ⟨a,vs,rfl,.inl ⟨ac,.inl ⟨.inr rfl,λ_=>h0⟩⟩,?_⟩;exact(IsAll.same s h).weak λb z=>z.mono λ_=>.inl
def Is.rd(h:Is H m (.lst ds) v):∃a vs,v=.ref a/\Rd H a (.lst vs)/\IsAll H m ds vs:=by obtain⟨a,vs,e,h1,h2⟩:=h;exact⟨a,vs,e,h1.imp (·.1) λ⟨o,z,_⟩=>⟨o,z⟩,h2⟩
end
section
def am(i:Nat):En->Res R:=λenv=>match env[i]? with
 |some (some (.val d fr))=>.ok (jK d fr [])
 |some (some (.own ds fr))=>.ok (.val (.lst ds) fr [i])
 |some (some (.oY d))=>.ok (.val d true [i])
 |_=>.stuck
def vL:Snd mg E (tVar i) (am i):=by
 intro g M ρ env σ H Q rep p;unfold am at p;cases e1:env[i]? with
 |none=>rw[e1]at p;exact p.elim
 |some o=>
  cases o with
  |none=>rw[e1]at p;exact p.elim
  |some sl=>
   obtain⟨v,ev,k⟩:=rep.slot i sl e1;rw[e1]at p;refine⟨v,ev,?_⟩;cases sl with
   |val d fr=>exact PostE.val p rep (Is.weak (λ_ z=>.inl z) k)
   |own ds fr=>obtain⟨a,vs,rfl,h1,h2,h4⟩:=k;exact p _ M H (Ext.refl M H) rep ⟨a,vs,rfl,.inl ⟨h1,.inr ⟨i,by simp,(h2 a).mpr rfl⟩⟩,IsAll.weak (λ_ z=>.inl z) h4⟩
   |oY d=>exact p _ M H (Ext.refl M H) rep (Is.weak (λa z=>.inr ⟨i,by simp,z⟩) k)
   |Bz d=>exact p.elim
def FR(h:PE X e (tVar i)):PD X E e (am i):=⟨_,h,vL⟩
def vC(d:D):En->Res R:=λ_=>.ok (.val d true [])
def El(h:∀H m,Is H m d v):Snd mg E (tC v) (vC d):=λg M ρ env σ H Q rep p=>p v M H (Ext.refl M H) rep (h H _)
def aB{i j pos}:PD X E (.Constant (.int i) j pos) (vC (.int i)):=⟨_,aQ,El λ_ _=>rfl⟩
def zG{b j pos}:PD X E (.Constant (.bool b) j pos) (vC (.bl b)):=⟨_,lB,El λ_ _=>rfl⟩
def v2(op:R->R->Res R)(fa fb:En->Res R):En->Res R:=λenv=>(fa env).bind λra=>(fb env).bind λrb=>op ra rb
def uC(X:Cx)(E:XK)(f:SD->SD->Sem SD)(op:R->R->Res R):Prop:=∃r:R2,OpR X f r/\
 ∀g M ρ env σ H Q ra rb x y,Rep g M ρ env σ H->Is H (vmsk g M ra.fr ρ ra.al) ra.d x->Is H (vmsk g M rb.fr ρ rb.al) rb.d y->PostE X.mg E g M ρ env σ H Q (op ra rb)->r x y H Q
def aE(ho:uC X E (binaryOp op) k)(ha:PD X E a fa)(hb:PD X E b fb):PD X E (.BinOp a op b pos) (v2 k fa fb):=by obtain⟨r,h1,h2⟩:=ho;obtain⟨ta,pa,sa⟩:=ha;obtain⟨tb,pb,sb⟩:=hb;exact⟨_,yD h1 pa pb,λg M ρ env σ H Q rep p=>sa.D7 sb rep p λra rb x y M' H' rep' i1 i2 p'=>h2 g M' ρ env σ H' Q ra rb x y rep' i1 i2 p'⟩
def FS(ho:uC X E (compareOp op) k)(ha:PD X E a fa)(hb:PD X E b fb)(hm:behindInMarks op b=false):PD X E (.Compare a [op] [b] pos) (v2 k fa fb):=by obtain⟨r,h1,h2⟩:=ho;obtain⟨ta,pa,sa⟩:=ha;obtain⟨tb,pb,sb⟩:=hb;exact⟨_,o6 h1 pa pb hm,λg M ρ env σ H Q rep p=>sa.D7 sb rep p λra rb x y M' H' rep' i1 i2 p'=>h2 g M' ρ env σ H' Q ra rb x y rep' i1 i2 p'⟩
def oI(C:Int->Int->Bool)(k:Int->Int->D)(a b:R):Res R:=match a.d,b.d with
 |.int i,.int j=>if C i j then .ok (.val (k i j) true [])else .stuck
 |_,_=>.stuck
def vM{f:SD->SD->Sem SD}{C:Int->Int->Prop}{kV:Int->Int->V}(c:Int->Int->Bool)(k:Int->Int->D)(ho:OpR X f (rI C kV))(hc:∀i j,c i j=true->C i j)(hk:∀H m i j,Is H m (k i j) (kV i j)):uC X E f (oI c k):=by
 refine⟨_,ho,λg M ρ env σ H Q ra rb x y rep i1 i2 p=>?_⟩;unfold oI at p;cases e1:ra.d with
 |int i=>
  rw[e1]at p i1;cases e2:rb.d with
  |int j=>
   rw[e2]at p i2;cases i1;cases i2;by_cases h:c i j=true
   .simp only[h,Qy]at p;exact⟨i,j,rfl,rfl,hc i j h,p _ M H (Ext.refl M H) rep (hk H _ i j)⟩
   .simp only[h]at p;exact p.elim
  |_=>rw[e2]at p;exact p.elim
 |_=>rw[e1]at p;exact p.elim
def pR{f:SD->SD->Sem SD}{kV:Int->Int->V}(k:Int->Int->D)(ho:OpR X f (BL kV))(hk:∀H m i j,Is H m (k i j) (kV i j)):uC X E f (oI (λ_ _=>true) k):=by refine vM (C:=λ_ _=>True) (kV:=kV) _ k (λaa s σ H x y v u Q I rx ry h=>?_) (λ_ _ _=>True.intro) hk;obtain⟨i,j,a,b,_,q⟩:=h;exact ho aa s σ H x y v u Q I rx ry ⟨i,j,a,b,q⟩
def FT:R->R->Res R:=oI (λ_ _=>true) λi j=>.int (i-j)
noncomputable def zH(i j:Int):Bool:=(decide (-(2^64)<i)&&decide (i<2^64)) ||(decide (-(2^64)<j)&&decide (j<2^64))
def zI:R->R->Res R:=oI zH λi j=>.int (i*j)
def fQ:R->R->Res R:=oI (λ_ j=>decide (0<j)&&decide (j<1073741824)) λi j=>.int (i/j)
def cw:R->R->Res R:=oI (λ_ j=>decide (0<j)) λi j=>.int (i%j)
def FU:uC X E (binaryOp .Sub) FT:=pR _ Ff λ_ _ _ _=>rfl
def uD:uC X E (binaryOp .Mult) zI:=vM _ _ Fg (λi j h=>by simp only[zH,Bool.or_eq_true,Pa,Qw]at h;exact h) λ_ _ _ _=>rfl
def cm:uC X E (binaryOp .FloorDiv) fQ:=vM _ _ BM (λi j h=>by simp only[Pa,Qw]at h;exact h) λ_ _ _ _=>rfl
def bf:uC X E (binaryOp .Mod) cw:=vM _ _ Fh (λi j h=>by simpa using h) λ_ _ _ _=>rfl
def LV:R->R->Res R:=oI (λ_ _=>true) λi j=>.bl (decide (i<j))
def FV:R->R->Res R:=oI (λ_ _=>true) λi j=>.bl (decide (j<i))
def LW:R->R->Res R:=oI (λ_ _=>true) λi j=>.bl (decide (j<=i))
def Jb:uC X E (compareOp .Lt) LV:=pR _ II λ_ _ _ _=>rfl
def zJ:uC X E (compareOp .Gt) FV:=pR _ IJ λ_ _ _ _=>rfl
def Jc:uC X E (compareOp .GtE) LW:=pR _ IK λ_ _ _ _=>rfl
def Inv.ND(I:L2.Inv X aa σ H s)(h:Rd H l (.lst xs)) :
 xs.length<=sizeLine/\∃(its:List SD)(n:Nat),Vals xs its/\xs.length=its.length/\s.heap.get? l=some { cls:=.type "list",data:=.seq its.toArray n }:=by
 obtain⟨z,its,n,r,e⟩:=(h.ok I.aF:ObjOk X.prog X.w H s.heap l (.lst xs));exact⟨z,its,n,r,r.length,e⟩
def Jd:R2:=λx y H Q=>∃l b xs zs,x=.ref l/\y=.ref b/\Rd H l (.lst xs)/\Rd H b (.lst zs)/\xs.length+zs.length<=sizeLine/\∀p,H p=none->Q (.ref p) (upd H p (.lst (xs++zs)))
def op_catS:OpR X (binaryOp .Add) Jd:=by
 intro aa s σ H x y v u Q I rx ry h;obtain⟨l,b,xs,zs,rfl,rfl,hH,hB,hz,q⟩:=h;cases rx;cases ry;obtain⟨z,its,n,r,hl,e⟩:=Inv.ND I hH;obtain⟨z2,its2,n2,r2,hl2,e2⟩:=Inv.ND I hB;refine PySem.P.add_list e e2 ?_ (by grind);have ea:its.toArray++its2.toArray=(its++its2).toArray:=by simp
 rw[ea];exact⟨.ref _,_,I.MX (t':=s.toks) (r.append r2) (by grind),rfl,q _ I.fresh⟩
def eZ(a b:R):Res R:=match a.d,b.d with
 |.int i,.int j=>.ok (.val (.int (i+j)) true [])
 |.lst xs,.lst ys=>if xs.length+ys.length<=lim then .ok (kC (xs++ys) (a.fr&&b.fr) (a.al++b.al))else .stuck
 |.tup xs,.tup ys=>if xs.length+ys.length<=lim/\xs≠[]then .ok (jK (.tup (xs++ys)) (a.fr&&b.fr) (a.al++b.al))else .stuck
 |.str x,.str y=>if x.length+y.length<=lim then .ok (.val (.str (x++y)) true [])else .stuck
 |_,_=>.stuck
section
def vmsk.l(h:vmsk g M f1 ρ l1 a):vmsk g M (f1&&f2) ρ (l1++l2) a:=h.imp (λz=>⟨z.1,λe=>z.2 (by grind)⟩) λ⟨i,hi,o⟩=>⟨i,by simp[hi],o⟩
def vmsk.r(h:vmsk g M f2 ρ l2 a):vmsk g M (f1&&f2) ρ (l1++l2) a:=h.imp (λz=>⟨z.1,λe=>z.2 (by grind)⟩) λ⟨i,hi,o⟩=>⟨i,by simp[hi],o⟩
end
def cP:uC X E (binaryOp .Add) eZ:=by
 refine⟨_,op_add.or (op_catS.or (op_catT.or tT)),λg M ρ env σ H Q ra rb x y rep i1 i2 p=>?_⟩;unfold eZ at p;cases e1:ra.d with
 |int i=>
  rw[e1]at p i1;cases e2:rb.d with
  |int j=>rw[e2]at p i2;cases i1;cases i2;exact .inl ⟨i,j,rfl,rfl,p _ M H (Ext.refl M H) rep rfl⟩
  |_=>rw[e2]at p;exact p.elim
 |lst xs=>
  rw[e1]at p i1;cases e2:rb.d with
  |lst ys=>
   rw[e2]at p i2;obtain⟨a,vs,rfl,h1,h2⟩:=i1.rd;obtain⟨b,ws,rfl,h3,h4⟩:=i2.rd;by_cases hz:xs.length+ys.length<=lim
   .simp only[hz,Qy]at p;refine .inr (.inl ⟨a,b,vs,ws,rfl,rfl,h1,h3,by rw[h2.length,h4.length];exact gC hz,λq hq=>?_⟩);exact p.lst rep hq ((h2.weak λ_ z=>z.l).append (h4.weak λ_ z=>z.r))
   .simp only[hz,Pk]at p;exact p.elim
  |_=>rw[e2]at p;exact p.elim
 |tup xs=>
  rw[e1]at p i1;cases e2:rb.d with
  |tup ys=>
   rw[e2]at p i2;obtain⟨a,vs,rfl,h1,h2⟩:=i1;obtain⟨b,ws,rfl,h3,h4⟩:=i2;dsimp only at p;by_cases hz:xs.length+ys.length<=lim/\xs≠[]
   .rw[Ow hz]at p;have n1:vs≠[]:=λz=>hz.2 (by have:=h2.length;rw[z]at this;exact R4 this.symm);refine .inr (.inr (.inl ⟨a,b,vs,ws,rfl,rfl,SqT.of h1,SqT.of h3,n1,by rw[h2.length,h4.length];exact gC hz.1,λz=>?_,λ_ q hq=>?_⟩))
    .have ey:ys=[]:=by have:=h4.length;rw[z]at this;exact R4 this.symm
     rw[ey,Qj]at p;exact p.val rep (Is.weak (d:=.tup xs) (λ_ z=>z.l) ⟨a,vs,rfl,h1,h2⟩)
    .exact p.tup rep hq ((h2.weak λ_ z=>z.l).append (h4.weak λ_ z=>z.r))
   .rw[Ox hz]at p;exact p.elim
  |_=>rw[e2]at p;exact p.elim
 |str xs=>
  rw[e1]at p i1;cases e2:rb.d with
  |str ys=>
   rw[e2]at p i2;cases i1;cases i2;by_cases hz:xs.length+ys.length<=lim
   .simp only[hz,Qy]at p;exact .inr (.inr (.inr ⟨xs,ys,rfl,rfl,gC hz,p _ M H (Ext.refl M H) rep rfl⟩))
   .simp only[hz,Pk]at p;exact p.elim
  |_=>rw[e2]at p;exact p.elim
 |_=>rw[e1]at p;exact p.elim
def FW(a b:R):Res R:=if a.d.dep<=50/\b.d.dep<=50 then .ok (.val (.bl (g9 a.d b.d)) true [])else .stuck
def Em(a b:R):Res R:=if a.d.dep<=50/\b.d.dep<=50 then .ok (.val (.bl (!g9 a.d b.d)) true [])else .stuck
def LX:R2:=λx y H Q=>∃d e m m',Is H m d x/\Is H m' e y/\(d.dep<=50/\e.dep<=50)/\Q (.bl (g9 d e)) H
def LY:R2:=λx y H Q=>∃d e m m',Is H m d x/\Is H m' e y/\(d.dep<=50/\e.dep<=50)/\Q (.bl (!g9 d e)) H
def FX(hu:X.A.units+64<cLine):OpR X (compareOp .Eq) LX:=by intro aa s σ H x y v u Q I rx ry h;obtain⟨d,e,m,m',h1,h2,hd,q⟩:=h;exact Cy I.aF (by lia) (zD I.aF (A:=X.A) (n:=50) (by lia) (by lia)) hd.1 (by lia) (by lia) h1 h2 rx ry X.prog X.w X.xe _ ⟨.bl _,H,I,rfl,q⟩
def FY(hu:X.A.units+64<cLine):OpR X (compareOp .NotEq) LY:=by intro aa s σ H x y v u Q I rx ry h;obtain⟨d,e,m,m',h1,h2,hd,q⟩:=h;exact Cz I.aF (by lia) (zD I.aF (A:=X.A) (n:=50) (by lia) (by lia)) hd.1 (by lia) (by lia) h1 h2 rx ry X.prog X.w X.xe _ ⟨.bl _,H,I,rfl,q⟩
def Eo(hu:X.A.units+64<cLine):uC X E (compareOp .Eq) FW:=by
 refine⟨_,FX hu,λg M ρ env σ H Q ra rb x y rep i1 i2 p=>?_⟩;unfold FW at p;by_cases h:ra.d.dep<=50/\rb.d.dep<=50
 .rw[Ow h]at p;exact⟨_,_,_,_,i1,i2,h,p _ M H (Ext.refl M H) rep rfl⟩
 .rw[Ox h]at p;exact p.elim
def Ep(hu:X.A.units+64<cLine):uC X E (compareOp .NotEq) Em:=by
 refine⟨_,FY hu,λg M ρ env σ H Q ra rb x y rep i1 i2 p=>?_⟩;unfold Em at p;by_cases h:ra.d.dep<=50/\rb.d.dep<=50
 .rw[Ow h]at p;exact⟨_,_,_,_,i1,i2,h,p _ M H (Ext.refl M H) rep rfl⟩
 .rw[Ox h]at p;exact p.elim
end
section
variable{X:Cx}
def FZ(fa fb:En->Res R):En->Res R:=λenv=>(fa env).bind λra=>match ra.d with
 |.bl true=>fb env
 |.bl false=>.ok (.val (.bl false) true [])
 |_=>.stuck
def F0(ha:PD X E a fa):PD X E (.BoolOp op [a] pos) fa:=let ⟨t,pa,sa⟩:=ha;⟨t,Fb pa,sa⟩
def F1{rest:List Expr}{fa fb:En->Res R}{pos:Pos}(ha:PD X E a fa)(hb:PD X E (.BoolOp .And (b::rest) pos) fb):PD X E (.BoolOp .And (a::b::rest) pos) (FZ fa fb):=by
 obtain⟨ta,pa,sa⟩:=ha;obtain⟨tb,pb,sb⟩:=hb;refine⟨_,Fc pa pb,λg M ρ env σ H Q rep p=>sa.jA rep p λr v M' H' e rep' i p'=>?_⟩;cases q:r.d with
 |bl b=>
  rw[q]at i;simp only[q]at p';cases i;refine⟨b,rfl,?_⟩;cases b with
  |true=>exact qY (sb g M' ρ env σ H' Q rep' p')
  |false=>exact wZ (p' _ M' H' (Ext.refl _ _) rep' rfl)
 |_=>simp only[q]at p';exact p'.elim
def Er:D->Res Bool
 |.ba=>.ok false
 |.bl b=>.ok b
 |.int i=>.ok (i != 0)
 |.str y=>if y.length<=lim then .ok ((y.length:Int) != 0)else .stuck
 |.tup ds=>.ok (!ds.isEmpty)
 |.lst ds=>.ok (!ds.isEmpty)
 |.iU _ _=>.stuck
theorem Is.Er(h:Is H m d v)(e:Er d=.ok k):BQ X.K v H k:=by
 cases d with
 |ba=>cases h;cases e;rfl
 |bl b=>cases h;cases e;rfl
 |int b=>cases h;cases e;rfl
 |str b=>
  cases h;unfold L3.Er at e;dsimp only at e;by_cases hl:b.length<=lim
  .rw[Ow hl]at e;cases e;exact⟨gC hl,rfl⟩
  .rw[Ox hl]at e;cases e
 |tup ds=>obtain⟨a,vs,rfl,h1,h2⟩:=h;cases e;refine .inr (.inl ⟨vs,SqT.of h1,?_⟩);have:=h2.length;cases ds<;>cases vs<;>simp_all
 |lst ds=>obtain⟨a,vs,rfl,h1,h2⟩:=h.rd;cases e;refine .inl ⟨vs,.inl h1,?_⟩;have:=h2.length;cases ds<;>cases vs<;>simp_all
 |iU ks ds=>cases e
def xq(fa:En->Res R):En->Res Bool:=λenv=>(fa env).bind λra=>Er ra.d
def uE(ha:PD X E a fa)(he:autoParam (∀whole,isTrue a X.env whole=(do let v <- whole;standAt a.pos;holding [v] (truthy v))) SM):zE X E a (xq fa):=by
 obtain⟨ta,pa,sa⟩:=ha;refine⟨_,qR pa he,λg M ρ env σ H Q rep p=>sa.ym rep p λr v M' H' e rep' i p'=>?_⟩;cases q:Er r.d with
 |stuck=>rw[q]at p';exact p'.elim
 |exc c=>
  exfalso;unfold Er at q
  grind
 |ok k=>rw[q]at p';exact⟨k,i.Er q,p' M' H' (Ext.refl _ _) rep'⟩
def vB(fa:En->Res R):En->Res Bool:=λenv=>(fa env).bind λra=>match ra.d with
 |.bl b=>.ok b
 |_=>.stuck
def eB(ho:uC X E (compareOp op) k)(ha:PD X E a fa)(hb:PD X E b fb)(hm:behindInMarks op b=false):zE X E (.Compare a [op] [b] pos) (vB (v2 k fa fb)):=by
 obtain⟨r,h1,h2⟩:=ho;obtain⟨ta,pa,sa⟩:=ha;obtain⟨tb,pb,sb⟩:=hb;have S:Snd X.mg E (nT r ta tb) (v2 k fa fb):=λg M ρ env σ H Q rep p=>sa.D7 sb rep p λra rb x y M' H' rep' i1 i2 p'=>h2 g M' ρ env σ H' Q ra rb x y rep' i1 i2 p';refine⟨_,g0 h1 pa pb hm,λg M ρ env σ H Q rep p=>S.ym rep p λr v M' H' e rep' i p'=>?_⟩;cases q:r.d with
 |bl b=>rw[q]at i;simp only[q]at p';cases i;exact⟨b,rfl,p' M' H' (Ext.refl _ _) rep'⟩
 |_=>simp only[q]at p';exact p'.elim
def xr(fa:En->Res Bool):En->Res Bool:=λenv=>(fa env).bind λb=>.ok (!b)
def F2(fa fb:En->Res Bool):En->Res Bool:=λenv=>(fa env).bind λb=>if b then fb env else .ok false
def Li(fa fb:En->Res Bool):En->Res Bool:=λenv=>(fa env).bind λb=>if b then .ok true else fb env
section
def SndT.ym{f:En->Res Bool}(h:SndT mg E t f)(rep:Rep g M ρ env σ H){K:Bool->Res Bool}{Q':Bool->Hp->Prop}{Q:Bool->Hp->Prop}(hp:PostT mg E g M ρ env σ H Q' ((f env).bind K))
 (k:∀b M' H',Ext M H M' H'->Rep g M' ρ env σ H'->PostT mg E g M' ρ env σ H' Q' (K b)->Q b H'):t σ H Q:=by
 refine h g M ρ env σ H Q rep ?_;cases e:f env with
 |stuck=>rw[e]at hp;exact hp
 |exc c=>rw[e]at hp;exact hp
 |ok b=>rw[e]at hp;exact λM1 H1 e1 rep1=>k b M1 H1 e1 rep1 (PostT.ext e1 hp)
end
def pS(ha:zE X E a fa):zE X E (.UnaryOp .Not a pos) (xr fa):=by obtain⟨ta,pa,sa⟩:=ha;exact⟨_,Fa pa,λg M ρ env σ H Q rep p=>sa.ym rep p λb M' H' e rep' p'=>p' M' H' (Ext.refl _ _) rep'⟩
def zK(ha:zE X E a fa):PWD X E (.BoolOp .And [a] pos) fa:=let ⟨t,pa,sa⟩:=ha;⟨t,BJ pa,sa⟩
def CB(ha:zE X E a fa):PWD X E (.BoolOp .Or [a] pos) fa:=let ⟨t,pa,sa⟩:=ha;⟨t,E9 pa,sa⟩
def CC{rest:List Expr}{fa fb:En->Res Bool}{pos:Pos}(ha:zE X E a fa)(hb:PWD X E (.BoolOp .And (b::rest) pos) fb):PWD X E (.BoolOp .And (a::b::rest) pos) (F2 fa fb):=by
 obtain⟨ta,pa,sa⟩:=ha;obtain⟨tb,pb,sb⟩:=hb;refine⟨_,E_ pa pb,λg M ρ env σ H Q rep p=>sa.ym rep p λb M' H' e rep' p'=>?_⟩;cases b with
 |true=>exact qY (sb g M' ρ env σ H' Q rep' p')
 |false=>exact wZ (p' M' H' (Ext.refl _ _) rep')
def zL{rest:List Expr}{fa fb:En->Res Bool}{pos:Pos}(ha:zE X E a fa)(hb:PWD X E (.BoolOp .Or (b::rest) pos) fb):PWD X E (.BoolOp .Or (a::b::rest) pos) (Li fa fb):=by
 obtain⟨ta,pa,sa⟩:=ha;obtain⟨tb,pb,sb⟩:=hb;refine⟨_,IC pa pb,λg M ρ env σ H Q rep p=>sa.ym rep p λb M' H' e rep' p'=>?_⟩;cases b with
 |true=>exact qY (p' M' H' (Ext.refl _ _) rep')
 |false=>exact wZ (sb g M' ρ env σ H' Q rep' p')
def Es(a b:R):Res R:=match a.d,b.d with
 |.lst xs,.int i=>match dG xs i with
  |some d=>.ok (jK d a.fr a.al)
  |none=>.stuck
 |.tup xs,.int i=>match dG xs i with
  |some d=>.ok (jK d a.fr a.al)
  |none=>.stuck
 |.str z,.int i=>if z.length<=lim then(match dG z.cps.toList i with
  |some c=>.ok (.val (.str ⟨#[c]⟩) true [])
  |none=>.stuck)else .stuck
 |_,_=>.stuck
theorem IsAll.dG(h:IsAll H m ds vs)(e:L2.dG ds i=some d):∃v,L2.dG vs i=some v/\Is H m d v:=by
 unfold L2.dG at e ⊢;rw[h.length];cases q:yp ds.length i with
 |none=>rw[q]at e;cases e
 |some j=>rw[q]at e;exact h.get e
def Je:∃r:R2,IxR X r/\∀g M ρ env σ H Q ra rb x y,Rep g M ρ env σ H->Is H (vmsk g M ra.fr ρ ra.al) ra.d x->Is H (vmsk g M rb.fr ρ rb.al) rb.d y->PostE X.mg E g M ρ env σ H Q (Es ra rb)->r x y H Q:=by
 refine⟨_,Fs,λg M ρ env σ H Q ra rb x y rep i1 i2 p=>?_⟩;unfold Es at p;cases e1:ra.d with
 |lst xs=>
  rw[e1]at p i1;cases e2:rb.d with
  |int i=>
   rw[e2]at p i2;cases i2;obtain⟨a,vs,rfl,h1,h2⟩:=i1.rd;cases q:dG xs i with
   |none=>simp only[q]at p;exact p.elim
   |some d=>simp only[q]at p;obtain⟨v,ev,iv⟩:=h2.dG q;exact .inl ⟨a,vs,i,v,rfl,rfl,.inl h1,ev,p.val rep iv⟩
  |_=>rw[e2]at p;exact p.elim
 |tup xs=>
  rw[e1]at p i1;cases e2:rb.d with
  |int i=>
   rw[e2]at p i2;cases i2;obtain⟨a,vs,rfl,h1,h2⟩:=i1;cases q:dG xs i with
   |none=>simp only[q]at p;exact p.elim
   |some d=>simp only[q]at p;obtain⟨v,ev,iv⟩:=h2.dG q;exact .inr (.inl ⟨a,vs,i,v,rfl,rfl,SqT.of h1,ev,p.val rep iv⟩)
  |_=>rw[e2]at p;exact p.elim
 |str z=>
  rw[e1]at p i1;cases e2:rb.d with
  |int i=>
   rw[e2]at p i2;cases i1;cases i2;by_cases hz:z.length<=lim
   .simp only[hz,Qy]at p;cases q:dG z.cps.toList i with
    |none=>simp only[q]at p;exact p.elim
    |some c=>simp only[q]at p;exact .inr (.inr ⟨z,i,c,rfl,rfl,gC hz,q,p _ M H (Ext.refl _ _) rep rfl⟩)
   .simp only[hz,Pk]at p;exact p.elim
  |_=>rw[e2]at p;exact p.elim
 |_=>rw[e1]at p;exact p.elim
def e_(i:Nat)(fb:En->Res R):En->Res R:=λenv=>match env[i]? with
 |some (some (.own ds fr))=>(fb env).bind λrb=>match rb.d with
  |.int k=>match dG ds k with
   |some d=>.ok (jK d fr [])
   |none=>.stuck
  |_=>.stuck
 |_=>v2 Es (am i) fb env
def cz(ha:PE X a (tVar i))(hb:PD X E b fb)(hs:vm b):PD X E (.Subscript a b pos) (e_ i fb):=by
 obtain⟨r,h1,h2⟩:=Je (X:=X) (E:=E);obtain⟨tb,pb,sb⟩:=hb;refine⟨_,bv (ix_list.or h1) ha pb hs,λg M ρ env σ H Q rep p=>?_⟩;have gen:PostE X.mg E g M ρ env σ H Q (v2 Es (am i) fb env)->nT (λx y H Q=>Fp X.K x y H Q\/r x y H Q) (tVar i) tb σ H Q:=λp=>Snd.D7 vL sb rep p λra rb x y M' H' rep' i1 i2 p'=>.inr (h2 g M' ρ env σ H' Q ra rb x y rep' i1 i2 p');unfold e_ at p;cases e1:env[i]? with
 |none=>rw[e1]at p;exact gen p
 |some o=>
  cases o with
  |none=>rw[e1]at p;exact gen p
  |some sl=>
   cases sl with
   |val d fr=>rw[e1]at p;exact gen p
   |oY d=>rw[e1]at p;exact gen p
   |Bz d=>rw[e1]at p;exact gen p
   |own ds fr=>
    rw[e1]at p;obtain⟨v,ev,a,vs,rfl,k1,k2,k4⟩:=rep.slot i _ e1;refine⟨_,ev,sb.jA rep p λrb y M' H' e rep' i2 p'=>?_⟩;cases q:rb.d with
    |int k=>
     rw[q]at i2;simp only[q]at p';cases i2;cases q2:dG ds k with
     |none=>simp only[q2]at p';exact p'.elim
     |some d=>simp only[q2]at p';have k5:IsAll H' (vmsk g M' fr ρ []) ds vs:=(IsAll.weak (λ_ z=>.inl z) k4:IsAll H (vmsk g M fr ρ []) ds vs).ext e;obtain⟨w,ew,iw⟩:=k5.dG q2;exact .inl ⟨a,vs,k,w,rfl,rfl,.inl (.inl (e.h _ _ k1)),ew,p'.val rep' iw⟩
    |_=>simp only[q]at p';exact p'.elim
end
section
def SndA.one{t:TA}{f:En->Res (List R)}(h:SndA mg E t f)(rep:Rep g M ρ env σ H){α:Type}{K:List R->Res α}{P:(M:Addr->Prop)->(H:Hp)->Res α->Prop}{Q:List V->Hp->Prop}
 (hp:P M H ((f env).bind K)) (hs:∀M H,P M H .stuck->False) (hx:∀M H c,P M H (.exc c)->CA mg E g c) (he:∀M H M' H' r,Ext M H M' H'->P M H r->P M' H' r)
 (k:∀rs vs M' H',Ext M H M' H'->Rep g M' ρ env σ H'->IsAll H' (vmsk g M' (bc rs) ρ (bM rs)) (rs.map R.d) vs->P M' H' (K rs)->Q vs H'):t σ H Q:=by
 refine h g M ρ env σ H Q rep ?_;cases e:f env with
 |stuck=>rw[e]at hp;exact hs _ _ hp
 |exc c=>rw[e]at hp;exact hx _ _ c hp
 |ok r=>rw[e]at hp;exact λvs M1 H1 e1 rep1 is=>k r vs M1 H1 e1 rep1 is (he _ _ _ _ _ e1 hp)
def SndA.jA{f:En->Res (List R)}(h:SndA mg E t f)(rep:Rep g M ρ env σ H){K:List R->Res R}{Q:List V->Hp->Prop}(hp:PostE mg E g M ρ env σ H Q' ((f env).bind K))
 (k:∀rs vs M' H',Ext M H M' H'->Rep g M' ρ env σ H'->IsAll H' (vmsk g M' (bc rs) ρ (bM rs)) (rs.map R.d) vs->PostE mg E g M' ρ env σ H' Q' (K rs)->Q vs H'):t σ H Q:=
 h.one rep (P:=λM H r=>PostE mg E g M ρ env σ H Q' r) hp (λ_ _ z=>z) (λ_ _ _ z=>z) (λ_ _ _ _ _ e p=>p.ext e) k
def SndA.Ij{f:En->Res (List R)}(h:SndA mg E t f)(rep:Rep g M ρ env σ H){K:List R->Res (List R)}{Q':List V->Hp->Prop}{Q:List V->Hp->Prop}(hp:PostA mg E g M ρ env σ H Q' ((f env).bind K))
 (k:∀rs vs M' H',Ext M H M' H'->Rep g M' ρ env σ H'->IsAll H' (vmsk g M' (bc rs) ρ (bM rs)) (rs.map R.d) vs->PostA mg E g M' ρ env σ H' Q' (K rs)->Q vs H'):t σ H Q:=
 h.one rep (P:=λM H r=>PostA mg E g M ρ env σ H Q' r) hp (λ_ _ z=>z) (λ_ _ _ z=>z) (λ_ _ _ _ _ e p=>p.ext e) k
def IsAll.args(h1:Is H (vmsk g M r.fr ρ r.al) r.d v)(h2:IsAll H (vmsk g M (bc rs) ρ (bM rs)) (rs.map R.d) vs) :
 IsAll H (vmsk g M (bc (r::rs)) ρ (bM (r::rs))) ((r::rs).map R.d) (v::vs):=by
 refine⟨v,vs,rfl,h1.weak λa z=>?_,h2.weak λa z=>?_⟩
 .exact(z.l:vmsk g M (r.fr&&bc rs) ρ (r.al++bM rs) a)
 .exact(z.r:vmsk g M (r.fr&&bc rs) ρ (r.al++bM rs) a)
end
section
noncomputable def aR:En->Res (List R):=λ_=>.ok []
def ao(f:En->Res R)(fs:En->Res (List R)):En->Res (List R):=λenv=>(f env).bind λr=>(fs env).bind λrs=>.ok (r::rs)
def az:Bs X E [] aR:=⟨_,ax,λg M ρ env σ H Q rep p=>p [] M H (Ext.refl _ _) rep rfl⟩
def ag(he:PD X E e f)(hr:Bs X E es fs)(hs:autoParam (starEach (e::es) X.env=(false,eval e X.env)::starEach es X.env) SN):Bs X E (e::es) (ao f fs):=by obtain⟨t,p1,s1⟩:=he;obtain⟨u,p2,s2⟩:=hr;refine⟨_,af p1 p2 hs,λg M ρ env σ H Q rep p=>s1.Ij rep p λr v M1 H1 e1 rep1 i1 q1=>s2.Ij rep1 q1 λrs vs M2 H2 e2 rep2 i2 q2=>?_⟩;exact q2 (v::vs) M2 H2 (Ext.refl _ _) rep2 (IsAll.args (i1.ext e2) i2)
def ja(fs:En->Res (List R)):En->Res R:=λenv=>(fs env).bind λrs=>if rs.length<=lim then .ok (jK (.tup (rs.map R.d)) (bc rs) (bM rs))else .stuck
def dM(h:Bs X E es fs):PD X E (.Tuple es k pos) (ja fs):=by
 obtain⟨t,p1,s1⟩:=h;refine⟨_,eV p1,λg M ρ env σ H Q rep p=>s1.jA rep p λrs vs M1 H1 e1 rep1 i1 q1=>?_⟩;by_cases hl:rs.length<=lim
 .rw[Ow hl]at q1;exact⟨by rw[i1.length,Ov];exact gC hl,λa ha=>q1.tup rep1 ha i1⟩
 .rw[Ox hl]at q1;exact q1.elim
def uF(fs:En->Res (List R)):En->Res R:=λenv=>(fs env).bind λrs=>if rs.length<=lim then .ok (kC (rs.map R.d) (bc rs) (bM rs))else .stuck
def uG(h:Bs X E es fs):PD X E (.List es pos) (uF fs):=by
 obtain⟨t,p1,s1⟩:=h;refine⟨_,gu p1,λg M ρ env σ H Q rep p=>s1.jA rep p λrs vs M1 H1 e1 rep1 i1 q1=>?_⟩;by_cases hl:rs.length<=lim
 .rw[Ow hl]at q1;exact⟨by rw[i1.length,Ov];exact gC hl,λa ha=>q1.lst rep1 ha i1⟩
 .rw[Ox hl]at q1;exact q1.elim
end
def nl(H0 H':Hp)(a:Addr):Prop:=H0 a=none/\Mu H' a
def RetOk(g:Gd)(H':Hp)(v:V):R->Prop
 |.val d fr _=>Is H' (λa=>nl g.H₀ H' a\/(fr=false/\g.Ma a)) d v
 |.new ds fr=>∃a vs,v=.ref a/\H' a=some (.lst vs)/\g.H₀ a=none/\IsAll H' (λb=>b≠a/\(nl g.H₀ H' b\/(fr=false/\g.Ma b))) ds vs
 |.gd d=>Is H' (nl g.H₀ H') d v
def Jf(mg:Str->Option SD)(E:XK)(g:Gd)(Q:VK):Res R->Prop
 |.stuck=>False
 |.exc c=>CA mg E g c
 |.ok r=>∀v H',Same g.H₀ H'->RetOk g H' v r->Q v H'
def m_(mg:Str->Option SD)(n:Nat)(F:List D->Res R):Sp:=λvs H Q E=>vs.length=n/\∃ds Ma,IsAll H Ma ds vs/\Jf mg E (Ja H Ma) Q (F ds)
def Et(d:D)(fr:Bool)(rs:List R):R:=if d.flat then .val d true []else if fr then .gd d else .val d (bc rs) (bM rs)
def iq(rs:List R):R->R
 |.val d fr _=>Et d fr rs
 |.new ds fr=>if D.aY ds then .new ds true else if fr then .gd (.lst ds)else if(bM rs).isEmpty then .new ds (bc rs)else .val (.lst ds) (bc rs) (bM rs)
 |.gd d=>Et d true rs
section
def Rep.came(rep:Rep g M ρ env σ H)(s:Same H H')(p:Addr->Prop):Rep g (λa=>M a\/(nl H H' a/\p a)) ρ env σ H':=(rep.grow s).Bk λa z=>⟨z.1.2,rep.same.free z.1.1,(rep.free z.1.1).2.2⟩
def zM(rs:List R)(rep:Rep g M ρ env σ H)(s:Same H H')(h:Is H' (λa=>nl H H' a\/(fr=false/\vmsk g M (bc rs) ρ (bM rs) a)) d v) :
 ∃M',Ext M H M' H'/\Rep g M' ρ env σ H'/\ROk g M' ρ H H' v (Et d fr rs):=by
 unfold Et;by_cases hf:d.flat=true
 .rw[Ow hf];exact⟨M,⟨λ_ z=>z,s,λ_ z=>.inl z⟩,rep.grow s,Is.flat hf h⟩
 .rw[Ox hf];cases fr with
  |true=>
   refine⟨M,⟨λ_ z=>z,s,λ_ z=>.inl z⟩,rep.grow s,nl H H',λa z=>?_,?_⟩
   .exact⟨λw=>rep.ic a w z.1,z.1,z.2,(rep.free z.1).2.2⟩
   .exact Is.weak (λa z=>z.elim id λw=>by cases w.1) h
  |false=>
   refine⟨_,⟨λ_=>.inl,s,λ_ z=>z.imp id (·.1.1)⟩,rep.came s λ_=>True,?_⟩;refine Is.weak (λa z=>?_) h;rcases z with z|⟨_,z⟩
   .exact .inl ⟨.inr ⟨z,True.intro⟩,λ_=>rep.same.free z.1⟩
   .exact z.mono λ_=>.inl
def RetOk.caller(rs:List R)(rep:Rep g M ρ env σ H)(s:Same H H')(h:RetOk (Ja H (vmsk g M (bc rs) ρ (bM rs))) H' v r) :
 ∃M',Ext M H M' H'/\Rep g M' ρ env σ H'/\ROk g M' ρ H H' v (iq rs r):=by
 cases r with
 |val d fr al=>exact zM rs rep s h
 |gd d=>exact zM rs rep s (Is.weak (λa z=>.inl z) h)
 |new ds fr=>
  obtain⟨a,vs,rfl,h1,h2,h3⟩:=h;have h2:H a=none:=h2;obtain⟨f0,f1,f2⟩:=rep.free h2;have R1:Rep g (λb=>M b\/(nl H H' b/\b≠a)) ρ env σ H':=rep.came s λb=>b≠a;have nm:¬(M a\/(nl H H' a/\a≠a)):=λz=>z.elim f1 λz=>z.2 rfl;have X1:Ext M H (λb=>M b\/(nl H H' b/\b≠a)) H':=⟨λ_=>.inl,s,λ_ z=>z.imp id (·.1.1)⟩;unfold iq;dsimp only;by_cases hfl:D.aY ds=true
  .rw[Ow hfl];exact⟨_,X1,R1,a,vs,rfl,h1,nm,h2,f2,IsAll.flat hfl h3⟩
  .rw[Ox hfl];cases fr with
   |true=>
    refine⟨M,⟨λ_ z=>z,s,λ_ z=>.inl z⟩,rep.grow s,nl H H',λa z=>?_,?_⟩
    .exact⟨λw=>rep.ic a w z.1,z.1,z.2,(rep.free z.1).2.2⟩
    .exact⟨a,vs,rfl,.inl ⟨h1,h2,Mu.lst h1⟩,IsAll.weak (λb z=>z.2.elim id λw=>by cases w.1) h3⟩
   |false=>
    simp only[OD,Pk];by_cases hc:(bM rs).isEmpty=true
    .rw[Ow hc];refine⟨_,X1,R1,a,vs,rfl,h1,nm,h2,f2,?_⟩;refine IsAll.weak (λb z=>?_) h3;rcases z with⟨nb,z|⟨hf,z⟩⟩
     .exact⟨.inr ⟨z,nb⟩,λ_=>rep.same.free z.1⟩
     .have hl:bM rs=[]:=by simpa using hc
      have z:vmsk g M (bc rs) ρ (bM rs) b:=z;rw[hl]at z;exact⟨.inl z.nil.1,z.nil.2⟩
    .rw[Ox hc];refine⟨λb=>(M b\/(nl H H' b/\b≠a))\/b=a,⟨λ_ z=>.inl (.inl z),s,λb z=>z.elim (X1.n b) λe=>.inr (e▸h2)⟩,R1.more h1 f0 f2,a,vs,rfl,.inl ⟨h1,.inl ⟨.inr rfl,λ_=>f0⟩⟩,?_⟩;refine IsAll.weak (λb z=>?_) h3;rcases z with⟨nb,z|⟨hf,z⟩⟩
     .exact .inl ⟨.inl (.inr ⟨z,nb⟩),λ_=>rep.same.free z.1⟩
     .exact vmsk.mono (λ_ w=>.inl (.inl w)) z
end
section
variable{X:Cx}{ps:List Str}
def cL(F:List D->Res R)(fs:En->Res (List R)):En->Res R:=λenv=>(fs env).bind λrs=>(F (rs.map R.d)).bind λr=>.ok (iq rs r)
def zN(hl:∀env rs,fs env=.ok rs->rs.length=ps.length)(s:SndA X.mg E t fs):Snd X.mg E (ig (m_ X.mg ps.length F) [] E t) (cL F fs):=by
 intro g M ρ env σ H Q rep p;refine s g M ρ env σ H _ rep ?_;unfold cL at p;cases e:fs env with
 |stuck=>rw[e]at p;exact p
 |exc c=>rw[e]at p;exact p
 |ok rs=>
  rw[e]at p;intro vs M1 H1 e1 rep1 is;have p1:PostE X.mg E g M1 ρ env σ H1 Q ((F (rs.map R.d)).bind λr=>.ok (iq rs r)):=PostE.ext e1 p;rw[Qj];refine⟨by rw[is.length,Ov];exact hl env rs e,rs.map R.d,_,is,?_⟩;cases q:F (rs.map R.d)with
  |stuck=>rw[q]at p1;exact p1
  |exc c=>rw[q]at p1;exact λcls dx H' h1 h2=>p1 cls dx H' h1 (rep1.same.trans h2)
  |ok r=>rw[q]at p1;intro v H2 s2 ro;obtain⟨M3,e3,rep3,ro3⟩:=RetOk.caller rs rep1 s2 ro;exact p1 v M3 H2 e3 rep3 ro3
def CD(G:bu X.prog X.w X.K X.mg X.base CX k f fd ps (m_ X.mg ps.length F))(hr:cI k X.A)(hg:Gl X x)(hm:X.mg x=some (.ref f))(hk:keepIn X.K (.ref f)=true)(hb:Binds X.K fd ps [])(hx:eY CX X E)
 (ha:Bs X E (e::es) fs) (hl:∀env rs,fs env=.ok rs->rs.length=ps.length) (hdb:autoParam (dB x) ab) (he:autoParam (sE X e es) SN) (hpl:autoParam (bT X pos es) SN) :
 PD X E (.Call (.Name x p) (e::es) [] pos) (cL F fs):=by
 obtain⟨t,p1,s1⟩:=ha;exact⟨_,d6 G hr hg hm hk hb .nil hx p1 hdb he hpl,zN hl s1⟩
def bJ:∀env rs,aR env=.ok rs->rs.length=0:=λ_ _ e=>by cases e;rfl
def aA{f:En->Res R}{fs:En->Res (List R)}(h:∀env rs,fs env=.ok rs->rs.length=n):∀env rs,ao f fs env=.ok rs->rs.length=n+1:=λenv rs e=>by
 unfold ao at e;cases q:f env with
 |stuck=>rw[q]at e;cases e
 |exc c=>rw[q]at e;cases e
 |ok r=>
  rw[q]at e;cases q2:fs env with
  |stuck=>simp only[Res.eS,q2]at e;cases e
  |exc c=>simp only[Res.eS,q2]at e;cases e
  |ok rs'=>simp only[Res.eS,q2]at e;cases e;simp[h env rs' q2]
def gD(X:Cx)(E:XK)(f:SD)(k:List R->Res R):Prop:=∃r,CallR X f r/\
 ∀g M ρ env σ H Q rs vs,Rep g M ρ env σ H->IsAll H (vmsk g M (bc rs) ρ (bM rs)) (rs.map R.d) vs->PostE X.mg E g M ρ env σ H Q (k rs)->r vs H Q
def kf(k:List R->Res R)(fs:En->Res (List R)):En->Res R:=λenv=>(fs env).bind k
def bK{id:String}{k:List R->Res R}(hc:gD X E (.builtin id) k) (hg:Gl X x) (hm:X.mg x=none) (hv:bootBuiltins x=some (.builtin id)) (ha:Bs X E (e::es) fs) (hn:autoParam (x≠"__name__") ab) (hdb:autoParam (dB x) ab)
 (he:autoParam (starEach (e::es) X.env=(false,eval e X.env)::starEach es X.env) SN) (hpl:autoParam (bT X pos es) SN):PD X E (.Call (.Name x p) (e::es) [] pos) (kf k fs):=by
 obtain⟨r,h1,h2⟩:=hc;obtain⟨t,p1,s1⟩:=ha;exact⟨_,bo h1 hg hm hv p1 hn hdb he hpl,λg M ρ env σ H Q rep p=>s1.jA rep p λrs vs M1 H1 e1 rep1 i1 q1=>h2 g M1 ρ env σ H1 Q rs vs rep1 i1 q1⟩
def fD{k:List R->Res R}(hc:gD X E (.type T) k) (hg:Gl X x) (hm:X.mg x=none) (hv:bootBuiltins x=some (.type T)) (ha:Bs X E (e::es) fs) (hn:autoParam (x≠"__name__") ab) (hdb:autoParam (dB x) ab)
 (he:autoParam (starEach (e::es) X.env=(false,eval e X.env)::starEach es X.env) SN) (hpl:autoParam (bT X pos es) SN):PD X E (.Call (.Name x p) (e::es) [] pos) (kf k fs):=by
 obtain⟨r,h1,h2⟩:=hc;obtain⟨t,p1,s1⟩:=ha;exact⟨_,g6 h1 hg hm hv p1 hn hdb he hpl,λg M ρ env σ H Q rep p=>s1.jA rep p λrs vs M1 H1 e1 rep1 i1 q1=>h2 g M1 ρ env σ H1 Q rs vs rep1 i1 q1⟩
def gn:List R->Res R
 |[r]=>match r.d with
  |.lst ds=>.ok (.val (.int ds.length) true [])
  |.tup ds=>.ok (.val (.int ds.length) true [])
  |.str z=>if z.length<=lim then .ok (.val (.int z.length) true [])else .stuck
  |_=>.stuck
 |_=>.stuck
def fU:gD X E (.builtin "len") gn:=by
 refine⟨_,call_len_seq.or pc,λg M ρ env σ H Q rs vs rep i p=>?_⟩;rcases rs with _|⟨r,_|_⟩
 .exact p.elim
 rotate_left
 .exact p.elim
 obtain⟨v,w,rfl,i1,i2⟩:=i;cases i2;have i1:Is H (vmsk g M (bc [r]) ρ (bM [r])) r.d v:=i1;unfold gn at p;dsimp only at p;cases q:r.d with
 |lst ds=>rw[q]at p i1;obtain⟨a,ws,rfl,h1,h2⟩:=i1.rd;exact .inl ⟨a,ws,rfl,.inl (.inl h1),by rw[h2.length];exact p _ M H (Ext.refl _ _) rep rfl⟩
 |tup ds=>rw[q]at p i1;obtain⟨a,ws,rfl,h1,h2⟩:=i1;exact .inl ⟨a,ws,rfl,.inr (SqT.of h1),by rw[h2.length];exact p _ M H (Ext.refl _ _) rep rfl⟩
 |str z=>
  rw[q]at p i1;cases i1;by_cases hz:z.length<=lim
  .simp only[hz,Qy]at p;exact .inr ⟨z,rfl,gC hz,p _ M H (Ext.refl _ _) rep rfl⟩
  .simp only[hz,Pk]at p;exact p.elim
 |_=>rw[q]at p;exact p.elim
def iu:List R->Res R
 |[r]=>match r.d with
  |.lst ds=>.ok (kC ds r.fr r.al)
  |.tup ds=>.ok (kC ds r.fr r.al)
  |_=>.stuck
 |_=>.stuck
def vN(h:vmsk g M (bc [r]) ρ (bM [r]) a):vmsk g M r.fr ρ r.al a:=by
 have e1:bc [r]=r.fr:=by simp[bc]
 have e2:bM [r]=r.al:=by simp[bM]
 rw[e1,e2]at h;exact h
def k7:gD X E (.type "list") iu:=by
 refine⟨_,pd,λg M ρ env σ H Q rs vs rep i p=>?_⟩;rcases rs with _|⟨r,_|_⟩
 .exact p.elim
 rotate_left
 .exact p.elim
 obtain⟨v,w,rfl,i1,i2⟩:=i;cases i2;have i1:Is H (vmsk g M (bc [r]) ρ (bM [r])) r.d v:=i1;replace i1:=i1.weak λ_ z=>vN z;unfold iu at p;dsimp only at p;cases q:r.d with
 |lst ds=>rw[q]at p i1;obtain⟨a,ws,rfl,h1,h2⟩:=i1.rd;exact⟨a,ws,rfl,.inl (.inl h1),λl hl=>p.lst rep hl h2⟩
 |tup ds=>rw[q]at p i1;obtain⟨a,ws,rfl,h1,h2⟩:=i1;exact⟨a,ws,rfl,.inr (SqT.of h1),λl hl=>p.lst rep hl h2⟩
 |_=>rw[q]at p;exact p.elim
end
inductive Fl where
 |nx (env:En)|rt (r:R)|bk (env:En)|ct (env:En)|rm (r:R) (env:En)
structure jZ(M:Addr->Prop) (H:Hp) (M':Addr->Prop) (H':Hp):Prop where
 m:∀a,M a->M' a
 h:∀a o,H a=some o->(M a\/gB o)->H' a=some o
def jZ.refl(M:Addr->Prop)(H:Hp):jZ M H M H:=⟨λ_ z=>z,λ_ _ e _=>e⟩
def jZ.trans{M M1 M2:Addr->Prop}(a:jZ M H M1 H1)(b:jZ M1 H1 M2 H2):jZ M H M2 H2:=⟨λx z=>b.m x (a.m x z),λx o e z=>b.h x o (a.h x o e z) (z.imp (a.m x) id)⟩
def Ext.aV(e:Ext M H M' H'):jZ M H M' H':=⟨e.m,λa o q _=>e.h a o q⟩
section
variable(mg:Str->Option SD)(E:XK)(g:Gd)(M:Addr->Prop)(H:Hp)(D:Ends)
def PostS:Res Fl->Prop
 |.stuck=>False
 |.exc c=>CA mg E g c
 |.ok (.nx env)=>∀σ M' ρ H',jZ M H M' H'->Rep g M' ρ env σ H'->D.nx σ H'
 |.ok (.bk env)=>∀σ M' ρ H',jZ M H M' H'->Rep g M' ρ env σ H'->D.bk σ H'
 |.ok (.ct env)=>∀σ M' ρ H',jZ M H M' H'->Rep g M' ρ env σ H'->D.ct σ H'
 |.ok (.rt r)=>∀v M' H',jZ M H M' H'->Same g.H₀ H'->((∀a,¬g.Z a)->RetOk g H' v r)->(r.d.flat=true->Is H' (λ_=>False) r.d v)->D.rt v H'
 |.ok (.rm r env)=>∀v σ M' ρ H0 H',jZ M H M' H'->Rep g M' ρ env σ H'->Same g.H₀ H0->ROk g M' ρ H0 H' v r->D.rt v H'
end
def CF(mg:Str->Option SD)(E:XK)(t:TS)(f:En->Res Fl):Prop:=∀g M ρ env σ H D,Rep g M ρ env σ H->PostS mg E g M H D (f env)->t D σ H
def Bt(X:Cx)(E:XK)(st:Stmt)(f:En->Res Fl):Prop:=∃t,PS X st t/\CF X.mg E t f
def rU(X:Cx)(E:XK)(st:List Stmt)(f:En->Res Fl):Prop:=∃t,PSs X st t/\CF X.mg E t f
section
variable{D:Ends}
def PostS.aV(e:jZ M H M' H')(p:PostS mg E g M H D r):PostS mg E g M' H' D r:=by
 cases r with
 |stuck=>exact p
 |exc c=>exact p
 |ok r=>cases r with
  |nx env=>exact λσ M2 ρ2 H2 e2=>p σ M2 ρ2 H2 (e.trans e2)
  |bk env=>exact λσ M2 ρ2 H2 e2=>p σ M2 ρ2 H2 (e.trans e2)
  |ct env=>exact λσ M2 ρ2 H2 e2=>p σ M2 ρ2 H2 (e.trans e2)
  |rt r=>exact λv M2 H2 e2=>p v M2 H2 (e.trans e2)
  |rm r env=>exact λv σ M2 ρ2 H0 H2 e2=>p v σ M2 ρ2 H0 H2 (e.trans e2)
def Snd.yn{f:En->Res R}(h:Snd mg E t f)(rep:Rep g M ρ env σ H){K:R->Res Fl}(hp:PostS mg E g M H D ((f env).bind K))
 (k:∀r v M' H',Ext M H M' H'->Rep g M' ρ env σ H'->ROk g M' ρ H H' v r->PostS mg E g M' H' D (K r)->Q v H'):t σ H Q:=by
 refine h g M ρ env σ H Q rep ?_;cases e:f env with
 |stuck=>rw[e]at hp;exact hp
 |exc c=>rw[e]at hp;exact hp
 |ok r=>rw[e]at hp;exact λv M1 H1 e1 rep1 ro=>k r v M1 H1 e1 rep1 ro (PostS.aV e1.aV hp)
def SndT.yn{f:En->Res Bool}(h:SndT mg E t f)(rep:Rep g M ρ env σ H){K:Bool->Res Fl}{Q:Bool->Hp->Prop}(hp:PostS mg E g M H D ((f env).bind K))
 (k:∀b M' H',jZ M H M' H'->Rep g M' ρ env σ H'->PostS mg E g M' H' D (K b)->Q b H'):t σ H Q:=by
 refine h g M ρ env σ H Q rep ?_;cases e:f env with
 |stuck=>rw[e]at hp;exact hp
 |exc c=>rw[e]at hp;exact hp
 |ok r=>rw[e]at hp;exact λM1 H1 e1 rep1=>k r M1 H1 e1.aV rep1 (PostS.aV e1.aV hp)
noncomputable def Jg(ρ:Pr)(i:Nat):Pr:=λj a=>if j=i then False else ρ j a
def uH(h:j≠i):Jg ρ i j=ρ j:=by funext a;unfold Jg;rw[Ox h]
def l_(h:Jg ρ i j a):j≠i/\ρ j a:=by grind [Jg]
noncomputable def pT(ρ:Pr)(i:Nat)(T:Addr->Prop):Pr:=λj a=>if j=i then T a else ρ j a
def cX(h:j≠i):pT ρ i T j=ρ j:=by funext a;unfold pT;rw[Ox h]
def eF:pT ρ i T i=T:=by funext a;unfold pT;rw[Ow rfl]
def d5(env:En)(i:Nat):En:=match env[i]? with
 |some (some (.own ds fr))=>env.set i (some (.val (.lst ds) fr))
 |some (some (.oY d))=>env.set i (some (.val d true))
 |some (some (.Bz _))=>env.set i none
 |_=>env
def aV(env:En)(al:List Nat):En:=al.foldl d5 env
def pU(h:j≠i):(d5 env i)[j]?=env[j]?:=by unfold d5;split<;>first|rfl|exact Pl (PV h)
def rV(i:Nat):(d5 env i).length=env.length:=by unfold d5;split<;>simp
theorem zO:∀(al:List Nat){env:En}{j:Nat},¬j∈al->(aV env al)[j]?=env[j]?
 |[],_,_,_=>rfl
 |i::al,env,j,h=>by show(aV (d5 env i) al)[j]?=_;rw[zO al λz=>h (by simp[z]),pU λz=>h (by simp[z])]
theorem pV:∀(al:List Nat)(env:En),(aV env al).length=env.length
 |[],_=>rfl
 |i::al,env=>by show(aV (d5 env i) al).length=_;rw[pV al,rV]
theorem Rep.d5(rep:Rep g M ρ env σ H)(i:Nat):Rep g (λa=>M a\/ρ i a) (Jg ρ i) (d5 env i) σ H where
 same:=rep.same
 ic:=λb hb=>hb.elim (rep.ic b) λz=>(rep.bO i b z).2.2.some
 tL:=λb hb=>hb.elim (rep.tL b) λz=>.inl (rep.bO i b z).2.1
 fl:=λb hb h0=>hb.elim (λz=>rep.fl b z h0) λz=>.inl (rep.bO i b z).2.2
 slot:=λj sl ej=>by
  by_cases hj:j=i
  .subst hj;cases e:env[j]? with
   |none=>
    have:L3.d5 env j=env:=by unfold L3.d5;rw[e]
    rw[this,e]at ej;cases ej
   |some o=>
    have hi:j<env.length:=(OG.mp e).1;cases o with
    |none=>
     have:L3.d5 env j=env:=by unfold L3.d5;rw[e]
     rw[this,e]at ej;cases ej
    |some s0=>
     obtain⟨v,ev,k⟩:=rep.slot j s0 e;cases s0 with
     |val d fr=>
      have:L3.d5 env j=env:=by unfold L3.d5;rw[e]
      rw[this,e]at ej;cases ej;exact⟨v,ev,Is.weak (λb z=>d4.mono (λ_=>.inl) z) k⟩
     |own ds fr=>
      have:L3.d5 env j=env.set j (some (.val (.lst ds) fr)):=by unfold L3.d5;rw[e]
      rw[this,Pf hi]at ej;cases ej;obtain⟨a,vs,rfl,h1,h2,h4⟩:=k;have ha:=(h2 a).mpr rfl;exact⟨_,ev,a,vs,rfl,.inl ⟨h1,.inr ha,λ_=>(rep.bO j a ha).2.1⟩,IsAll.weak (λb z=>d4.mono (λ_=>.inl) z) h4⟩
     |oY d=>
      have:L3.d5 env j=env.set j (some (.val d true)):=by unfold L3.d5;rw[e]
      rw[this,Pf hi]at ej;cases ej;exact⟨v,ev,Is.weak (λb z=>⟨.inr z,λ_=>(rep.bO j b z).2.1⟩) k⟩
     |Bz d=>
      have:L3.d5 env j=env.set j none:=by unfold L3.d5;rw[e]
      rw[this,Pf hi]at ej;cases ej
  .rw[pU hj]at ej;obtain⟨v,ev,k⟩:=rep.slot j sl ej;exact⟨v,ev,by rw[uH hj];exact SlOk.weak (λ_=>.inl) k⟩
 bO:=λj a h=>by obtain⟨hj,h⟩:=l_ h;exact⟨λz=>z.elim (rep.bO j a h).1 λz=>hj (rep.apart j i a h z),(rep.bO j a h).2⟩
 apart:=λj k a h1 h2=>rep.apart j k a (l_ h1).2 (l_ h2).2
 ow:=λj a h=>by obtain⟨hj,h⟩:=l_ h;have:=rep.ow j a h;unfold eh at this ⊢;rw[pU hj];exact this
 len:=by rw[rV];exact rep.len
 zz:=rep.zz
theorem Rep.aV:∀(al:List Nat){env:En}{M:Addr->Prop}{ρ:Pr},Rep g M ρ env σ H->∃(M':Addr->Prop)(ρ':Pr),(∀a,M a->M' a)/\Rep g M' ρ' (L3.aV env al) σ H/\(∀i,i∈al->∀a,ρ i a->M' a)/\(∀j a,ρ' j a->ρ j a)/\(∀j,¬j∈al->ρ' j=ρ j)
 |[],env,M,ρ,rep=>⟨M,ρ,λ_ z=>z,rep,λ_ z=>absurd z (by simp),λ_ _ o=>o,λ_ _=>rfl⟩
 |i::al,env,M,ρ,rep=>by
  obtain⟨M2,ρ2,e2,rep2,o2,k2,l2⟩:=Rep.aV al (rep.d5 i);refine⟨M2,ρ2,λa z=>e2 a (.inl z),rep2,λj hj a o=>?_,λj a o=>(l_ (k2 j a o)).2,λj hj=>?_⟩
  .by_cases hji:j=i
   .exact e2 a (.inr (hji▸o))
   .exact o2 j ((OE.mp hj).resolve_left hji) a (by rw[uH hji];exact o)
  .rw[l2 j λz=>hj (by simp[z]),uH λz=>hj (by simp[z])]
def Is.frozen(rep:Rep g M ρ env σ H)(e:∀a,M a->M' a)(hm:∀i,i∈al->∀a,ρ i a->M' a)(h:Is H (vmsk g M fr ρ al) d v):Is H (d4 g M' fr) d v:=h.weak λa z=>z.elim (d4.mono e) λ⟨i,hi,o⟩=>⟨hm i hi a o,λ_=>(rep.bO i a o).2.1⟩
def Rep.put(rep:Rep g M ρ env σ H)(hi:i<env.length)(ok:SlOk g M T H v sl)(ht:∀a,T a->¬M a/\g.H₀ a=none/\Mu H a/\∀j,j≠i->¬ρ j a)(hO:autoParam (∀a,T a->sl.Lw=true) SJ._auto_1) :
 Rep g M (pT ρ i T) (env.set i (some sl)) (σ.set i (some v)) H:=by
 have hi2:i<σ.length:=by rw[<- rep.len];exact hi
 refine⟨rep.same,rep.ic,rep.tL,rep.fl,λj s ej=>?_,λj a h=>?_,λj k a h1 h2=>?_,λj a h=>?_,by rw[RB,RB];exact rep.len,rep.zz⟩
 .by_cases hj:j=i
  .subst hj;rw[Pf hi]at ej;cases ej;exact⟨v,Pf hi2,by rw[eF];exact ok⟩
  .rw[Pl (PV hj)]at ej;obtain⟨w,ew,k⟩:=rep.slot j s ej;exact⟨w,by rw[Pl (PV hj)];exact ew,by rw[cX hj];exact k⟩
 .by_cases hj:j=i
  .subst hj;rw[eF]at h;exact⟨(ht a h).1,(ht a h).2.1,(ht a h).2.2.1⟩
  .rw[cX hj]at h;exact rep.bO j a h
 .by_cases hj:j=i
  .by_cases hk:k=i
   .rw[hj,hk]
   .subst hj;rw[eF]at h1;rw[cX hk]at h2;exact absurd h2 ((ht a h1).2.2.2 k hk)
  .by_cases hk:k=i
   .subst hk;rw[eF]at h2;rw[cX hj]at h1;exact absurd h1 ((ht a h2).2.2.2 j hj)
   .rw[cX hj]at h1;rw[cX hk]at h2;exact rep.apart j k a h1 h2
 .unfold eh;by_cases hj:j=i
  .subst hj;rw[eF]at h;rw[Pf hi];exact hO a h
  .rw[cX hj]at h;rw[Pl (PV hj)];exact rep.ow j a h
def put(env:En)(i:Nat):R->En
 |.new ds fr=>env.set i (some (.own ds fr))
 |.val d fr al=>(aV env al).set i (some (.val d fr))
 |.gd d=>env.set i (some (.oY d))
def Rep.store(rep:Rep g M ρ env σ H)(h0:Same g.H₀ H0)(hi:i<env.length)(h:ROk g M ρ H0 H v r):∃M' ρ',jZ M H M' H/\Rep g M' ρ' (L3.put env i r) (σ.set i (some v)) H:=by
 cases r with
 |new ds fr=>obtain⟨a,vs,rfl,h1,h2,h3,h4,h5⟩:=h;exact⟨M,_,jZ.refl _ _,rep.put (sl:=.own ds fr) (T:=λb=>b=a) hi ⟨a,vs,rfl,h1,λ_=>Iff.rfl,h5⟩ λb e=>by subst e;exact⟨h2,h0.free h3,Mu.lst h1,λj _=>h4 j⟩⟩
 |val d fr al=>obtain⟨M1,ρ1,e1,rep1,o1,k1,_⟩:=Rep.aV al rep;exact⟨M1,_,⟨e1,λ_ _ e _=>e⟩,rep1.put (sl:=.val d fr) (T:=λ_=>False) (by rw[pV];exact hi) (Is.frozen rep e1 o1 h) (λ_ z=>z.elim) λ_ z=>z.elim⟩
 |gd d=>obtain⟨T,ht,is⟩:=h;exact⟨M,_,jZ.refl _ _,rep.put (sl:=.oY d) (T:=T) hi is λb z=>let ⟨a1,a2,a3,a4⟩:=ht b z;⟨a1,h0.free a2,a3,λj _=>a4 j⟩⟩
def Rep.HQ(hu:I_ u')(rep:Rep g M ρ env σ H)(o:ρ i a)(hi:i<env.length)(ev:σ[i]?=some (some v))(ok:SlOk g M (ρ i) (upd H a u') v sl)(hO:autoParam (sl.Lw=true) SN) :
 jZ M H M (upd H a u')/\Rep g M ρ (env.set i (some sl)) σ (upd H a u'):=by
 obtain⟨nm,n0,uo,ha,hmu⟩:=rep.bO i a o;have nfx:∀u,H a=some u->¬gB u:=λu e z=>by rw[ha]at e;cases e;cases uo<;>first|exact z|exact hmu
 have kp:∀b u,H b=some u->(M b\/gB u)->upd H a u' b=some u:=λb u q z=>by grind [ah]
 have km:∀(fr:Bool) b u,H b=some u->(d4 g M fr b\/gB u)->upd H a u' b=some u:=λfr b u q z=>kp b u q (z.imp (·.1) id);refine⟨⟨λ_ z=>z,kp⟩,λb u q=>?_,λb hb=>?_,rep.tL,λb hb h0=>?_,λj s ej=>?_,λj b h=>?_,rep.apart,λj b h=>?_,by rw[RB];exact rep.len,λc z e=>by
  by_cases hc:c=a
  .subst hc;rw[ac]at e;cases e
  .rw[ah hc]at e;exact rep.zz c z e⟩
 .rw[ah (λz=>by rw[z,n0]at q;cases q)];exact rep.same b u q
 .have nb:b≠a:=λz=>nm (by rw[<- z];exact hb);rw[ah nb];exact rep.ic b hb
 .have nb:b≠a:=λz=>nm (by rw[<- z];exact hb);exact(rep.fl b hb h0).same λo e=>by rw[ah nb];exact e
 .by_cases hj:j=i
  .grind
  .rw[Pl (PV hj)]at ej;obtain⟨w,ew,k⟩:=rep.slot j s ej;refine⟨w,ew,?_⟩;have nj:∀b,ρ j b->b≠a:=λb hb e=>hj (rep.apart j i a (e▸hb) o);cases s with
   |val d fr=>exact Is.mono (km fr) (λ_ _ _ z=>z) k
   |own ds' fr'=>obtain⟨b,ws,rfl,h1,h2,h4⟩:=k;exact⟨b,ws,rfl,by rw[ah (nj b ((h2 b).mpr rfl))];exact h1,h2,IsAll.mono (km fr') (λ_ _ _ z=>z) h4⟩
   |oY d=>
    refine Is.mono (λb u q z=>?_) (λ_ _ _ z=>z) k
    grind [ah]
   |Bz d=>refine IsSh.mono (λb u q z=>kp b u q (.inr z)) (λb ws z q=>⟨ws,by rw[ah (nj b z)];exact q⟩) (λ_ z=>z) k
 .obtain⟨b1,b2,b3⟩:=rep.bO j b h;refine⟨b1,b2,?_⟩;by_cases e:b=a
  .exact⟨u',by rw[e,ac],hu⟩
  .exact b3.same λo z=>by rw[ah e];exact z
 .unfold eh;by_cases hj:j=i
  .subst hj;rw[Pf hi];exact hO
  .rw[Pl (PV hj)];exact rep.ow j b h
def Rep.write(rep:Rep g M ρ env σ H)(o:ρ i a)(hi:i<env.length)(ev:σ[i]?=some (some v))(ok:SlOk g M (ρ i) (upd H a (.lst vs')) v sl)(hO:autoParam (sl.Lw=true) SN) :
 jZ M H M (upd H a (.lst vs'))/\Rep g M ρ (env.set i (some sl)) σ (upd H a (.lst vs')):=rep.HQ (u':=.lst vs') True.intro o hi ev ok hO
end
section
noncomputable def kF:En->Res Fl:=λenv=>.ok (.nx env)
def bm(f k:En->Res Fl):En->Res Fl:=λenv=>(f env).bind λr=>match r with
 |.nx cb=>k cb
 |r=>.ok r
def dN:rU X E [] kF:=⟨_,kN,λg M ρ env σ H D rep p=>p σ M ρ H (jZ.refl _ _) rep⟩
def aS{st:Stmt}{f:En->Res Fl}(h:Bt X E st f):rU X E [st] f:=let ⟨t,a,b⟩:=h;⟨t,aC a,b⟩
def au{st:Stmt}{rest:List Stmt}{f k:En->Res Fl}(h1:Bt X E st f)(h2:rU X E rest k):rU X E (st::rest) (bm f k):=by
 obtain⟨t,a,b⟩:=h1;obtain⟨u,c,d⟩:=h2;refine⟨_,ay a c,λg M ρ env σ H D rep p=>b g M ρ env σ H _ rep ?_⟩;unfold bm at p;cases q:f env with
 |stuck=>rw[q]at p;exact p
 |exc c=>rw[q]at p;exact p
 |ok r=>
  rw[q]at p;cases r with
  |nx cb=>exact λσ' M' ρ' H' e rep'=>d g M' ρ' cb σ' H' D rep' (PostS.aV e p)
  |bk cb=>exact p
  |ct cb=>exact p
  |rt r=>exact p
  |rm r cb=>exact p
def yr(c:En->Res Bool)(a b:En->Res Fl):En->Res Fl:=λenv=>(c env).bind λk=>if k then a env else b env
def iH(hc:zE X E c fc)(ha:rU X E a fa)(hb:rU X E b fb):Bt X E (.If c a b pos) (yr fc fa fb):=by
 obtain⟨tc,p1,s1⟩:=hc;obtain⟨ta,p2,s2⟩:=ha;obtain⟨tb,p3,s3⟩:=hb;refine⟨_,nR p1 p2 p3,λg M ρ env σ H D rep p=>s1.yn rep p λb M' H' e rep' p'=>?_⟩;cases b with
 |true=>exact qY (s2 g M' ρ env σ H' D rep' p')
 |false=>exact wZ (s3 g M' ρ env σ H' D rep' p')
def jb(f:En->Res R):En->Res Fl:=λenv=>(f env).bind λr=>.ok (.rt r)
def ROk.ret(rep:Rep g M ρ env σ H)(h0:Same g.H₀ H0)(h:ROk g M ρ H0 H v r)(hz:∀a,¬g.Z a):RetOk g H v r:=by
 have mu:∀a,M a->g.H₀ a=none->Mu H a:=λa h1 h2=>(rep.fl a h1 h2).elim id λz=>(hz a z.1).elim;have key:∀{fr:Bool}{a:Addr},d4 g M fr a->nl g.H₀ H a\/(fr=false/\g.Ma a):=λ{fr a} z=>by
  cases fr with
  |true=>exact .inl ⟨z.2 rfl,mu a z.1 (z.2 rfl)⟩
  |false=>exact(rep.tL a z.1).imp (λw=>⟨w,mu a z.1 w⟩) λw=>⟨rfl,w⟩
 cases r with
 |val d fr al=>exact Is.weak (λa z=>z.elim key λ⟨i,_,o⟩=>.inl (rep.bO i a o).2) h
 |new ds fr=>obtain⟨a,vs,rfl,h1,h2,h3,h4,h5⟩:=h;exact⟨a,vs,rfl,h1,h0.free h3,IsAll.weak (λb z=>⟨λe=>h2 (e▸z.1),key z⟩) h5⟩
 |gd d=>obtain⟨T,ht,is⟩:=h;exact Is.weak (λa z=>let ⟨_,a2,a3,_⟩:=ht a z;⟨h0.free a2,a3⟩) is
def ROk.flatIs(h:ROk g M ρ H0 H v r)(hf:r.d.flat=true):Is H (λ_=>False) r.d v:=by
 cases r with
 |val d fr al=>exact Is.flat hf h
 |new ds fr=>simp[D.flat,R.d]at hf
 |gd d=>obtain⟨T,_,is⟩:=h;exact Is.flat hf is
def cY(h:PD X E e f):Bt X E (.Return (some e) pos) (jb f):=by obtain⟨t,p1,s1⟩:=h;exact⟨_,eU p1,λg M ρ env σ H D rep p=>s1.yn rep p λr v M' H' e rep' ro p'=>p' v M' H' (jZ.refl _ _) rep'.same (λhz=>ro.ret rep' rep.same hz) λhf=>ro.flatIs hf⟩
def bt(i:Nat)(f:En->Res R):En->Res Fl:=λenv=>(f env).bind λr=>if i<env.length then .ok (.nx (put env i r))else .stuck
def vO(s:Snd mg E t f):CF mg E (tAsg t (gName i)) (bt i f):=by
 intro g M ρ env σ H D rep p;refine s.yn rep p λr v M' H' e rep' ro p'=>?_;by_cases hi:i<env.length
 .rw[Ow hi]at p';obtain⟨M2,ρ2,e2,rep2⟩:=rep'.store rep.same hi ro;exact p' _ M2 ρ2 H' e2 rep2
 .rw[Ox hi]at p';exact p'.elim
def aJ(hN:X.N.Nodup)(hi:X.N[i]?=some x)(hx:E7 X.env.scope x)(h:PD X E e f)(hs:autoParam (swapsWith e (some (.Name x pos')) pos.line X.env=pure false) SN)
 (hf:autoParam (X.fn x=true\/X.env.scope.names.lookup x=some .local) SL):Bt X E (.Assign [.Name x pos'] e pos) (bt i f):=by
 obtain⟨t,p1,s1⟩:=h;exact⟨_,bC hN hi hx p1 hs hf,vO s1⟩
def ma(env:En)(i:Nat):Option (List D×Bool):=match env[i]? with
 |some (some (.own ds fr))=>some (ds,fr)
 |some (some (.oY (.lst ds)))=>some (ds,true)
 |_=>none
mutual
noncomputable def D.sz:D->Nat
 |.tup ds=>D.Iv ds+1
 |.lst ds=>D.Iv ds+1
 |.iU _ ds=>D.Iv ds+1
 |_=>0
noncomputable def D.Iv:List D->Nat
 |[]=>0
 |d::ds=>d.sz+D.Iv ds+1
end
section
mutual
theorem Is.avoid(ha:Is H m' e (.ref a)):∀{d:D}{v:V},d.sz<e.sz->Is H m d v->Is H (λb=>m b/\b≠a) d v
 |.ba,_,_,h=>h
 |.bl _,_,_,h=>h
 |.int _,_,_,h=>h
 |.str _,_,_,h=>h
 |.tup ds,_,hs,h=>by obtain⟨b,vs,rfl,h1,h2⟩:=h;simp only[D.sz]at hs;exact⟨b,vs,rfl,h1,IsAll.avoid ha (by lia) h2⟩
 |.lst ds,_,hs,h=>by
  have h':=h;obtain⟨b,vs,rfl,h1,h2⟩:=h;have nb:b≠a:=λz=>by subst z;have q:=Is.inj h' ha;rw[q]at hs;lia
  simp only[D.sz]at hs;refine⟨b,vs,rfl,?_,IsAll.avoid ha (by lia) h2⟩;rcases h1 with⟨h1,h3⟩|⟨o,h1,h3⟩
  .exact .inl ⟨h1,h3,nb⟩
  .exact .inr ⟨o,h1,h3,nb⟩
 |.iU ks ds,_,hs,h=>by
  have h':=h;obtain⟨b,kvs,rfl,h1,h2⟩:=h;have nb:b≠a:=λz=>by subst z;have q:=Is.inj h' ha;rw[q]at hs;lia
  simp only[D.sz]at hs;exact⟨b,kvs,rfl,⟨h1.1,h1.2,nb⟩,IsAll.avoid ha (by lia) h2⟩
theorem IsAll.avoid(ha:Is H m' e (.ref a)):∀{ds:List D}{vs:List V},D.Iv ds<e.sz->IsAll H m ds vs->IsAll H (λb=>m b/\b≠a) ds vs
 |[],_,_,h=>h
 |d::ds,_,hs,h=>by obtain⟨v,r,rfl,h1,h2⟩:=h;simp only[D.Iv]at hs;exact⟨v,r,rfl,Is.avoid ha (by lia) h1,IsAll.avoid ha (by lia) h2⟩
end
end
def Rep.EY(rep:Rep g M ρ env σ H)(e:ma env i=some (ds,fr)) :
 ∃(M':Addr->Prop)(ρ':Pr)(a:Addr)(vs:List V),(∀b,M b->M' b)/\Rep g M' ρ' (env.set i (some (.own ds fr))) σ H/\σ[i]?=some (some (.ref a))/\H a=some (.lst vs)/\(∀b,ρ' i b↔b=a)/\IsAll H (d4 g M' fr) ds vs/\i<env.length/\(∀j b,ρ' j b->ρ j b)/\(∀j,j≠i->ρ' j=ρ j):=by
 unfold ma at e;cases q:env[i]? with
 |none=>rw[q]at e;cases e
 |some o=>
  have hi:i<env.length:=(OG.mp q).1;have hself:env.set i (env[i])=env:=RZ hi;cases o with
  |none=>rw[q]at e;cases e
  |some sl=>
   obtain⟨v,ev,k⟩:=rep.slot i sl q;rw[q]at e;cases sl with
   |val d f=>cases e
   |Bz d=>cases e
   |own ds' f'=>
    cases e;obtain⟨a,vs,rfl,h1,h2,h4⟩:=k;have eq:env.set i (some (.own ds fr))=env:=by
     have:env[i]=some (.own ds fr):=by have:=(OG.mp q).2;exact this
     rw[<- this];exact hself
    rw[eq];exact⟨M,ρ,a,vs,λ_ z=>z,rep,ev,h1,h2,h4,hi,λ_ _ z=>z,λ_ _=>rfl⟩
   |oY d=>
    cases d with
    |lst ds'=>
     cases e;have k':=k;obtain⟨a,vs,rfl,h1,h2⟩:=k;have pa:ρ i a:=by rcases h1 with⟨_,z⟩|⟨_,_,z⟩<;>exact z
     obtain⟨pm,p0,uo,pl,pmu⟩:=rep.bO i a pa;have hl:H a=some (.lst vs):=by
      rcases h1 with⟨h1,_⟩|⟨o,h1,_⟩
      .exact h1
      .rw[h1]at pl;cases pl;exact pmu.elim
     have inner:IsAll H (λb=>ρ i b/\b≠a) ds vs:=IsAll.avoid k' (by simp only[D.sz];lia) h2
     let M':Addr->Prop:=λb=>M b\/(ρ i b/\b≠a)
     let ρ':Pr:=pT ρ i λb=>b=a
     have rr:Rep g M' ρ' (env.set i (some (.own ds true))) (σ.set i (some (.ref a))) H:=by
      have r1:Rep g M' (λj b=>if j=i then b=a else ρ j b) (env.set i (some (.own ds true))) σ H:=by
       refine⟨rep.same,λb hb=>hb.elim (rep.ic b) λz=>?_,λb hb=>hb.elim (rep.tL b) λz=>.inl (rep.bO i b z.1).2.1,λb hb h0=>hb.elim (λz=>rep.fl b z h0) λz=>.inl (rep.bO i b z.1).2.2,λj s ej=>?_,λj b h=>?_,λj k b w1 w2=>?_,λj b h=>?_,by rw[RB];exact rep.len,rep.zz⟩
       .exact(rep.bO i b z.1).2.2.some
       .by_cases hj:j=i
        .subst hj;rw[Pf hi]at ej;cases ej;exact⟨_,ev,a,vs,rfl,hl,λb=>by simp,IsAll.weak (λb z=>⟨.inr z,λ_=>(rep.bO j b z.1).2.1⟩) inner⟩
        .rw[Pl (PV hj)]at ej;obtain⟨v',ev',k2⟩:=rep.slot j s ej;have eT:(λb=>if j=i then b=a else ρ j b)=ρ j:=by funext b;rw[Ox hj]
         exact⟨v',ev',by show SlOk g M' (λb=>if j=i then b=a else ρ j b) H v' s;rw[eT];exact SlOk.weak (λ_=>.inl) k2⟩
       .by_cases hj:j=i
        .rw[Ow hj]at h;subst h;exact⟨λz=>z.elim pm λz=>z.2 rfl,p0,Mu.lst hl⟩
        .rw[Ox hj]at h;exact⟨λz=>z.elim (rep.bO j b h).1 λz=>hj (rep.apart j i b h z.1),(rep.bO j b h).2⟩
       .by_cases hj:j=i
        .by_cases hk:k=i
         .rw[hj,hk]
         .rw[Ow hj]at w1;rw[Ox hk]at w2;subst w1;exact absurd (rep.apart k i b w2 pa) hk
        .by_cases hk:k=i
         .rw[Ow hk]at w2;rw[Ox hj]at w1;subst w2;exact absurd (rep.apart j i b w1 pa) hj
         .rw[Ox hj]at w1;rw[Ox hk]at w2;exact rep.apart j k b w1 w2
       .unfold eh;by_cases hj:j=i
        .subst hj;rw[Pf hi];rfl
        .rw[Ox hj]at h;rw[Pl (PV hj)];exact rep.ow j b h
      have hi2:i<σ.length:=by rw[<- rep.len];exact hi
      have es:σ.set i (some (.ref a))=σ:=by have:σ[i]=some (.ref a):=(OG.mp ev).2;rw[<- this];exact RZ hi2
      rw[es];exact r1
     have hi2:i<σ.length:=by rw[<- rep.len];exact hi
     have es:σ.set i (some (.ref a))=σ:=by have:σ[i]=some (.ref a):=(OG.mp ev).2;rw[<- this];exact RZ hi2
     rw[es]at rr;refine⟨M',ρ',a,vs,λ_=>.inl,rr,ev,hl,λb=>by show pT ρ i (λb=>b=a) i b↔b=a;rw[eF],IsAll.weak (λb z=>⟨.inr z,λ_=>(rep.bO i b z.1).2.1⟩) inner,hi,λj b z=>?_,λj hj=>cX hj⟩;by_cases hj:j=i
     .subst hj;have z:pT ρ j (λb=>b=a) j b:=z;rw[eF]at z;rw[z];exact pa
     .have z:pT ρ i (λb=>b=a) j b:=z;rw[cX hj]at z;exact z
    |_=>cases e
def pW(i:Nat)(f:En->Res R):En->Res Fl:=λenv=>match ma env i with
 |some (ds,fr)=>(f env).bind λr=>if ds.length<lim/\¬i∈r.al then .ok (.nx ((aV env r.al).set i (some (.own (ds++[r.d]) (fr&&r.fr)))))else .stuck
 |none=>.stuck
def k8(ha:PE X a (tVar i))(h:PD X E e f)
 (hbase:autoParam (attributeBase a "append" X.env (eval a X.env)=eval a X.env) SN)
 (hfew:autoParam (((backTo cpos (starEach [e] X.env)).all (λx=>!x.1)&&(backToKw cpos (keywordEach [] X.env)).all (λx=>x.1.isSome)
   && decide (([e]:List Expr).length+([]:List Keyword).length+(if([]:List Keyword).isEmpty then 0 else 1)<30))=true) SN)
 (hline:autoParam ((apos.endLine==cpos.line)=true) SN) (hs:autoParam (starEach [e] X.env=(false,eval e X.env)::starEach [] X.env) SN) (hplain:autoParam (bT X cpos []) SN)
 (hsw:autoParam (swapsWith (.Call (.Attribute a "append" apos) [e] [] cpos) none pos.line X.env=pure false) SN) :
 Bt X E (.Expr (.Call (.Attribute a "append" apos) [e] [] cpos) pos) (pW i f):=by
 obtain⟨t,p1,s1⟩:=h;refine⟨_,bw (d7 P8 QL QM fq ha (af p1 ax hs) hbase hfew hline hs hplain) hsw,λg M ρ env σ H D rep p=>?_⟩;unfold pW at p;cases e1:ma env i with
 |none=>rw[e1]at p;exact p.elim
 |some o=>
  obtain⟨ds,fr⟩:=o;rw[e1]at p;dsimp only at p;obtain⟨M0,ρ0,l,vs,m0,rep0,ev,k1,k2,k4,hi,_⟩:=rep.EY e1;refine⟨_,ev,.inl ⟨rfl,vs,SqL.of k1⟩,s1.yn rep p λr y M' H' e rep' ro p'=>?_⟩;by_cases hc:ds.length<lim/\¬i∈r.al
  .rw[Ow hc]at p';obtain⟨M1,x1,x1m,rep1,is1⟩:=ro.is rep' e rep.same;obtain⟨M2,ρ2,x2,rep2,o2,k5,k6⟩:=Rep.aV r.al rep1;have is2:Is H' (d4 g M2 r.fr) r.d y:=Is.frozen rep1 x2 o2 is1;have e2:ma (aV env r.al) i=some (ds,fr):=by unfold ma;rw[zO _ hc.2];exact e1
   obtain⟨M3,ρ3,l3,vs3,m3,rep3,ev3,j1,j2,j4,hi3,_⟩:=rep2.EY e2;rw[ev]at ev3;cases ev3;have hl:H' l=some (.lst vs):=e.h _ _ k1;rw[hl]at j1;cases j1;have pl:ρ3 i l:=(j2 l).mpr rfl;obtain⟨nl3,_⟩:=rep3.bO i l pl;have is4:IsAll H' (d4 g M3 (fr&&r.fr)) (ds++[r.d]) (vs++[y]):=by refine IsAll.snoc (IsAll.weak (λb z=>⟨z.1,λq=>z.2 (by cases fr<;>simp_all)⟩) j4) (Is.weak (λb z=>⟨m3 b z.1,λq=>z.2 (by cases fr<;>simp_all)⟩) is2)
   have kp:∀b u,H' b=some u->(d4 g M3 (fr&&r.fr) b\/gB u)->upd H' l (.lst (vs++[y])) b=some u:=λb u q z=>by
    rw[ah]
    .exact q
    .rintro rfl;rcases z with z|z
     .exact nl3 z.1
     .rw[hl]at q;cases q;exact z
   obtain⟨f1,rep4⟩:=rep3.write (sl:=.own (ds++[r.d]) (fr&&r.fr)) (vs':=vs++[y]) pl (by rw[RB];exact hi3) ev ⟨l,vs++[y],rfl,ac,j2,IsAll.mono kp (λ_ _ _ z=>z) is4⟩;rw[List.set_set]at rep4;refine⟨l,vs,y,rfl,rfl,hl,by rw[k4.length];exact zF hc.1,?_⟩;exact p' σ M3 ρ3 _ (jZ.trans ⟨λa z=>m3 a (x2 a (x1m a z)),λ_ _ q _=>q⟩ f1) rep4
  .rw[Ox hc]at p';exact p'.elim
end
def F3(ix:List Nat)(t:TG)(asg:D->Bool->En->Option En):Prop:=∀(g:Gd)(M:Addr->Prop)(ρ:Pr)(env cb:En)(σ:St)(H:Hp)(d:D)(fr:Bool)(v:V)(Q:St->Hp->Prop),
 Rep g M ρ env σ H->Is H (d4 g M fr) d v->asg d fr env=some cb->(∀(σ':St)(ρ':Pr),Rep g M ρ' cb σ' H->(∀j,¬j∈ix->σ'[j]?=σ[j]?)->(∀j a,ρ' j a->ρ j a)->Q σ' H)->t v σ H Q
def Il(X:Cx)(ix:List Nat)(tg:Expr)(asg:D->Bool->En->Option En):Prop:=∃t,PG X tg t/\F3 ix t asg
section
def gN(i:Nat):D->Bool->En->Option En:=λd fr env=>if i<env.length then some (env.set i (some (.val d fr)))else none
def xt:F3 [i] (gName i) (gN i):=by
 intro g M ρ env cb σ H d fr v Q rep is e k;unfold gN at e;by_cases hi:i<env.length
 .rw[Ow hi]at e;cases e;exact k _ _ (rep.put (sl:=.val d fr) (T:=λ_=>False) hi is (λ_ z=>z.elim) λ_ z=>z.elim) (λj hj=>Pl λe=>hj (by simp[e])) λj a z=>by
   by_cases hj:j=i
   .subst hj;rw[eF]at z;exact z.elim
   .rw[cX hj]at z;exact z
 .rw[Ox hi]at e;cases e
def dc(hN:X.N.Nodup)(hi:X.N[i]?=some x)(hx:E7 X.env.scope x)(hf:autoParam (X.fn x=true\/X.env.scope.names.lookup x=some .local) SL):Il X [i] (.Name x pos) (gN i):=⟨_,aO hN hi hx hf,xt⟩
end
structure Src where
 xs:List D
 fr:Bool
 al:List Nat
structure Walk(J:It) (m:Addr->Prop) (H:Hp) (xs:List D):Prop where
 go:∀H' i d,(∀a o,H a=some o->(m a\/gB o)->H' a=some o)->xs[i]?=some d->J.go i H'/\∀x H'',J.yx i H' x H''->Same H' H''/\Is H'' m d x
 stop:∀H',(∀a o,H a=some o->(m a\/gB o)->H' a=some o)->J.stop xs.length H'
theorem Walk.weak(w:Walk J m H xs)(h:∀a,m a->m' a):Walk J m' H xs:=⟨λH' i d k e=>let ⟨a,b⟩:=w.go H' i d (λa o q z=>k a o q (z.imp (h a) id)) e;⟨a,λx H'' y=>let ⟨c,d⟩:=b x H'' y;⟨c,d.weak h⟩⟩,λH' k=>w.stop H' λa o q z=>k a o q (z.imp (h a) id)⟩
def PostI(mg:Str->Option SD)(E:XK)(g:Gd)(M:Addr->Prop)(ρ:Pr)(env:En)(σ:St)(H:Hp)(R:It->Hp->Prop):Res Src->Prop
 |.stuck=>False
 |.exc c=>CA mg E g c
 |.ok s=>∀J M' H',Ext M H M' H'->Rep g M' ρ env σ H'->Walk J (vmsk g M' s.fr ρ s.al) H' s.xs->R J H'
def Jh(mg:Str->Option SD)(E:XK)(wi:TI)(f:En->Res Src):Prop:=∀g M ρ env σ H R,Rep g M ρ env σ H->PostI mg E g M ρ env σ H R (f env)->wi σ H R
def Ji(X:Cx)(E:XK)(tg iter:Expr)(f:En->Res Src):Prop:=∃wi,PI X tg iter wi/\Jh X.mg E wi f
section
variable{X:Cx}{E:XK}
def LZ(K:SB)(tl:TE):TI:=λσ H R=>tl σ H λx H1=>∃a,x=.ref a/\(((∃xs,SqL K H1 a xs)/\R (Bq K a) H1)\/((∃xs,SqT K H1 a xs)/\R (LB K a) H1))
def F4(hl:PE X l tl):PI X tg l (LZ X.K tl):=by
 intro aa s σ H R I h;refine bQ (hl aa s σ H _ I h) λv s1 ⟨x,H1,I1,r1,q1⟩=>?_;obtain⟨a,e,q⟩:=q1;subst e;cases r1;rcases q with⟨⟨xs,hq⟩,q⟩|⟨⟨xs,hq⟩,q⟩
 .obtain⟨its,rv,p,hz⟩:=I1.list hq;refine Qr p.isList ?_;refine⟨s1.heap.objs.size,[s1.heap.objs.size],_,_,H1,rfl,I1.kept (t':=s1.toks) λb o e=>Ot _ e,nS a _,⟨_,Oy _ rfl,rfl,rfl⟩,λb hb=>?_,q⟩;have e:b=s1.heap.objs.size:=by simpa using hb
  subst e;exact I1.nM (Ou _) (I1.aF.fresh (Ou _))
 .obtain⟨its,rv,p,hz⟩:=I1.tuple hq;refine wpAny_pyIter_tuple (show s1.heap.IsTuple a its.toArray from p) ?_;refine⟨s1.heap.objs.size,[s1.heap.objs.size],_,_,H1,rfl,I1.kept (t':=s1.toks) λb o e=>Ot _ e,tQ a _,⟨_,Oy _ rfl,rfl,rfl⟩,λb hb=>?_,q⟩;have e:b=s1.heap.objs.size:=by simpa using hb
  subst e;exact I1.nM (Ou _) (I1.aF.fresh (Ou _))
def xu{K:SB}{a:Addr}{m:Addr->Prop}(h:(H a=some (.lst vs)/\m a)\/∃o,H a=some (.aV o (.lst vs))/\m a)(is:IsAll H m ds vs):Walk (Bq K a) m H ds:=by
 have st:∀H',(∀a o,H a=some o->(m a\/gB o)->H' a=some o)->SqL K H' a vs:=λH' k=>by
  rcases h with⟨h,hm⟩|⟨o,h,_⟩
  .exact .inl (.inl (k a _ h (.inl hm)))
  .exact .inl (.inr ⟨o,k a _ h (.inr True.intro)⟩)
 refine⟨λH' i d k e=>?_,λH' k=>⟨vs,st H' k,by rw[is.length];exact Ou _⟩⟩;obtain⟨v,ev,iv⟩:=(is.mono k λ_ _ _ z=>z:IsAll H' m ds vs).get e;refine⟨⟨vs,v,st H' k,ev⟩,λx H'' y=>?_⟩;obtain⟨rfl,y⟩:=y;have:=y vs (st _ k);rw[ev]at this;cases this;exact⟨Same.refl _,iv⟩
def zP{K:SB}{a:Addr}{m:Addr->Prop}(h:H a=some (.tup vs))(is:IsAll H m ds vs):Walk (LB K a) m H ds:=by have st:∀H',(∀a o,H a=some o->(m a\/gB o)->H' a=some o)->SqT K H' a vs:=λH' k=>SqT.of (k a _ h (.inr True.intro));refine⟨λH' i d k e=>?_,λH' k=>⟨vs,st H' k,by rw[is.length];exact Ou _⟩⟩;obtain⟨v,ev,iv⟩:=(is.mono k λ_ _ _ z=>z:IsAll H' m ds vs).get e;refine⟨⟨vs,v,st H' k,ev⟩,λx H'' y=>?_⟩;obtain⟨rfl,y⟩:=y;have:=y vs (st _ k);rw[ev]at this;cases this;exact⟨Same.refl _,iv⟩
noncomputable def eG(lo:Int)(n:Nat):List D:=(List.range n).map λk=>.int (lo+(k:Nat))
def uI(lo:Int)(n:Nat):Walk (La lo n) m H (eG lo n):=by
 refine⟨λH' i d k e=>?_,λH' k=>by show n<=(eG lo n).length;simp[eG]⟩;have hi:i<n:=by have:=(OG.mp e).1;simpa[eG]using this
 refine⟨hi,λx H'' y=>?_⟩;obtain⟨rfl,rfl⟩:=y;refine⟨Same.refl _,?_⟩;have:(eG lo n)[i]?=some (.int (lo+(i:Nat))):=by simp[eG,hi]
 rw[this]at e;cases e;rfl
def md(f:En->Res R):En->Res Src:=λenv=>(f env).bind λr=>match r.d with
 |.lst ds=>.ok ⟨ds,r.fr,r.al⟩
 |.tup ds=>.ok ⟨ds,r.fr,r.al⟩
 |_=>.stuck
def jc(h:PD X E l f):Ji X E tg l (md f):=by
 obtain⟨t,p1,s1⟩:=h;refine⟨_,F4 p1,λg M ρ env σ H R rep p=>?_⟩;refine s1.one rep (P:=λM H r=>PostI X.mg E g M ρ env σ H R r) p (λ_ _ z=>z) (λ_ _ _ z=>z) (λM H M' H' r e p=>?_) λr v M1 H1 e1 rep1 is q=>?_
 .cases r with
  |stuck=>exact p
  |exc c=>exact p
  |ok s=>exact λJ M2 H2 e2=>p J M2 H2 (e.trans e2)
 .cases z:r.d with
  |lst ds=>rw[z]at is;simp only[z]at q;obtain⟨a,vs,rfl,h1,h2⟩:=is;exact⟨a,rfl,.inl ⟨⟨vs,.inl (h1.imp (·.1) λ⟨o,z,_⟩=>⟨o,z⟩)⟩,q _ M1 H1 (Ext.refl _ _) rep1 (xu h1 h2)⟩⟩
  |tup ds=>rw[z]at is;simp only[z]at q;obtain⟨a,vs,rfl,h1,h2⟩:=is;exact⟨a,rfl,.inr ⟨⟨vs,SqT.of h1⟩,q _ M1 H1 (Ext.refl _ _) rep1 (zP h1 h2)⟩⟩
  |_=>simp only[z]at q;exact q.elim
noncomputable def cR(i:Int):Bool:=decide (-(2^62)<=i)&&decide (i<2^62)
def F5(fs:En->Res (List R)):En->Res Src:=λenv=>(fs env).bind λrs=>match rs.map R.d with
 |[.int j]=>if cR j then .ok ⟨eG 0 j.toNat,true,[]⟩else .stuck
 |_=>.stuck
def PostI.ext{mg:Str->Option SD}{M M':Addr->Prop}{R:It->Hp->Prop}(e:Ext M H M' H')(p:PostI mg E g M ρ env σ H R r):PostI mg E g M' ρ env σ H' R r:=by
 cases r with
 |stuck=>exact p
 |exc c=>exact p
 |ok s=>exact λJ M2 H2 e2=>p J M2 H2 (e.trans e2)
def iI(hg:Gl X "range") (hm:X.mg "range"=none) (ha:Bs X E [a] fs) (hs:autoParam (starEach [a] X.env=[(false,eval a X.env)]) SN):Ji X E tg (.Call (.Name "range" p) [a] [] pos) (F5 fs):=by
 obtain⟨t,p1,s1⟩:=ha;refine⟨_,wH hg hm p1 hs,λg M ρ env σ H Rq rep p=>s1.one rep (P:=λM H r=>PostI X.mg E g M ρ env σ H Rq r) p (λ_ _ z=>z) (λ_ _ _ z=>z) (λ_ _ _ _ _ e p=>p.ext e) λrs vs M1 H1 e1 rep1 is q=>?_⟩;generalize hd:rs.map R.d=ds at is q
 match ds,is,q with
 |[.int j],is,q=>
  obtain⟨v,w,rfl,i1,i2⟩:=is;cases i1;cases i2;dsimp only at q;by_cases hc:cR j=true
  .rw[Ow hc]at q;simp only[cR,Pa,Qw]at hc;exact⟨j,rfl,hc.1,hc.2,q _ M1 H1 (Ext.refl _ _) rep1 (uI 0 j.toNat)⟩
  .rw[Ox hc]at q;exact q.elim
 |[],_,q=>exact q.elim
 |[.ba],_,q=>exact q.elim
 |[.bl _],_,q=>exact q.elim
 |[.str _],_,q=>exact q.elim
 |[.tup _],_,q=>exact q.elim
 |[.lst _],_,q=>exact q.elim
 |[.iU _ _],_,q=>exact q.elim
 |.int _::_::_,_,q=>exact q.elim
 |.ba::_::_,_,q=>exact q.elim
 |.bl _::_::_,_,q=>exact q.elim
 |.str _::_::_,_,q=>exact q.elim
 |.tup _::_::_,_,q=>exact q.elim
 |.lst _::_::_,_,q=>exact q.elim
 |.iU _ _::_::_,_,q=>exact q.elim
def ff(asg:D->Bool->En->Option En)(fr:Bool)(body:En->Res Fl):List D->En->Res Fl
 |[],env=>.ok (.nx env)
 |x::xs,env=>match asg x fr env with
  |none=>.stuck
  |some env1=>(body env1).bind λr=>match r with
   |.nx cb=>ff asg fr body xs cb
   |.ct cb=>ff asg fr body xs cb
   |.bk cb=>.ok (.nx cb)
   |.rt r=>.ok (.rt r)
   |.rm r e=>.ok (.rm r e)
def nE(src:En->Res Src)(asg:D->Bool->En->Option En)(body:En->Res Fl):En->Res Fl:=λenv=>(src env).bind λs=>ff asg s.fr body s.xs (aV env s.al)
def Jj(J:It)(u:TG)(tb:TS)(D:Ends)(σ:St)(H1:Hp):Prop:=∃W:Nat->Nat->St->Hp->Prop,(∃m,W 0 m σ H1)/\∀i m σ H,W i m σ H->(J.stop i H/\D.nx σ H)\/(J.go i H/\∃N:St->Hp->Prop,(∀σ' H',N σ' H'->∃m',m'<m/\W (i+1) m' σ' H')/\∀x H',J.yx i H x H'->u x σ H' λσ2 H2=>tb {D with nx:=N,ct:=N,bk:=D.nx} σ2 H2)
def zQ{asg:D->Bool->En->Option En}{fb:En->Res Fl}{g:Gd}{M2:Addr->Prop}{ρ2:Pr}{env2:En}{σ:St}{H1:Hp}{D:Ends}(s2:F3 ix u asg)(s3:CF X.mg E tb fb)(rep2:Rep g M2 ρ2 env2 σ H1)(wk2:Walk J (d4 g M2 fr) H1 xs)(p2':PostS X.mg E g M2 H1 D (ff asg fr fb xs env2)):Jj J u tb D σ H1:=by
 refine⟨λi m σ' H'=>m=xs.length-i/\i<=xs.length/\∃M' ρ' cb,Rep g M' ρ' cb σ' H'/\jZ M2 H1 M' H'/\PostS X.mg E g M' H' D (ff asg fr fb (xs.drop i) cb),⟨_,rfl,OR _,M2,ρ2,_,rep2,jZ.refl _ _,p2'⟩,?_⟩;rintro i m σ' H' ⟨rfl,hle,M',ρ',cb,rep',f',p'⟩;have kp:∀a o,H1 a=some o->(d4 g M2 fr a\/gB o)->H' a=some o:=λa o e z=>f'.h a o e (z.imp (·.1) id);by_cases hlt:i<xs.length
 .have ed:xs[i]?=some xs[i]:=by simp[hlt]
  obtain⟨go,yl⟩:=wk2.go H' i _ kp ed;have edrop:xs.drop i=xs[i]::xs.drop (i+1):=Qg hlt;rw[edrop]at p';unfold ff at p';refine .inr ⟨go,λσ'' H''=>∃M'' ρ'' env'',Rep g M'' ρ'' env'' σ'' H''/\jZ M2 H1 M'' H''/\PostS X.mg E g M'' H'' D (ff asg fr fb (xs.drop (i+1)) env''),λσ'' H'' z=>⟨xs.length-(i+1),by lia,rfl,hlt,z⟩,λx H'' y=>?_⟩;obtain⟨sm,is⟩:=yl x H'' y;have rep'':=rep'.grow sm;have fx:jZ M' H' M' H'':=⟨λ_ z=>z,λa o e _=>sm a o e⟩;have is':Is H'' (d4 g M' fr) xs[i] x:=is.weak λa z=>d4.mono f'.m z;cases qa:asg xs[i] fr cb with
  |none=>simp only[qa]at p';exact p'.elim
  |some env1=>
   simp only[qa]at p';refine s2 g M' ρ' cb env1 σ' H'' _ fr x _ rep'' is' qa λσ1 ρ1 rep1' _ _=>?_;refine s3 g M' ρ1 env1 σ1 H'' _ rep1' ?_;have p'':=PostS.aV fx p';cases qb:fb env1 with
   |stuck=>rw[qb]at p'';exact p''
   |exc c=>rw[qb]at p'';exact p''
   |ok r=>
    rw[qb]at p'';cases r with
    |nx e3=>exact λσ3 M3 ρ3 H3 f3 rep3=>⟨M3,ρ3,e3,rep3,(f'.trans fx).trans f3,PostS.aV f3 p''⟩
    |ct e3=>exact λσ3 M3 ρ3 H3 f3 rep3=>⟨M3,ρ3,e3,rep3,(f'.trans fx).trans f3,PostS.aV f3 p''⟩
    |bk e3=>exact p''
    |rt r=>exact p''
    |rm r e3=>exact p''
 .have e:i=xs.length:=by lia
  subst e;rw[List.drop_length]at p';exact .inl ⟨wk2.stop H' kp,p' σ' M' ρ' H' (jZ.refl _ _) rep'⟩
def k9(hp:PassesOwn (model X.prog X.w) X.A X.env X.xe)(hc:X.calm=true)
 (hi:Ji X E tg iter src) (hg:Il X ix tg asg) (hb:rU X E body fb) (hs:autoParam (∀x,foldedSetIterable iter X.env x=pure x) SM):Bt X E (.For tg iter body [] pos) (nE src asg fb):=by
 obtain⟨wi,p1,s1⟩:=hi;obtain⟨u,p2,s2⟩:=hg;obtain⟨tb,p3,s3⟩:=hb;refine⟨_,b_ hp hc p1 p2 p3 hs,λg M ρ env σ H D rep p=>?_⟩;refine s1 g M ρ env σ H _ rep ?_;unfold nE at p;cases q:src env with
 |stuck=>rw[q]at p;exact p
 |exc c=>rw[q]at p;exact p
 |ok s=>rw[q]at p;intro J M1 H1 e1 rep1 wk;obtain⟨M2,ρ2,x2,rep2,o2,_,_⟩:=Rep.aV s.al rep1;have wk2:Walk J (d4 g M2 s.fr) H1 s.xs:=wk.weak λa z=>z.elim (d4.mono x2) λ⟨i,hi,o⟩=>⟨o2 i hi a o,λ_=>(rep1.bO i a o).2.1⟩;have p2':PostS X.mg E g M2 H1 D (ff asg s.fr fb s.xs (aV env s.al)):=PostS.aV (e1.aV.trans ⟨x2,λ_ _ q _=>q⟩) p;exact zQ s2 s3 rep2 wk2 p2'
end
theorem fV:∀(names:List (Str×NameKind))(cs:List (Str×Addr)),(∀x∈names,x.2=.free->∃c,env.cells.lookup x.1=some c)->(∀y c,cs.lookup y=some c->env.cells.lookup y=some c)->
 ∃cl,(forIn names cs λ(x:Str×NameKind)(r:List (Str×Addr))=>(do
  if(x.2==.free)=true then
   let c <- cellOf env x.1
   pure (ForInStep.yield ((x.1,c)::r))
  else pure (ForInStep.yield r):Sem (ForInStep (List (Str×Addr)))))=pure cl/\(∀y c,cl.lookup y=some c->env.cells.lookup y=some c)/\(∀x∈names,x.2=.free->∃c,cl.lookup x.1=some c)/\(∀y c,cs.lookup y=some c->∃c',cl.lookup y=some c')
 |[],cs,_,h=>⟨cs,by simp,h,λ_ z=>absurd z (by simp),λy c e=>⟨c,e⟩⟩
 |(n,k)::r,cs,hf,h=>by
  by_cases hk:k=.free
  .subst hk;obtain⟨c,hc⟩:=hf (n,.free) (by simp) rfl;have hco:cellOf env n=pure c:=by simp[cellOf,hc]
   have h':∀y c',((n,c)::cs).lookup y=some c'->env.cells.lookup y=some c':=λy c' e=>by
    rw[QS]at e;cases hy:y==n with
    |true=>rw[hy]at e;cases e;rw[eq_of_beq hy];exact hc
    |false=>rw[hy]at e;exact h y c' e
   obtain⟨cl,e1,e2,e3,e4⟩:=fV r ((n,c)::cs) (λx hx=>hf x (by simp[hx])) h';have self:∃c',cl.lookup n=some c':=e4 n c (by simp[QS]);refine⟨cl,?_,e2,λx hx hxf=>?_,λy c' e=>?_⟩
   .rw[List.forIn_cons];simp only[beq_self_eq_true,Qy,hco,pure_bind];exact e1
   .rcases OE.mp hx with rfl|hx
    .exact self
    .exact e3 x hx hxf
   .by_cases hy:y=n
    .rw[hy];exact self
    .refine e4 y c' ?_;have hb:(y==n)=false:=by simpa using hy
     rw[QS,hb];exact e
  .obtain⟨cl,e1,e2,e3,e4⟩:=fV r cs (λx hx=>hf x (by simp[hx])) h;refine⟨cl,?_,e2,λx hx hxf=>?_,e4⟩
   .rw[List.forIn_cons];have hkb:(k==NameKind.free)=false:=by simpa using hk
    simp only[hkb,OD,Pk,pure_bind];exact e1
   .rcases OE.mp hx with rfl|hx
    .exact absurd hxf hk
    .exact e3 x hx hxf
def nF(h:∀x∈scope.names,x.2=.free->∃c,env.cells.lookup x.1=some c) :
 ∃cl,closureFor scope env=pure cl/\(∀y c,cl.lookup y=some c->env.cells.lookup y=some c)/\(∀x∈scope.names,x.2=.free->∃c,cl.lookup x.1=some c):=by
 obtain⟨cl,e1,e2,e3,_⟩:=fV scope.names [] h (λ_ _ e=>by simp at e);refine⟨cl,?_,e2,e3⟩;unfold closureFor;refine Eq.trans ?_ (show((pure cl:Sem (List (Str×Addr))) >>= λcs=>pure cs)=pure cl by simp);rw[<- e1]
 all_goals first
  |rfl
  |(congr 1;congr 1;funext x r;obtain⟨n,k⟩:=x;first|rfl|(dsimp only;split<;>simp_all))
theorem kg{f:Str->NameKind->NameKind}:∀(names:List (Str×NameKind))(y:Str),(names.map λx=>(x.1,f x.1 x.2)).lookup y=(names.lookup y).map (f y)
 |[],y=>rfl
 |(n,k)::r,y=>by
  rw[OH,QS,QS];cases h:y==n with
  |true=>rw[eq_of_beq h];rfl
  |false=>exact kg r y
def gE(scope:Scope)(env:Env)(y:Str):(relabel scope env).names.lookup y=(scope.names.lookup y).map λk=>if(k==.free&&env.scope.kind==.function&&env.kindOf y==some .cell)=true then .cell else k:=by
 have e:(relabel scope env).names=scope.names.map λx=>(x.1,(λn k=>if(k==NameKind.free&&env.scope.kind==.function&&env.kindOf n==some .cell)=true then NameKind.cell else k) x.1 x.2):=by unfold relabel;refine O0 λx _=>?_;obtain⟨n,k⟩:=x;dsimp only;split<;>rfl
 rw[e];exact kg (f:=λn k=>if(k==NameKind.free&&env.scope.kind==.function&&env.kindOf n==some .cell)=true then NameKind.cell else k) scope.names y
def pX(h:scope.names.lookup y=some .free):(relabel scope env).names.lookup y=some .cell\/(relabel scope env).names.lookup y=some .free:=by
 rw[gE,h];simp only[Option.map_some];split
 .exact .inl rfl
 .exact .inr rfl
noncomputable def aT(X:Cx)(scope:Scope)(N:List Str)(cl:List (Str×Addr))(C:Addr)(s:Sz)(H:Hp)(ex:List Addr):Cx:={X with N:=N,s₀:=s,H₀:=H,env:=compEnvC scope cl C X.env,outer:=X.stack,ex:=ex,fn:=λ_=>false,pn:=[],xe:=λ_ _=>False}
section
def CG(I:L2.Inv X aa σ H s)(hkind:scope.kind=.function)(hcell:∀y∈scope.names,y.2≠.cell)(hcl:∀y c,cl.lookup y=some c->X.env.cells.lookup y=some c)(hhas:∀x∈scope.names,x.2=.free->∃c,cl.lookup x.1=some c)
 (hC:s.heap.objs.size<=C) (hex:∀b∈ex,ia X aa H b/\b<s.heap.objs.size):(aT X scope N cl C s H ex).Ok where
 mod:=I.ok.mod
 kind:=hkind
 glob:=I.ok.glob
 blt:=I.ok.blt
 above:=hC
 inj:=λx y c h1 h2=>I.ok.inj x y c (hcl x c h1) (hcl y c h2)
 has:=λy hy=>by
  have key:∀k,(relabel scope X.env).names.lookup y=some k->(k=.cell\/k=.free)->∃c,cl.lookup y=some c:=λk e hk=>by
   rw[gE]at e;cases q:scope.names.lookup y with
   |none=>rw[q]at e;cases e
   |some k0=>
    have hm:=Qd q;have h0:=hcell _ hm;have hf:k0=.free:=by
     rw[q]at e;simp only[Option.map_some,Ss]at e;split at e
     .rename_i z;simp only[Pa,Sn]at z;exact z.1.1
     .rcases hk with hk|hk
      .exact absurd (e.trans hk) h0
      .exact e.trans hk
    exact hhas _ hm hf
  rcases hy with hy|hy
  .exact key _ hy (.inl rfl)
  .exact key _ hy (.inr rfl)
 Iy:=λ_ _ h=>by cases h
 hd:=I.ok.hd
 frames:=I.ok.frames
 K5:=.inl rfl
 Nd:=λb hb=>⟨OJ (O6 (hex b hb).2 hC),λx c e=>(hex b hb).1.2.2.2.2.1 x c (hcl x c e)⟩
 bs:=λb o e=>I.bs b o e
 BA:=O3 I.ok.BA I.sz
 yo:=λb o e hb=>by
  rcases(hex b hb).1.2.2.2.1 with z|z
  .exact I.ok.yo b o e z
  .exact absurd (O6 (OA e) (O3 I.ok.BA z)) (Rp _)
 Bm:=λb hb hfs=>by
  rcases OE.mp (I.qI b hfs)with z|z
  .exact(hex b hb).1.2.1 z
  .exact(hex b hb).1.2.2.1 z
 j5:=I.stack
 EO:=I.wD
 kt:=I.kt
structure KZ(X:Cx) (scope:Scope) (capN:List Str) (caps:List Nat):Prop where
 at':∀(k:Nat)(y:Str),capN[k]?=some y->∃j:Nat,caps[k]?=some j/\X.N[j]?=some y
 out:∀y∈capN,X.env.kindOf y=some .cell\/X.env.kindOf y=some .free
 tL:∀y∈capN,scope.names.lookup y=some .free
 len:caps.length=capN.length
noncomputable def iJ(σ:St)(caps:List Nat):St:=caps.map λj=>(σ[j]?).join
def zR(I:L2.Inv X aa σ H s)(hkind:scope.kind=.function)(hcell:∀y∈scope.names,y.2≠.cell)(hcl:∀y c,cl.lookup y=some c->X.env.cells.lookup y=some c)(hhas:∀x∈scope.names,x.2=.free->∃c,cl.lookup x.1=some c)
 (hC:s.heap.objs.size<=C) (hex:∀b∈ex,ia X aa H b/\b<s.heap.objs.size) (hc:KZ X scope capN caps) (kp:∀b o,s.heap.get? b=some o->h4.get? b=some o) (ns:h4.Ns C m4) :
 L2.Inv (aT X scope (tN++capN) cl C s H ex) [] (List.replicate tN.length none++iJ σ caps) H {s with heap:=h4,toks:=tk} where
 ok:=CG I hkind hcell hcl hhas hC hex
 os:=rfl
 bare:=I.bare
 base:=Un.kept kp
 loc:=by
  refine⟨m4,ns,λi y v e1 e2 e3=>?_⟩;by_cases hlt:i<tN.length
  .rw[Qi (by simpa using hlt),RC]at e2;rw[Ow hlt]at e2;cases e2
  .obtain⟨k,rfl⟩ : ∃k,i=tN.length+k:=⟨i-tN.length,by lia⟩;have e1:capN[k]?=some y:=by
    have e1:(tN++capN)[tN.length+k]?=some y:=e1
    rwa [Py (by lia),Qq]at e1
   have e2:(iJ σ caps)[k]?=some (some v):=by
    rwa [Py (by simp),RU,Qq]at e2
   obtain⟨j,ej,eN⟩:=hc.at' k y e1;have e4:σ[j]?=some (some v):=by
    unfold iJ at e2;rw[OI,ej]at e2;have e2:(σ[j]?).join=some v:=by simpa using e2
    cases q:σ[j]? with
    |none=>rw[q]at e2;cases e2
    |some o=>rw[q]at e2;cases o with
     |none=>cases e2
     |some w=>cases e2;rfl
   have hm:=Pn e1;obtain⟨m,hn,hl⟩:=I.loc;have hout:=hc.out y hm;obtain⟨u,r,l⟩:=hl j y v eN e4 (.inr hout);refine⟨u,r,.inr ⟨pX (hc.tL y hm),?_⟩⟩;obtain⟨c,hcl2⟩:=hhas (y,.free) (Qd (hc.tL y hm)) rfl;refine⟨c,hcl2,?_⟩;rcases l with⟨l,_⟩|⟨_,c',e5,z⟩
   .rcases hout with h|h<;>(rw[h]at l;cases l)
   .have:=hcl y c hcl2;rw[e5]at this;cases this;obtain⟨o,ho,hd⟩:=z;exact⟨o,kp _ o ho,hd⟩
 cell:=λy c e=>by obtain⟨v,o,ho,hd⟩:=I.cell y c (hcl y c e);exact⟨v,o,kp _ o ho,hd⟩
 free:=I.aF.fresh hC
 fK:=λy c e=>I.fK y c (hcl y c e)
 pin:=λp hp=>absurd (show p∈([]:List (Addr×Obj))from hp) (by simp)
 aF:=I.aF.kept kp
 len:=by simp[aT,iJ,hc.len]
def xw(I:L2.Inv X aa σ H s)(hX:X'=aT X scope N cl C s H ex)(hC:s.heap.objs.size<=C)(hex:∀b∈ex,ia X aa H b/\b<s.heap.objs.size)
 (I':L2.Inv X' pl σ' H' s'):L2.Inv X aa σ H' s'/\ia X aa H' C:=by
 subst hX;refine⟨I.K6 (ch:=ex) I'.os I'.base I'.aF I'.bare λb hb=>?_,I.nM hC I'.free⟩;obtain⟨_,h2,h3,h4,h5,h6⟩:=(hex b hb).1;exact⟨h4,h2,h5,h6⟩
def vP(I:L2.Inv X aa σ H s)(hf:ia X aa H C)(sb:Heap.SameBut C s.heap h'):L2.Inv X aa σ H {s with heap:=h'}:=I.turned (t':=s.toks) (it:=C) (λb o hb e=>(sb.2 b hb).trans e) hf.1 hf.2.1 hf.2.2.2.1 hf.2.2.2.2.1 hf.2.2.2.2.2
end
section
def Jk(X:Cx)(ifs:List Expr)(tt:TT):Prop:=∀(aa:List (Addr×Obj))(s:Sz)(σ:St)(H:Hp)(Q:Bool->Hp->Prop),L2.Inv X aa σ H s->tt σ H Q->
 wpAny (model X.prog X.w) X.A (forIn ifs true λc r=>if r=true then do let ok <- isTrue c X.env (eval c X.env);pure (ForInStep.yield ok)else pure (ForInStep.yield r)) (TP X aa σ Q) X.xe s
def pY:Jk X [] (λ_ H Q=>Q true H):=λ_ _ σ H Q I q=>wpAny_tests_nil ⟨H,I,q⟩
def CH(h:PT X c tt):Jk X [c] tt:=λaa s σ H Q I q=>wpAny_tests_one (h aa s σ H Q I q)
def xy(hX:X'=aT X scope (tN++capN) cl C s3 H3 fp)(T:Turn X.prog X.w X.K tg J fp it tn)(hcalm:X.calm=true)
 (I4:L2.Inv X' [] (List.replicate tN.length none++σc) H3 s4) (bR:X'.N.length=tN.length+σc.length) (st4:tn 0 s4.heap) (hf:∀b∈fp,ia X' [] H3 b)
 (hg:PG X' tg gt) (ht:Jk X' ifs tt) (he:PE X' elt te)
   (W:Nat->Nat->List V->Hp->Prop) (Fin:List V->Hp->Prop) (w0:∃m,W 0 m [] H3)
   (turn:∀i m acc H,W i m acc H->H Dl=some (.lst acc)/\((J.stop i H/\Fin acc H)\/(J.go i H/\∀xv H' o,J.yx i H xv H'->o.length=tN.length->gt xv (o++σc) H' λσ2 H1=>(∀j:Nat,tN.length<=j->σ2[j]?=(o++σc)[j]?)/\tt σ2 H1 λb H2=>if b=true then
     te σ2 H2 λy H5=>H5 Dl=some (.lst acc)/\acc.length<sizeLine/\∃m',m'<m/\W (i+1) m' (acc++[y]) (upd H5 Dl (.lst (acc++[y])))else ∃m',m'<m/\W (i+1) m' acc H2)))
   (R:Result->Sz->Prop) (hR:∀σ' H' acc s',L2.Inv X' [] σ' H' s'->H' Dl=some (.lst acc)->Fin acc H'->R (.ok .next) s') :
   codeAny (model X.prog X.w) X.A (.compLoop (.ListComp elt [⟨tg,iter,ifs,0⟩] scope pos) 0 (.ref it) (.ref Dl) (compEnvC scope cl C X.env)) R s4:=by
  obtain⟨m0,w0⟩:=w0;have eA:X'.A=X.A:=by rw[hX];rfl
  have eP:X'.prog=X.prog:=by rw[hX];rfl
  have eW:X'.w=X.w:=by rw[hX];rfl
  have eK:X'.K=X.K:=by rw[hX];rfl
  have eE:X'.env=compEnvC scope cl C X.env:=by rw[hX];rfl
  have eX:X'.xe=λ_ _=>False:=by rw[hX];rfl
  have eC:X'.calm=true:=by rw[hX];exact hcalm
  have stat:∀{H':Hp},(∀b∈fp,H' b=none)->∀b∈fp,ia X' [] H' b:=λhn b hb=>⟨hn b hb,(hf b hb).2⟩;refine codeAny_loop rfl (λn s=>∃i o acc H,L2.Inv X' [] (o++σc) H s/\o.length=tN.length/\tn i s.heap/\(∀b∈fp,H b=none)/\W i n acc H) ?_ m0 ⟨0,List.replicate tN.length none,[],H3,I4,by simp,st4,λb hb=>(hf b hb).1,w0⟩;rintro n s5 ⟨i,o,acc,H5,I5,lo,st5,fr5,w5⟩;show wpAny _ X.A ((compTurn (.ListComp elt [⟨tg,iter,ifs,0⟩] scope pos) 0 (.ref it) (.ref Dl) (compEnvC scope cl C X.env)).onRaise (λx=>do noteFrame x (compEnvC scope cl C X.env);theTreesLotGoes x)) _ _ s5;refine wpAny_noted ?_;rw[compTurn_list];obtain⟨hD,alt⟩:=turn i n acc H5 w5;rcases alt with⟨stop,fin⟩|⟨go,step⟩
  .refine KE (wpAny_standAt (KE (Qc (eA▸T.done X' eP eW eK eC i [] s5 _ H5 _ I5 (stat fr5) st5 stop) (λr s6 ⟨hr,I6⟩=>?_) λ_ _ z=>z)));subst hr;exact Os (hR _ H5 acc s6 I6 hD fin)
  .refine KE (wpAny_standAt (KE (Qc (eA▸T.item X' eP eW eK eC i [] s5 _ H5 _ I5 (stat fr5) st5 go) (λr s6 ⟨u,hr,h6⟩=>?_) λ_ _ z=>z)));subst hr;refine KE (Qc h6 (λ_ s7 ⟨xv,H7,I7,r7,y7,st7,fr7⟩=>?_) λ_ _ z=>z);have I7':=I7.pinned (stat fr7) (T.obj _ _ st7);have hg':=hg _ s7 _ H7 xv u _ I7' r7 (step xv H7 o y7 lo);rw[eP,eW,eA,eE,eX]at hg';refine KE (Qc hg' (λ_ s8 ⟨σ8,H8,I8,shp,q8⟩=>?_) λ_ _ z=>z.elim);obtain⟨o2,lo2,eσ⟩ : ∃o2:St,o2.length=tN.length/\σ8=o2++σc:=by
    have l8:σ8.length=tN.length+σc.length:=I8.len.trans bR;refine⟨σ8.take tN.length,by rw[PQ];lia,?_⟩;have ed:σ8.drop tN.length=σc:=by
     apply QK
     intro j;rw[List.getElem?_drop,shp (tN.length+j) (by lia),Py (by lia),lo,Qq]
    rw[<- ed,Ql]
   subst eσ;have ht':=ht _ s8 _ H8 _ I8 q8;rw[eP,eW,eA,eE,eX]at ht';refine KE (Qc ht' (λok s9 ⟨H9,I9,q9⟩=>?_) λ_ _ z=>z.elim);have again:∀{s':Sz}{H':Hp},L2.Inv X' ([]++lC fp s7.heap) (o2++σc) H' s'->L2.Inv X' [] (o2++σc) H' s'/\tn (i+1) s'.heap/\∀b∈fp,H' b=none:=λ{s' H'} J'=>by refine⟨J'.jz,T.keep _ _ _ st7 λb hb ob e=>(J'.pin (b,ob) (ON _ (ON _ (fL hb e)))).1,λb hb=>?_⟩;obtain⟨ob,e,d⟩:=T.obj _ _ st7 b hb;exact(J'.pin (b,ob) (ON _ (ON _ (fL hb e)))).2.1
   cases ok with
   |false=>obtain⟨m',hm,w9⟩:=(show ∃m',m'<n/\W (i+1) m' acc H9 from by simpa using q9);obtain⟨a1,a2,a3⟩:=again I9;exact Os ⟨rfl,m',hm,i+1,o2,acc,H9,a1,lo2,a2,a3,w9⟩
   |true=>
    have q9:te (o2++σc) H9 λy H5=>H5 Dl=some (.lst acc)/\acc.length<sizeLine/\∃m',m'<n/\W (i+1) m' (acc++[y]) (upd H5 Dl (.lst (acc++[y]))):=by simpa using q9
    have he':=he _ s9 _ H9 _ I9 q9;rw[eP,eW,eA,eE,eX]at he';refine KE (KE (Qc he' (λv s10 ⟨y,H10,I10,ry,eD,hl,m',hm,w10⟩=>?_) λ_ _ z=>z.elim));have hm':=fq (X:=X') _ s10 _ H10 (.ref Dl) [y] (.ref Dl) [v] (λw H'=>w=.ba/\H'=upd H10 Dl (.lst (acc++[y]))) I10 rfl (.cons ry .nil) ⟨Dl,acc,y,rfl,rfl,eD,hl,rfl,rfl⟩;rw[eP,eW,eA,eX]at hm';refine KE (Qc hm' (λ_ s11 ⟨w,H11,I11,_,_,eH⟩=>?_) λ_ _ z=>z.elim);subst eH;obtain⟨a1,a2,a3⟩:=again I11;exact Os (Os ⟨rfl,m',hm,i+1,o2,acc++[y],_,a1,lo2,a2,a3,w10⟩)
end
structure cn(X:Cx) (scope:Scope) (tN:List Str) (capN:List Str) (caps:List Nat):Prop where
 kind:scope.kind=.function
 ER:∀y∈scope.names,y.2≠.cell
 names:∀y∈scope.names,y.2=.local->scope.names.lookup y.1=some .local
 own:∀x∈tN,scope.names.lookup x=some .local
 free:∀y∈scope.names,y.2=.free->X.env.kindOf y.1=some .cell\/X.env.kindOf y.1=some .free
 cap:KZ X scope capN caps
 nd:(tN++capN).Nodup
section
def dO(X:Cx)(scope:Scope)(tg:Expr)(tN:List Str)(capN:List Str)(caps:List Nat)(elt:Expr)(ifs:List Expr)(σ:St)(Fin:Addr->List V->Hp->Prop)(J:It)(H2:Hp):Prop:=
 ∀(Dl:Addr),H2 Dl=none->∀(cl:List (Str×Addr))(C:Addr)(s3:Sz)(fp:List Addr),∃(gt:TG)(tt:TT)(te:TE)(W:Nat->Nat->List V->Hp->Prop),
  PG (aT X scope (tN++capN) cl C s3 (upd H2 Dl (.lst [])) fp) tg gt/\Jk (aT X scope (tN++capN) cl C s3 (upd H2 Dl (.lst [])) fp) ifs tt/\PE (aT X scope (tN++capN) cl C s3 (upd H2 Dl (.lst [])) fp) elt te/\(∃m,W 0 m [] (upd H2 Dl (.lst [])))/\
  ∀i m acc H,W i m acc H->H Dl=some (.lst acc)/\((J.stop i H/\Fin Dl acc H)\/(J.go i H/\∀xv H' (o:St),J.yx i H xv H'->o.length=tN.length->gt xv (o++iJ σ caps) H' λσ2 H1=>(∀j:Nat,tN.length<=j->σ2[j]?=(o++iJ σ caps)[j]?)/\tt σ2 H1 λb H2=>if b=true then
   te σ2 H2 λy H5=>H5 Dl=some (.lst acc)/\acc.length<sizeLine/\∃m',m'<m/\W (i+1) m' (acc++[y]) (upd H5 Dl (.lst (acc++[y])))else ∃m',m'<m/\W (i+1) m' acc H2))
def oC{use:Option (SD->Sem Unit)}{Qv:SD->Sz->Prop}{Fin:Addr->List V->Hp->Prop}(hc:X.calm=true)(S:cn X scope tN capN caps)(I:L2.Inv X aa σ H s)(hi:PI X tg iter wi)
 (h:wi σ H (dO X scope tg tN capN caps elt ifs σ Fin))
 (hu:∀(Dl C:Addr)(acc:List V)(H':Hp)(s':Sz),L2.Inv X aa σ H' s'->ia X aa H' C->H' Dl=some (.lst acc)->Fin Dl acc H'->(∃m,s'.heap.Ns C m)->compPost (model X.prog X.w) X.A X.xe use Qv (.ref Dl) C (.ok .next) s')
 (hs:autoParam (∀x,foldedSetIterable iter X.env x=pure x) SM) :
 wX X (comprehension (.ListComp elt [⟨tg,iter,ifs,0⟩] scope pos) scope X.env (firstIterPos [⟨tg,iter,ifs,0⟩] pos) (newList []) false (eval iter X.env) use) Qv X.xe s:=by
 obtain⟨cl,ecl,hcl,hhas⟩:=nF (scope:=scope) (env:=X.env) λy hy hf=>I.ok.has y.1 (S.free y hy hf);refine wpAny_comprehension_free rfl hs ecl S.kind S.names (bQ (hi aa s σ H _ I h) λv s1 h1=>bQ h1 λitv s2 h2=>?_);obtain⟨it,fp,tn,J,H2,rfl,I2,T,st2,f2,goal⟩:=h2;refine Pe (wpAny_newFunctionEnv S.ER (by intro y hy;simp at hy) (λh₁ hns₁ hsb₁=>?_) S.kind);dsimp only at hns₁ hsb₁ ⊢;have hD:H2 s2.heap.objs.size=none:=I2.aF.fresh (Ou _);have I3:L2.Inv X aa σ (upd H2 s2.heap.objs.size (.lst [])) { s2 with heap:=s2.heap.push { cls:=.type "list",dict:=none,data:=.seq ([]:List SD).toArray } }:=I2.laid (t':=s2.toks) (λb u e=>Ot _ e) (Ou _) ⟨OR _,[],0,.nil,Oy _ rfl⟩;generalize hs3:({ s2 with heap:=s2.heap.push { cls:=.type "list",dict:=none,data:=.seq ([]:List SD).toArray } }:Sz)=s3 at I3;have e3:s2.heap.push { cls:=.type "list",dict:=none,data:=.seq ([]:List SD).toArray }=s3.heap:=by rw[<- hs3]
 rw[e3]at hns₁ hsb₁ ⊢;have kp:∀b o,s3.heap.get? b=some o->h₁.get? b=some o:=λb o e=>hsb₁.extBut b o (OJ (OA e)) (Ot _ e);have k23:∀b o,s2.heap.get? b=some o->s3.heap.get? b=some o:=λb o e=>by rw[<- e3];exact Ot _ e
 have hex:∀b∈fp,ia X aa (upd H2 s2.heap.objs.size (.lst [])) b/\b<s3.heap.objs.size:=λb hb=>by obtain⟨o,ho,_⟩:=T.obj 0 _ st2 b hb;have hlt:b<s2.heap.objs.size:=OA ho;refine⟨⟨?_,(f2 b hb).2⟩,OA (k23 b o ho)⟩;rw[ah (OJ hlt)];exact(f2 b hb).1
 have es:({s2 with heap:=h₁,toks:=s2.toks+([]:List (Str×SD)).length}:Sz)={s3 with heap:=h₁,toks:=s2.toks+([]:List (Str×SD)).length}:=by rw[<- hs3]
 have I4:L2.Inv (aT X scope (tN++capN) cl s3.heap.objs.size s3 (upd H2 s2.heap.objs.size (.lst [])) fp) [] (List.replicate tN.length none++iJ σ caps) (upd H2 s2.heap.objs.size (.lst [])) {s3 with heap:=h₁,toks:=s2.toks+([]:List (Str×SD)).length}:=zR I3 S.kind S.ER hcl hhas (Ou _) hex S.cap kp hns₁;obtain⟨gt,tt,te,W,hg,ht,he,w0,turn⟩:=goal s2.heap.objs.size hD cl s3.heap.objs.size s3 fp;have st4:tn 0 h₁:=T.keep 0 _ _ st2 λb hb o e=>kp b o (k23 b o e);have f4:∀b∈fp,ia (aT X scope (tN++capN) cl s3.heap.objs.size s3 (upd H2 s2.heap.objs.size (.lst [])) fp) [] (upd H2 s2.heap.objs.size (.lst [])) b:=λb hb=>by
  obtain⟨f,hlt⟩:=hex b hb;refine⟨f.1,OJ hlt,λhfs=>?_,.inl hb,λy c e=>f.2.2.2.2.1 y c (hcl y c e),λp hp=>absurd (show p∈([]:List (Addr×Obj))from hp) (by simp)⟩;rcases OE.mp (I3.qI b hfs)with z|z
  .exact f.2.1 z
  .exact f.2.2.1 z
 have loop:codeAny (model X.prog X.w) X.A (.compLoop (.ListComp elt [⟨tg,iter,ifs,0⟩] scope pos) 0 (.ref it) (.ref s2.heap.objs.size) (compEnvC scope cl s3.heap.objs.size X.env)) (compPost (model X.prog X.w) X.A X.xe use Qv (.ref s2.heap.objs.size) s3.heap.objs.size)
  {s3 with heap:=h₁,toks:=s2.toks+([]:List (Str×SD)).length}:=by
  refine xy rfl T hc I4 (by show(tN++capN).length=_;simp[iJ,S.cap.len]) st4 f4 hg ht he W (Fin s2.heap.objs.size) w0 turn _ λσ' H' acc s' I' hD' fin=>?_;obtain⟨Io,fo⟩:=xw I3 rfl (Ou _) hex I';obtain⟨m',hn',_⟩:=I'.loc;exact hu _ _ acc H' s' Io fo hD' fin ⟨m',hn'⟩
 rw[es];exact codeAny_compStart_list loop (T.self _ 0 _ _ _ st4 loop)
def rW(hc:X.calm=true)(S:cn X scope tN capN caps)(I:L2.Inv X aa σ H s)(hi:PI X tg iter wi)(h:wi σ H (dO X scope tg tN capN caps elt ifs σ λDl _ H'=>Q (.ref Dl) H'))
 (hs:autoParam (∀x,foldedSetIterable iter X.env x=pure x) SM):wX X (eval (.ListComp elt [⟨tg,iter,ifs,0⟩] scope pos) X.env) (EP X aa σ Q) X.xe s:=by
 rw[eval_ListComp];refine oC (use:=none) hc S I hi h (λDl C acc H' s' Io fo hD fin hn=>?_) hs;obtain⟨m,hn⟩:=hn;exact⟨m,hn,λh' sb=>⟨.ref Dl,H',vP Io fo sb,rfl,fin⟩⟩
def zS{D:Ends}{i:Nat}(hc:X.calm=true)(S:cn X scope tN capN caps)(hN:X.N.Nodup)(hi':X.N[i]?=some y)(hy:X.env.scope.names.lookup y=some .local)
 (hsw:swapsWith (.ListComp elt [⟨tg,iter,ifs,0⟩] scope pos) (some (.Name y py)) spos.line X.env=pure true) (I:L2.Inv X aa σ H s) (hi:PI X tg iter wi)
 (h:wi σ H (dO X scope tg tN capN caps elt ifs σ λDl _ H'=>D.nx (σ.set i (some (.ref Dl))) H')) (hs:autoParam (∀x,foldedSetIterable iter X.env x=pure x) SM) :
 wX X (exec (.Assign [.Name y py] (.ListComp elt [⟨tg,iter,ifs,0⟩] scope pos) spos) X.env) (SP X aa D) X.xe s:=by
 rw[exec_Assign_Name_used _ _ _ _ hsw];refine KE (wpAny_standAt (KE ?_));show wpAny _ X.A (do let _ <- comprehension (.ListComp elt [⟨tg,iter,ifs,0⟩] scope pos) scope X.env _ (newList []) false (eval iter X.env) (some (assign (.Name y py) X.env))) _ _ s;refine KE (Qc (oC (use:=some (assign (.Name y py) X.env)) (Qv:=λ_ s'=>SP X aa D .next s') hc S I hi h (λDl C acc H' s' Io fo hD fin hn=>?_) hs) (λ_ s' hq=>Os (Os hq)) λ_ _ e=>e);obtain⟨m,hn⟩:=hn;show wpAny _ X.A (assign (.Name y py) X.env (.ref Dl)) _ _ _;refine wpAny_assign_Name (nQ (v:=.ref Dl) Io hN hi' (.inl hy) rfl (λs'' I'' ⟨a,sb,ha⟩=>?_) (.inr hy));have nca:C≠a:=by
  rcases ha with z|z
  .rw[z];exact fo.2.1
  .exact PV (fo.2.2.2.2.1 y a z)
 refine⟨m,hn.sameBut sb nca,λh' sb'=>?_⟩;exact⟨_,H',vP I'' fo sb',fin⟩
end
noncomputable def Res.NE{α:Type}:Res α->Res α
 |.exc _=>.stuck
 |r=>r
def CJ(env:En)(j:Nat):Option Sl:=match env[j]? with
 |some (some (.val d fr))=>some (.val d fr)
 |some (some (.own ds fr))=>some (.val (.lst ds) fr)
 |some (some (.oY d))=>some (.val d true)
 |_=>none
def gF(env:En)(n:Nat)(caps:List Nat):En:=List.replicate n none++caps.map (CJ env)
def dP(mk:D->Option En)(test:En->Res Bool)(elt:En->Res R):List D->Res (List R)
 |[]=>.ok []
 |x::xs=>match mk x with
  |none=>.stuck
  |some e=>(test e).bind λb=>if b then(elt e).bind λr=>(dP mk test elt xs).bind λrs=>.ok (r::rs)else dP mk test elt xs
def gG(n:Nat)(caps:List Nat)(src:En->Res Src)(asg:D->Bool->En->Option En)(test:En->Res Bool)(elt:En->Res R):En->Res R:=λenv=>(src env).bind λs=>if s.xs.length<=lim then
 (dP (λd=>asg d s.fr (gF env n caps)) test elt s.xs).NE.bind λrs=>.ok (kC (rs.map R.d) (bc rs) (s.al++caps.filter (eh env)))else .stuck
def xA(X:Cx)(E:XK)(ifs:List Expr)(f:En->Res Bool):Prop:=∃t,Jk X ifs t/\SndT X.mg E t f
section
def mh:xA X E [] (λ_=>.ok true):=⟨_,pY,λg M ρ env σ H Q rep p=>p M H (Ext.refl _ _) rep⟩
def zT(h:zE X E c f):xA X E [c] f:=let ⟨t,a,b⟩:=h;⟨t,CH a,b⟩
end
section
variable{M1:Addr->Prop}
def Jl(rep:Rep g M1 ρ env σ H1)(s:Same H1 H)(ho:o.length=n)(hM:∀a,(M1 a\/∃i,i∈caps/\ρ i a)->M' a)(hf:∀a,M' a->H a≠none)(hi:∀a,M' a->g.H₀ a=none\/g.Ma a)(hfl:∀a,M' a->g.H₀ a=none->MuZ g H a) :
 Rep g M' (λ_ _=>False) (gF env n caps) (o++iJ σ caps) H where
 same:=rep.same.trans s
 ic:=hf
 tL:=hi
 fl:=hfl
 slot:=λi sl e=>by
  by_cases hlt:i<n
  .unfold gF at e;rw[Qi (by simpa using hlt),RC,Ow hlt]at e;cases e
  .obtain⟨k,rfl⟩ : ∃k,i=n+k:=⟨i-n,by lia⟩;have e:(caps.map (CJ env))[k]?=some (some sl):=by
    unfold gF at e
    rwa [Py (by simp),RU,Qq]at e
   rw[OI]at e;cases q:caps[k]? with
   |none=>rw[q]at e;cases e
   |some j=>
    rw[q]at e;have e:CJ env j=some sl:=by simpa using e
    have hj:j∈caps:=Pn q;unfold CJ at e;cases q2:env[j]? with
    |none=>rw[q2]at e;cases e
    |some o=>
     cases o with
     |none=>rw[q2]at e;cases e
     |some sl0=>
      obtain⟨v,ev,k2⟩:=rep.slot j sl0 q2;have el:(o++iJ σ caps)[n+k]?=some (some v):=by rw[Py (by lia),ho,Qq];unfold iJ;rw[OI,q];simp[ev]
      rw[q2]at e;cases sl0 with
      |val d' fr'=>cases e;exact⟨v,el,Is.mono (λa o q _=>s a o q) (λa _ _ z=>⟨hM a (.inl z.1),z.2⟩) k2⟩
      |own ds' fr'=>cases e;obtain⟨a,vs,rfl,h1,h2,h4⟩:=k2;have ha:=(h2 a).mpr rfl;exact⟨_,el,a,vs,rfl,.inl ⟨s _ _ h1,hM a (.inr ⟨j,hj,ha⟩),λ_=>(rep.bO j a ha).2.1⟩,IsAll.mono (λa o q _=>s a o q) (λa _ _ z=>⟨hM a (.inl z.1),z.2⟩) h4⟩
      |oY d'=>cases e;exact⟨v,el,Is.mono (λa o q _=>s a o q) (λa _ _ z=>⟨hM a (.inr ⟨j,hj,z⟩),λ_=>(rep.bO j a z).2.1⟩) k2⟩
      |Bz d'=>cases e
 bO:=λ_ _ z=>z.elim
 apart:=λ_ _ _ z=>z.elim
 ow:=λ_ _ z=>z.elim
 len:=by simp[gF,iJ,ho]
 zz:=λa z e=>rep.zz a z (s.free e)
end
noncomputable def kh(X:Cx)(scope:Scope)(tg:Expr)(tN:List Str)(capN:List Str)(caps:List Nat)(elt:Expr)(ifs:List Expr)(wi:TI):TE:=λσ H Q=>wi σ H (dO X scope tg tN capN caps elt ifs σ λDl _ H'=>Q (.ref Dl) H')
structure CI(g:Gd) (M:Addr->Prop) (H1:Hp) (Dl:Addr) (C:Nat->List R->Prop) (full:List R) (i:Nat) (acc:List V) (H:Hp) (M':Addr->Prop) (rs rest:List R):Prop where
 sm:Same H1 H
 hD:H Dl=some (.lst acc)
 mi:∀a,M a->M' a
 mo:∀a,M' a->M a\/H1 a=none
 nD:¬M' Dl
 fz:∀a,M' a->H a≠none
 fl:∀a,M' a->g.H₀ a=none->MuZ g H a
 rl:rs.length<=i
 is:IsAll H (d4 g M' (bc rs)) (rs.map R.d) acc
 qr:C i rest
 ef:full=rs++rest
section
def xB{M1:Addr->Prop}{H1:Hp}{Q:VK}{J:It}{s:Src}{full:List R}(hix:∀j∈ix,j<tN.length)(hg:∀cl C s3 H3 fp,Il (aT X scope (tN++capN) cl C s3 H3 fp) ix tg asg)(ht:∀cl C s3 H3 fp,xA (aT X scope (tN++capN) cl C s3 H3 fp) E0 ifs ft)(he:∀cl C s3 H3 fp,PD (aT X scope (tN++capN) cl C s3 H3 fp) E0 elt fe)(rep1:Rep g M1 ρ env σ H1)(wk:Walk J (vmsk g M1 s.fr ρ s.al) H1 s.xs)(hlim:s.xs.length<=lim)(qc:dP (λd=>asg d s.fr (gF env tN.length caps)) ft fe s.xs=.ok full)
 (p:PostE X.mg E g M1 ρ env σ H1 Q (.ok (kC (full.map R.d) (bc full) (s.al++caps.filter (eh env))))):dO X scope tg tN capN caps elt ifs σ (λDl _ H'=>Q (.ref Dl) H') J H1:=by
 intro Dl hDl cl C s3 fp;obtain⟨gt,pg,sg⟩:=hg cl C s3 (upd H1 Dl (.lst [])) fp;obtain⟨tt,pt,st⟩:=ht cl C s3 (upd H1 Dl (.lst [])) fp;obtain⟨te,pe,se⟩:=he cl C s3 (upd H1 Dl (.lst [])) fp;obtain⟨d0,dm,dow⟩:=rep1.free hDl;refine⟨gt,tt,te,λi m acc H=>m=s.xs.length-i/\i<=s.xs.length/\∃(M':Addr->Prop)(rs rest:List R),CI g (λa=>M1 a\/∃j,j∈s.al++caps/\ρ j a) H1 Dl (λi rest=>dP (λd=>asg d s.fr (gF env tN.length caps)) ft fe (s.xs.drop i)=.ok rest) full i acc H M' rs rest,
  pg,pt,pe,⟨_,rfl,OR _,(λa=>M1 a\/∃j,j∈s.al++caps/\ρ j a),[],full,ai hDl,ac,λ_ z=>z,λ_ z=>.inl z,?_,?_,?_,Ou _,rfl,qc,rfl⟩,?_⟩
 .rintro (z|⟨j,_,z⟩)
  .exact dm z
  .exact dow j z
 .rintro a (z|⟨j,_,z⟩) hn
  .exact rep1.ic a z ((ai hDl).free hn)
  .obtain⟨_,_,uo,hz,_⟩:=rep1.bO j a z;rw[(ai hDl) a _ hz]at hn;cases hn
 .rintro a (z|⟨j,_,z⟩) h0
  .exact(rep1.fl a z h0).same λo e=>ai hDl _ _ e
  .exact .inl ((rep1.bO j a z).2.2.same λo e=>ai hDl _ _ e)
 .rintro i m acc H2 ⟨rfl,hle,M',rs,rest,sm,hD2,hMi,hMo,nD,frz2,fl2,hrs,isA,qr,efull⟩;refine⟨hD2,?_⟩;have kp:∀a o,H1 a=some o->(vmsk g M1 s.fr ρ s.al a\/gB o)->H2 a=some o:=λa o e _=>sm a o e;have inn2:∀{M'':Addr->Prop}{a:Addr},(M1 a\/∃j,j∈s.al++caps/\ρ j a)\/H1 a=none->g.H₀ a=none\/g.Ma a:=λ{M'' a} z=>by
   rcases z with(z|⟨j,_,z⟩)|z
   .exact rep1.tL a z
   .exact .inl (rep1.bO j _ z).2.1
   .exact .inl (rep1.same.free z)
  by_cases hlt:i<s.xs.length
  .have ed:s.xs[i]?=some s.xs[i]:=by simp[hlt]
   obtain⟨go,yl⟩:=wk.go H2 i _ kp ed;refine .inr ⟨go,λxv H3 o y lo=>?_⟩;obtain⟨s23,isx⟩:=yl xv H3 y;have edrop:s.xs.drop i=s.xs[i]::s.xs.drop (i+1):=Qg hlt;rw[edrop]at qr;unfold dP at qr;have isx':Is H3 (d4 g M' s.fr) s.xs[i] xv:=isx.weak λa z=>by
    rcases z with z|⟨j,hj,z⟩
    .exact⟨hMi a (.inl z.1),z.2⟩
    .exact⟨hMi a (.inr ⟨j,by simp[hj],z⟩),λ_=>(rep1.bO j _ z).2.1⟩
   have repI:Rep g M' (λ_ _=>False) (gF env tN.length caps) (o++iJ σ caps) H3:=Jl rep1 (sm.trans s23) lo (λa z=>hMi a (z.imp id λ⟨j,hj,w⟩=>⟨j,by simp[hj],w⟩)) (λa z hn=>frz2 a z (s23.free hn)) (λa z=>inn2 (M'':=M') (hMo a z)) (λa z h0=>(fl2 a z h0).same λo e=>s23 _ _ e);cases qa:asg s.xs[i] s.fr (gF env tN.length caps)with
   |none=>simp only[qa]at qr;cases qr
   |some envT=>
   simp only[qa]at qr;refine sg g M' _ _ envT _ H3 _ s.fr xv _ repI isx' qa λσ2 ρ2 repT shp nρ=>⟨λj hj=>shp j λz=>absurd (hix j z) (by lia),?_⟩;refine st g M' ρ2 _ _ H3 _ repT ?_;cases qt:ft envT with
   |stuck=>rw[qt]at qr;cases qr
   |exc c=>rw[qt]at qr;cases qr
   |ok b=>
    rw[qt]at qr;intro M4 H4 e4 rep4;cases b with
    |false=>refine wZ ⟨s.xs.length-(i+1),by lia,rfl,hlt,M',rs,rest,(sm.trans s23).trans e4.h,e4.h _ _ (s23 _ _ hD2),hMi,hMo,nD,λa z hn=>frz2 a z (s23.free (e4.h.free hn)),λa z h0=>(fl2 a z h0).same λo e=>e4.h _ _ (s23 _ _ e),by lia,?_,by simpa using qr,efull⟩;exact IsAll.same e4.h (IsAll.same s23 isA)
    |true=>
     refine qY ?_;simp only[Res.eS,Qy]at qr;refine se g M4 ρ2 _ _ H4 _ rep4 ?_;cases qe:fe envT with
     |stuck=>rw[qe]at qr;cases qr
     |exc c=>rw[qe]at qr;cases qr
     |ok r=>
      rw[qe]at qr;simp only[Res.eS]at qr;cases qd:dP (λd=>asg d s.fr (gF env tN.length caps)) ft fe (s.xs.drop (i+1))with
      |stuck=>rw[qd]at qr;cases qr
      |exc c=>rw[qd]at qr;cases qr
      |ok rest'=>
       rw[qd]at qr;have qr:r::rest'=rest:=by simpa using qr
       intro yv M5 H5 e5 rep5 ro;obtain⟨M6,e6,m56,rep6,is6⟩:=ro.is rep5 e5 rep4.same;have D3:H3 Dl=some (.lst acc):=s23 _ _ hD2;have D4:H4 Dl=some (.lst acc):=e4.h _ _ D3;have D5:H5 Dl=some (.lst acc):=e5.h _ _ D4;have nD4:¬M4 Dl:=λz=>(e4.n Dl z).elim nD λw=>by rw[D3]at w;cases w
       have nD6:¬M6 Dl:=λz=>(e6.n Dl z).elim nD4 λw=>by rw[D4]at w;cases w
       have M46:∀a,M4 a->M6 a:=e6.m;have up:∀a o,H5 a=some o->a≠Dl->upd H5 Dl (.lst (acc++[yv])) a=some o:=λa o e n=>by rw[ah n];exact e
       have kp5:∀(fr:Bool) a o,H5 a=some o->(d4 g M6 fr a\/gB o)->upd H5 Dl (.lst (acc++[yv])) a=some o:=λfr a o e z=>up a o e λw=>by
        subst w;rcases z with z|z
        .exact nD6 z.1
        .rw[D5]at e;cases e;exact z
       refine⟨D5,?_,s.xs.length-(i+1),by lia,rfl,hlt,M6,rs++[r],rest',?_,ac,λa z=>M46 a (e4.m a (hMi a z)),λa z=>?_,nD6,λa z=>?_,λa z h0=>?_,by simp;lia,?_,qd,by rw[efull,<- qr];simp⟩
       .have:acc.length=rs.length:=by rw[isA.length,Ov]
        exact zF (by lia)
       .intro b o e;exact up b o (e5.h _ _ (e4.h _ _ (s23 _ _ (sm _ _ e)))) (ak e hDl)
       .rcases e6.n a z with z|z
        .rcases e4.n a z with z|z
         .exact hMo a z
         .exact .inr (sm.free (s23.free z))
        .exact .inr (sm.free (s23.free (e4.h.free z)))
       .by_cases hw:a=Dl
        .rw[hw,ac];simp
        .rw[ah hw];exact rep6.ic a z
       .have hw:a≠Dl:=λe=>nD6 (e▸z);exact(rep6.fl a z h0).same λo e=>by rw[ah hw];exact e
       .rw[O8];refine IsAll.append ?_ ⟨yv,[],rfl,?_,rfl⟩
        .have i5:IsAll H5 (d4 g M' (bc rs)) (rs.map R.d) acc:=((isA.same s23).same e4.h).same e5.h;refine(i5.weak λa z=>(⟨M46 a (e4.m a z.1),λe=>z.2 (by simp[bc]at e ⊢;exact e.1)⟩ : d4 g M6 (bc (rs++[r])) a)).mono (kp5 _) λ_ _ _ z=>z
        .refine(is6.weak λa z=>?_:Is H5 (d4 g M6 (bc (rs++[r]))) r.d yv).mono (kp5 _) λ_ _ _ z=>z;rcases z with z|⟨j,_,z⟩
         .exact⟨z.1,λe=>z.2 (by simp[bc]at e;exact e.2)⟩
         .exact(nρ _ _ z).elim
  .have ei:i=s.xs.length:=by lia
   subst ei;refine .inl ⟨wk.stop H2 kp,?_⟩;rw[List.drop_length]at qr;unfold dP at qr;cases qr;rw[Qj]at efull;subst efull;have RM:Rep g (λa=>M1 a\/(nl H1 H2 a/\M' a)) ρ env σ H2:=rep1.came sm M';have XM:Ext M1 H1 (λa=>M1 a\/(nl H1 H2 a/\M' a)) H2:=⟨λ_=>.inl,sm,λ_ z=>z.imp id (·.1.1)⟩;have nDl:¬(M1 Dl\/(nl H1 H2 Dl/\M' Dl)):=λz=>z.elim dm λz=>nD z.2;have nwD:∀b,V.ref Dl=.ref b->H1 b=none:=λb e=>by cases e;exact hDl
   unfold kC at p;by_cases hfl:D.aY (full.map R.d)=true
   .rw[Ow hfl]at p;exact p _ _ H2 XM RM ⟨Dl,acc,rfl,hD2,nDl,hDl,dow,IsAll.flat hfl isA⟩
   .rw[Ox hfl]at p;by_cases hal:(s.al++caps.filter (eh env)).isEmpty=true
    .rw[Ow hal]at p;refine p _ _ H2 XM RM ⟨Dl,acc,rfl,hD2,nDl,hDl,dow,isA.weak λa z=>⟨?_,z.2⟩⟩;rcases hMo a z.1 with(w|⟨j,hj,w⟩)|w
     .exact .inl w
     .exfalso;have he:s.al++caps.filter (eh env)=[]:=by simpa using hal
      rcases OF.mp hj with hj|hj
      .have:j∈s.al++caps.filter (eh env):=OX _ hj;rw[he]at this;simp at this
      .have:j∈s.al++caps.filter (eh env):=ON _ (QX.mpr ⟨hj,rep1.ow j a w⟩);rw[he]at this;simp at this
     .exact .inr ⟨⟨w,(fl2 a z.1 (rep1.same.free w)).elim id λq=>(rep1.zz a q.1 w).elim⟩,z.1⟩
    .rw[Ox hal]at p;refine p _ (λa=>(M1 a\/(nl H1 H2 a/\M' a))\/a=Dl) H2 ⟨λ_ z=>.inl (.inl z),sm,λa z=>z.elim (XM.n a) λe=>.inr (e▸hDl)⟩ (RM.more hD2 d0 dow) ⟨Dl,acc,rfl,.inl ⟨hD2,.inl ⟨.inr rfl,λ_=>d0⟩⟩,isA.weak λa z=>?_⟩;rcases hMo a z.1 with(w|⟨j,hj,w⟩)|w
     .exact .inl ⟨.inl (.inl w),z.2⟩
     .refine .inr ⟨j,?_,w⟩;rcases OF.mp hj with hj|hj
      .exact OX _ hj
      .exact ON _ (QX.mpr ⟨hj,rep1.ow j a w⟩)
     .exact .inl ⟨.inl (.inr ⟨⟨w,(fl2 a z.1 (rep1.same.free w)).elim id λq=>(rep1.zz a q.1 w).elim⟩,z.1⟩),z.2⟩
def rX(si:Jh X.mg E wi src)(hix:∀j∈ix,j<tN.length)(hg:∀cl C s3 H3 fp,Il (aT X scope (tN++capN) cl C s3 H3 fp) ix tg asg)(ht:∀cl C s3 H3 fp,xA (aT X scope (tN++capN) cl C s3 H3 fp) E0 ifs ft)(he:∀cl C s3 H3 fp,PD (aT X scope (tN++capN) cl C s3 H3 fp) E0 elt fe) :
 Snd X.mg E (kh X scope tg tN capN caps elt ifs wi) (gG tN.length caps src asg ft fe):=by
 intro g M ρ env σ H Q rep p;refine si g M ρ env σ H _ rep ?_;unfold gG at p;cases q:src env with
 |stuck=>rw[q]at p;exact p
 |exc c=>rw[q]at p;exact p
 |ok s=>
  rw[q]at p;simp only[Res.eS]at p;intro J M1 H1 e1 rep1 wk Dl hDl cl C s3 fp;by_cases hlim:s.xs.length<=lim
  .rw[Ow hlim]at p;cases qc:dP (λd=>asg d s.fr (gF env tN.length caps)) ft fe s.xs with
   |stuck=>rw[qc]at p;exact p.elim
   |exc c=>rw[qc]at p;exact p.elim
   |ok full=>rw[qc]at p;have p:PostE X.mg E g M1 ρ env σ H1 Q (.ok (kC (full.map R.d) (bc full) (s.al++caps.filter (eh env)))):=PostE.ext e1 p;exact xB hix hg ht he rep1 wk hlim qc p Dl hDl cl C s3 fp
  .rw[Ox hlim]at p;exact p.elim
def vQ(hc:X.calm=true)(S:cn X scope tN capN caps)(hi:Ji X E tg iter src)(hix:∀j∈ix,j<tN.length)(hg:∀cl C s3 H3 fp,Il (aT X scope (tN++capN) cl C s3 H3 fp) ix tg asg)(ht:∀cl C s3 H3 fp,xA (aT X scope (tN++capN) cl C s3 H3 fp) E0 ifs ft)(he:∀cl C s3 H3 fp,PD (aT X scope (tN++capN) cl C s3 H3 fp) E0 elt fe)
 (hs:autoParam (∀x,foldedSetIterable iter X.env x=pure x) SM):PD X E (.ListComp elt [⟨tg,iter,ifs,0⟩] scope pos) (gG tN.length caps src asg ft fe):=by
 obtain⟨wi,p1,s1⟩:=hi;exact⟨kh X scope tg tN capN caps elt ifs wi,λaa s σ H Q I h=>rW hc S I p1 h hs,rX s1 hix hg ht he⟩
def rY(hc:X.calm=true)(S:cn X scope tN capN caps)(hN:X.N.Nodup)(hi':X.N[i]?=some y)(hy:X.env.scope.names.lookup y=some .local)
 (hi:Ji X E tg iter src) (hix:∀j∈ix,j<tN.length) (hg:∀cl C s3 H3 fp,Il (aT X scope (tN++capN) cl C s3 H3 fp) ix tg asg) (ht:∀cl C s3 H3 fp,xA (aT X scope (tN++capN) cl C s3 H3 fp) E0 ifs ft) (he:∀cl C s3 H3 fp,PD (aT X scope (tN++capN) cl C s3 H3 fp) E0 elt fe)
 (hsw:autoParam (swapsWith (.ListComp elt [⟨tg,iter,ifs,0⟩] scope pos) (some (.Name y py)) spos.line X.env=pure true) SN) (hs:autoParam (∀x,foldedSetIterable iter X.env x=pure x) SM) :
 Bt X E (.Assign [.Name y py] (.ListComp elt [⟨tg,iter,ifs,0⟩] scope pos) spos) (bt i (gG tN.length caps src asg ft fe)):=by
 obtain⟨wi,p1,s1⟩:=hi;exact⟨tAsg (kh X scope tg tN capN caps elt ifs wi) (gName i),λaa s σ H D I h=>zS hc S hN hi' hy hsw I p1 h hs,vO (rX s1 hix hg ht he)⟩
end
def gH(N:List Str)(ds:List D):En:=ds.map (λd=>some (.val d false))++List.replicate (N.length-ds.length) none
def oE:Res Fl->Res R
 |.ok (.nx _)=>.ok (.val .ba true [])
 |.ok (.rt r)=>.ok r
 |.ok _=>.stuck
 |.exc c=>.exc c
 |.stuck=>.stuck
def kG(N:List Str)(FB:En->Res Fl)(ds:List D):Res R:=oE (FB (gH N ds))
def fE:eY iT X E:=λ_ _ _ _ _ _ _ h=>h.elim
def xC(is:IsAll H Ma ds vs):Rep (Ja H Ma) (λa=>Ma a/\H a≠none) (λ_ _=>False) (gH N ds) (L2.start N vs) H where
 same:=Same.refl H
 ic:=λa z=>z.2
 tL:=λa z=>.inr z.1
 fl:=λa z h=>absurd h z.2
 slot:=λi sl e=>by
  have hl:=is.length;unfold gH at e;by_cases hi:i<ds.length
  .rw[Qi (by simpa using hi),OI]at e;obtain⟨v,ev,iv⟩:=is.get (i:=i) (d:=ds[i]) (by simp[hi]);have e1:ds[i]?=some ds[i]:=by simp[hi]
   rw[e1]at e;cases e;refine⟨v,?_,Is.mono (λ_ _ q _=>q) (λa o q z=>⟨⟨z,by rw[q];simp⟩,λz=>by cases z⟩) iv⟩;unfold L2.start;rw[Qi (by simp;lia),OI,ev];rfl
  .rw[Py (by simpa using hi),RC]at e;split at e<;>cases e
 bO:=λ_ _ z=>z.elim
 apart:=λ_ _ _ z=>z.elim
 ow:=λ_ _ z=>z.elim
 len:=by have hl:=is.length;unfold gH L2.start;simp[hl]
 zz:=λ_ z=>z.elim
section
variable{P:SC}{w:World}{K:SB}{mg:Str->Option SD}{base:Heap}
def ki{x qual:Str}{st:Stmt}{f:Addr}{FB:En->Res Fl}(F:Bw K x qual st f fd)(S:aN N ps (aw st))
 (body:∀(cdv:SD)(A:SE)(outer:List Env)(s:Sz)(H:Hp)(E:XK),cI k (A.deeper (envOfC qual (aw st) s.heap.objs.size f cdv))->rU (tZ iT P w K mg base N qual (aw st) f cdv A outer s H E).K1 E (bX st) FB) :
 bu P w K mg base iT (k+1) f fd ps (m_ mg ps.length (kG N FB)):=by
 refine F.ok S (λvs H Q E h=>h.1) (λcdv A outer s H vs Q E hr h=>?_);obtain⟨hl,ds,Ma,is,post⟩:=h;obtain⟨t,p1,s1⟩:=body cdv A outer s H E hr;refine⟨t,p1,s1 (Ja H Ma) _ _ (gH N ds) (L2.start N vs) H _ (xC is) ?_⟩;unfold kG at post;cases q:FB (gH N ds)with
 |stuck=>rw[q]at post;exact post
 |exc c=>rw[q]at post;exact post
 |ok r=>
  rw[q]at post;cases r with
  |nx env=>exact λσ M' ρ' H' _ rep=>post .ba H' rep.same rfl
  |rt r=>exact λv M' H' _ s ro _=>post v H' s (ro λ_ z=>z)
  |rm r env=>exact post.elim
  |bk env=>exact post.elim
  |ct env=>exact post.elim
end
section
def CL:SlR X (λx lo hi H Q=>∃a xs,x=.ref a/\SqT X.K H a xs/\(HT.sIx xs.length 0 lo=0/\HT.sIx xs.length xs.length hi=xs.length)/\Q x H):=by
 intro aa s σ H x v vl vu lo hi sl Q I rx hs pl pu h;obtain⟨a,xs,rfl,hx,hw,q⟩:=h;cases rx;obtain⟨its,r,ht,hz⟩:=I.tuple hx;have bR:its.toArray.size=xs.length:=by rw[Oz];exact r.length.symm
 refine⟨"tuple",_,Pu.lookup,ht.typeIs,?_⟩;obtain⟨os,hos,hcs,hds⟩:=id hs;have hTs:s.TypeIs (.ref sl) "slice":=⟨os,hos,hcs⟩;unfold getItem
 try with_reducible refine Pd ?_
 first|refine KE (Os ?_)|skip
 refine KE (wpAny_sequenceKey ht.typeIs (by decide) ?_);refine KE (PB (name:=Str.ofString "__getitem__") ht.typeIs Pu
  (O_ Pu ht.typeIs entry_tuple_getitem ?_ (args_tuple_getitem _ _)))
 show wpAny _ _ (Builtin.Tuple.tupleItemsOf (.ref a) >>= _) _ _ s;refine KE (tupleItemsOf_ ht ?_);refine KE (QA hTs ?_);rw[Ow (by decide)];refine KE (HT.sliceApplied_gen hs pl pu ?_);have hyes:((((HT.sIx its.toArray.size 0 lo:Nat):Int)==0&&(1:Int)==1&&(HT.sIx its.toArray.size its.toArray.size hi-HT.sIx its.toArray.size 0 lo)==its.toArray.size)=true):=by rw[bR,hw.1,hw.2];simp
 show wpAny _ _ (if(((HT.sIx its.toArray.size 0 lo:Nat):Int)==0&&(1:Int)==1&&(HT.sIx its.toArray.size its.toArray.size hi-HT.sIx its.toArray.size 0 lo)==its.toArray.size)=true then _ else _) _ _ s;rw[Ow hyes];have fin:EP X aa σ Q (.ref a) s:=⟨.ref a,H,I,rfl,q⟩;refine KE (m:=Builtin.Tuple.tupleIsExact (.ref a)) ?_;unfold Builtin.Tuple.tupleIsExact;refine KE (QA ht.typeIs ?_);refine Os ?_;rw[Ow (by decide)];exact KE (Rn (Os ⟨_,rfl,Os fin⟩))
end
section
def cA{α:Type}(xs:List α)(lo hi:Option Int):List α:=(xs.drop (HT.sIx xs.length 0 lo)).take (HT.sIx xs.length xs.length hi-HT.sIx xs.length 0 lo)
def IsAll.cut(h:IsAll H m ds vs)(lo hi:Option Int):IsAll H m (cA ds lo hi) (qV vs lo hi):=by unfold cA qV;rw[h.length];exact(h.drop _).take _
noncomputable def Eu(mg:Str->Option SD)(E:XK)(g:Gd)(M:Addr->Prop)(ρ:Pr)(env:En)(σ:St)(H:Hp)(Q:Option Int->Hp->Prop):Res (Option Int)->Prop
 |.stuck=>False
 |.exc c=>CA mg E g c
 |.ok o=>∀M' H',Ext M H M' H'->Rep g M' ρ env σ H'->Q o H'
def Lj(X:Cx)(E:XK)(e:Option Expr)(f:En->Res (Option Int)):Prop:=∃t,PO X e t/\∀g M ρ env σ H Q,Rep g M ρ env σ H->Eu X.mg E g M ρ env σ H Q (f env)->t σ H Q
noncomputable def rZ:En->Res (Option Int):=λ_=>.ok none
def fF(f:En->Res R):En->Res (Option Int):=λenv=>(f env).bind λr=>match r.d with
 |.int i=>.ok (some i)
 |_=>.stuck
def r_:Lj X E none rZ:=⟨_,BX,λg M ρ env σ H Q rep p=>p M H (Ext.refl _ _) rep⟩
def fG(h:PD X E e f):Lj X E (some e) (fF f):=by
 obtain⟨t,p1,s1⟩:=h;refine⟨_,BY p1,λg M ρ env σ H Q rep p=>s1.one rep (P:=λM H r=>Eu X.mg E g M ρ env σ H Q r) p (λ_ _ z=>z) (λ_ _ _ z=>z) (λM H M' H' r e p=>?_) λr v M1 H1 e1 rep1 is q=>?_⟩
 .cases r with
  |stuck=>exact p
  |exc c=>exact p
  |ok o=>exact λM2 H2 e2=>p M2 H2 (e.trans e2)
 .cases z:r.d with
  |int i=>rw[z]at is;simp only[z]at q;cases is;exact⟨i,rfl,q M1 H1 (Ext.refl _ _) rep1⟩
  |_=>simp only[z]at q;exact q.elim
def pZ(r:R)(lo hi:Option Int):Res R:=match r.d with
 |.lst xs=>.ok (kC (cA xs lo hi) r.fr r.al)
 |.tup xs=>.ok (jK (.tup (cA xs lo hi)) r.fr r.al)
 |_=>.stuck
def fW(fa:En->Res R)(fl fh:En->Res (Option Int)):En->Res R:=λenv=>(fa env).bind λr=>(fl env).bind λlo=>(fh env).bind λhi=>pZ r lo hi
def jd{lo hi:Option Expr}{fa:En->Res R}{fl fh:En->Res (Option Int)}{p2 pos:Pos}(ha:PD X E e fa)(hl:Lj X E lo fl)(hh:Lj X E hi fh):PD X E (.Subscript e (.Slice lo hi none p2) pos) (fW fa fl fh):=by
 obtain⟨ta,p1,s1⟩:=ha;obtain⟨tl,p2,s2⟩:=hl;obtain⟨th,p3,s3⟩:=hh;refine⟨_,yI (sl_list.or (sl_tup.or CL)) p1 p2 p3,λg M ρ env σ H Q rep p=>s1.jA rep p λr v M1 H1 e1 rep1 is q=>?_⟩;refine s2 g M1 ρ env σ H1 _ rep1 ?_;cases z1:fl env with
 |stuck=>rw[z1]at q;exact q
 |exc c=>rw[z1]at q;exact q
 |ok lo'=>
  rw[z1]at q;intro M2 H2 e2 rep2;have q2:PostE X.mg E g M2 ρ env σ H2 Q ((fh env).bind λhi=>pZ r lo' hi):=PostE.ext e2 q;refine s3 g M2 ρ env σ H2 _ rep2 ?_;cases z2:fh env with
  |stuck=>rw[z2]at q2;exact q2
  |exc c=>rw[z2]at q2;exact q2
  |ok hi'=>
   rw[z2]at q2;intro M3 H3 e3 rep3;have q3:PostE X.mg E g M3 ρ env σ H3 Q (pZ r lo' hi'):=PostE.ext e3 q2;have is3:=(is.ext e2).ext e3;unfold pZ at q3;cases z:r.d with
   |lst xs=>rw[z]at q3 is3;obtain⟨a,vs,rfl,h1,h2⟩:=is3.rd;exact .inl ⟨a,vs,rfl,.inl h1,λp hp=>q3.lst rep3 hp (h2.cut lo' hi')⟩
   |tup xs=>
    rw[z]at q3 is3;have is4:=is3;obtain⟨a,vs,rfl,h1,h2⟩:=is3;by_cases hw:HT.sIx vs.length 0 lo'=0/\HT.sIx vs.length vs.length hi'=vs.length
    .have ec:cA xs lo' hi'=xs:=by unfold cA;rw[<- h2.length,hw.1,hw.2,h2.length];simp
     dsimp only at q3;rw[ec]at q3;exact .inr (.inr ⟨a,vs,rfl,SqT.of h1,hw,q3.val rep3 is4⟩)
    .exact .inr (.inl ⟨a,vs,rfl,SqT.of h1,hw,λp hp=>q3.tup rep3 hp (h2.cut lo' hi')⟩)
   |_=>rw[z]at q3;exact q3.elim
noncomputable def D.ty:D->String
 |.ba=>"NoneType" |.bl _=>"bool" |.int _=>"int" |.str _=>"str" |.tup _=>"tuple" |.lst _=>"list" |.iU _ _=>"dict"
def Nk(K:SB)(H:Hp)(x:V)(t:SD):Prop:=jX K H x t\/(t=.type "dict"/\∃a,x=.ref a/\LM H a)
theorem Is.ty{m:Addr->Prop}{v:V}{K:SB}(h:Is H m d v):Nk K H v (.type d.ty):=by
 cases d with
 |ba=>cases h;exact .inl .ba
 |bl b=>cases h;exact .inl (.bl b)
 |int b=>cases h;exact .inl (.int b)
 |str b=>cases h;exact .inl (.str b)
 |tup ds=>obtain⟨a,vs,rfl,h1,_⟩:=h;exact .inl (.tup h1)
 |lst ds=>
  obtain⟨a,vs,rfl,h1,_⟩:=h;rcases h1 with⟨h1,_⟩|⟨o,h1,_⟩
  .exact .inl (.lst h1)
  .exact .inl (.aV h1)
 |iU ks ds=>obtain⟨a,kvs,rfl,h1,_⟩:=h;exact .inr ⟨rfl,a,rfl,h1.1.imp (λ⟨kvs,e,_⟩=>⟨kvs,e⟩) λ⟨kvs,e,_⟩=>⟨kvs,e⟩⟩
def Jm(T:String)(d:D):Bool:=match d with
 |.ba=>T=="NoneType"
 |.bl _=>T=="bool" || T=="int"
 |.int _=>T=="int"
 |.str _=>T=="str"
 |.tup _=>T=="tuple"
 |.lst _=>T=="list"
 |.iU _ _=>T=="dict"
def Jn(T:String):Prop:=∀(K:SB)(d:D),PySem.W.kitOne K (.type d.ty) (.type T)=some (Jm T d)
def xD:Jn "bool":=λK d=>by cases d<;>kernel_rfl
def F6(T:String)(fa:En->Res R):En->Res R:=λenv=>(fa env).bind λr=>.ok (.val (.bl (Jm T r.d)) true [])
def zU:CallR X (.builtin "isinstance") (λxs H Q=>∃x T t b,xs=[x,.ty T]/\Nk X.K H x t/\PySem.W.kitOne X.K t (.type T)=some b/\Q (.bl b) H):=by
 intro aa s σ H xs us Q I r h;obtain⟨x,T,t,b,rfl,ty,e,q⟩:=h;obtain⟨u,c,rfl,ru,rc⟩:=lF r;obtain rfl:c=Value.type T:=rc;rcases ty with ty|⟨rfl,a,rfl,hd⟩
 .exact wN I ru ty e λtk=>⟨.bl b,H,I.tok tk,rfl,q⟩
 .obtain rfl:u=Value.ref a:=ru;obtain⟨t1,_⟩:=yO I hd;exact PM Sq I.kq t1 e (λz=>nomatch z) λtk=>⟨.bl b,H,I.tok tk,rfl,q⟩
def F7(hK:Jn T')(hg:Gl X "isinstance") (hm:X.mg "isinstance"=none) (hgT:Gl X T) (hmT:X.mg T=none) (hvT:bootBuiltins T=some (.type T')) (ha:PD X E e fa)
 (hnT:autoParam (T≠"__name__") ab) (hdT:autoParam (dB T) ab)
 (he:autoParam (starEach [e,.Name T q] X.env=(false,eval e X.env)::starEach [.Name T q] X.env) SN) (he2:autoParam (starEach [.Name T q] X.env=(false,eval (.Name T q) X.env)::starEach [] X.env) SN) (hpl:autoParam ((backTo pos (starEach [.Name T q] X.env)).any (·.1)=false) SN) :
 PD X E (.Call (.Name "isinstance" p) [e,.Name T q] [] pos) (F6 T' fa):=by
 obtain⟨ta,p1,s1⟩:=ha;refine⟨_,bo zU hg hm (by decide +kernel) (af p1 (af (BI hgT hmT hvT (v:=.ty T') rfl hnT hdT) ax he2) he) (by decide) (by decide) he hpl,λg M ρ env σ H Q rep p=>s1.jA rep p λr v M1 H1 e1 rep1 is q=>?_⟩;exact⟨v,T',_,_,rfl,is.ty,hK X.K r.d,q _ M1 H1 (Ext.refl _ _) rep1 rfl⟩
end
section
noncomputable def dQ:List D->Option (List Bool)
 |[]=>some []
 |.bl b::r=>(dQ r).map λbs=>b::bs
 |_::_=>none
def CM:List R->Res R
 |[r]=>match r.d with
  |.lst ds=>match dQ ds with
   |some bs=>.ok (.val (.bl (bs.all id)) true [])
   |none=>.stuck
  |_=>.stuck
 |_=>.stuck
theorem oF:∀{ds:List D}{bs:List Bool}{i:Nat}{d:D},dQ ds=some bs->ds[i]?=some d->∃b,d=.bl b/\bs[i]?=some b
 |[],_,_,_,_,e=>by simp at e
 |.bl b::r,bs,0,d,h,e=>by
  simp at e;subst e;unfold dQ at h;cases q:dQ r with
  |none=>rw[q]at h;cases h
  |some bs'=>rw[q]at h;cases h;exact⟨b,rfl,rfl⟩
 |.bl b::r,bs,i+1,d,h,e=>by
  unfold dQ at h;cases q:dQ r with
  |none=>rw[q]at h;cases h
  |some bs'=>rw[q]at h;cases h;obtain⟨b',e1,e2⟩:=oF (i:=i) q (by simpa using e);exact⟨b',e1,by simpa using e2⟩
 |.ba::_,_,_,_,h,_=>by cases h
 |.int _::_,_,_,_,h,_=>by cases h
 |.str _::_,_,_,_,h,_=>by cases h
 |.tup _::_,_,_,_,h,_=>by cases h
 |.lst _::_,_,_,_,h,_=>by cases h
theorem oG:∀{ds:List D}{bs:List Bool},dQ ds=some bs->bs.length=ds.length
 |[],_,h=>by cases h;rfl
 |.bl b::r,bs,h=>by
  unfold dQ at h;cases q:dQ r with
  |none=>rw[q]at h;cases h
  |some bs'=>rw[q]at h;cases h;simp[oG q]
 |.ba::_,_,h=>by cases h
 |.int _::_,_,h=>by cases h
 |.str _::_,_,h=>by cases h
 |.tup _::_,_,h=>by cases h
 |.lst _::_,_,h=>by cases h
def xE(hc:X.calm=true):CallR X (.builtin "all") (λxs H Q=>∃(p:Addr)(vs:List V)(bs:List Bool),xs=[.ref p]/\SqL X.K H p vs/\vs=bs.map V.bl/\Q (.bl (bs.all id)) H):=by
 intro aa s σ H xs us Q I r h;obtain⟨p,vs,bs,rfl,hq,rfl,q⟩:=h;obtain⟨u,rfl,rx⟩:=db r;cases rx;obtain⟨its,rv,pl,hz⟩:=I.list hq;have hh:X.A.in1.handled=none:=I.ok.hd hc;obtain⟨o,ho,_⟩:=pl.isList;have hlt:p<s.heap.objs.size:=OA ho;refine call_all_walk (Qr pl.isList ?_);refine⟨s.heap.objs.size,_,_,_,_,_,λi=>(bs[i]?).getD true,rfl,Walks.list hh s.heap.objs.size p (OJ hlt) its.toArray,⟨⟨_,Oy _ rfl,rfl,rfl⟩,?_⟩,?_,λh' tk hk=>?_⟩
 .exact pl.isList.at λo e=>Ot _ e
 .intro i v s' Q' E' hv hQ';have hv:its[i]?=some v:=by simpa using hv
  have hi:i<its.length:=(OG.mp hv).1;have hl:=rv.length;have hb:i<bs.length:=by simpa using(by rw[Ov]at hl;lia:i<bs.length)
  obtain⟨u',hu,ru⟩:=rv.get (i:=i) (x:=.bl bs[i]) (by simp[hb]);rw[hv]at hu;cases hu;cases ru;have eb:bs[i]?=some bs[i]:=by simp[hb]
  dsimp only at hQ';rw[eb]at hQ';exact Q0 hQ'
 .have hl:=rv.length;rw[Ov]at hl;have e:((List.range its.toArray.size).all λi=>(bs[i]?).getD true)=bs.all id:=by
   rw[Oz,<- hl];rw[PL,PR,PR];constructor
   .intro h b hb;obtain⟨i,hi⟩:=OO.mp hb;have:=h i (by simp;exact(OG.mp hi).1);rw[hi]at this;exact this
   .intro h i hi;have hi:i<bs.length:=by simpa using hi
    have eb:bs[i]?=some bs[i]:=by simp[hi]
    rw[eb];exact h _ (R3 hi)
  rw[e];refine⟨.bl _,H,?_,rfl,q⟩;have I1:L2.Inv X aa σ H { s with heap:=s.heap.push { cls:=.type "list_iterator",data:=.fields #[.ref p,.int 0 0] } }:=I.kept (t':=s.toks) λb o e=>Ot _ e;have fo:=I.nM (H':=H) (Ou s.heap.objs.size) (I.aF.fresh (Ou _));exact I1.turned (t':=tk) (it:=s.heap.objs.size) (λb o hb e=>hk b o (by simpa using hb) e) fo.1 fo.2.1 fo.2.2.2.1 fo.2.2.2.2.1 fo.2.2.2.2.2
def F8(hc:X.calm=true):gD X E (.builtin "all") CM:=by
 refine⟨_,xE hc,λg M ρ env σ H Q rs vs rep i p=>?_⟩;rcases rs with _|⟨r,_|_⟩
 .exact p.elim
 rotate_left
 .exact p.elim
 obtain⟨v,w,rfl,i1,i2⟩:=i;cases i2;have i1:Is H (vmsk g M (bc [r]) ρ (bM [r])) r.d v:=i1;unfold CM at p;dsimp only at p;cases q:r.d with
 |lst ds=>
  rw[q]at p i1;obtain⟨a,ws,rfl,h1,h2⟩:=i1.rd;dsimp only at p;cases qb:dQ ds with
  |none=>rw[qb]at p;exact p.elim
  |some bs=>
   rw[qb]at p;refine⟨a,ws,bs,rfl,.inl h1,?_,p _ M H (Ext.refl _ _) rep rfl⟩;apply QK
   intro j;by_cases hj:j<ds.length
   .obtain⟨b,e1,e2⟩:=oF (i:=j) (d:=ds[j]) qb (by simp[hj]);obtain⟨v',ev,iv⟩:=h2.get (i:=j) (d:=ds[j]) (by simp[hj]);rw[e1]at iv;cases iv;rw[ev,OI,e2];rfl
   .have l1:=h2.length;have l2:=oG qb;rw[Px (by lia),Px (by simp;lia)]
 |_=>rw[q]at p;exact p.elim
end
noncomputable def Nl(osc:Scope)(N:List Str)(scope:Scope)(tN capN:List Str)(caps:List Nat):Bool:=
 (scope.kind==.function)&&scope.names.all (λy=>y.2 != .cell)&&scope.names.all (λy=>y.2 != .local || scope.names.lookup y.1==some .local)&&tN.all (λx=>scope.names.lookup x==some .local) &&
 scope.names.all (λy=>y.2 != .free ||(osc.names.lookup y.1==some .cell || osc.names.lookup y.1==some .free))&&(capN.zip caps).all (λp=>N[p.2]?==some p.1)&&(caps.length==capN.length) &&
 capN.all (λy=>osc.names.lookup y==some .cell || osc.names.lookup y==some .free)&&capN.all (λy=>scope.names.lookup y==some .free)&&decide (tN++capN).Nodup
def cn.of(h1:X.env.scope=osc)(h2:X.N=N)(h3:Nl osc N scope tN capN caps=true):cn X scope tN capN caps:=by
 unfold Nl at h3;simp only[Pa,PR,Bool.or_eq_true,Sn,bne_iff_ne,Qw,ne_eq]at h3;obtain⟨⟨⟨⟨⟨⟨⟨⟨⟨a1,a2⟩,a3⟩,a4⟩,a5⟩,a6⟩,a7⟩,a8⟩,a9⟩,a10⟩:=h3;subst h1 h2;refine⟨a1,a2,λy hy hl=>(a3 y hy).resolve_left λz=>z hl,a4,λy hy hf=>(a5 y hy).resolve_left λz=>z hf,⟨λk y e=>?_,a8,a9,a7⟩,a10⟩;have hk:k<capN.length:=(OG.mp e).1;have hk2:k<caps.length:=by lia
 refine⟨caps[k],by simp[hk2],?_⟩;have hm:(y,caps[k])∈capN.zip caps:=by
  have:(capN.zip caps)[k]?=some (y,caps[k]):=by rw[Q9];exact⟨e,by simp[hk2]⟩
  exact Pn this
 exact a6 _ hm
structure Fn(K:SB) (mg:Str->Option SD) (x:Str) (st:Stmt) (ps:List Str) (f:Addr) (fd:FuncData):Prop where
 fu:Bw K x x st f fd
 bi:Binds K fd ps []
 gl:mg x=some (.ref f)
def Ll(F:List D->Res R):Sp:=λvs H Q _=>vs.length=1/\∃ds Ma r,IsAll H Ma ds vs/\F ds=.ok r/\∀v H',Same H H'->RetOk (Ja H Ma) H' v r->Q v H'
theorem iL:∀ns:List Int,IsAll H m (ns.map D.int) (ns.map V.int)
 |[]=>rfl
 |n::r=>⟨.int n,r.map V.int,rfl,rfl,iL r⟩
def F9(hF:∀ns:List Int,ns.length<=63->∃f al,F [.lst (ns.map .int)]=.ok (.val (.bl true) f al))(H:Hp)(a:Addr)(ns:List Int)(hl:ns.length<=63)(hS:∃o,H a=some (.aV o (.lst (ns.map V.int)))) :
 Ll F [.ref a] H (λv _=>v=.bl true) λ_ _ _=>False:=by
 obtain⟨f,al,e⟩:=hF ns hl;obtain⟨o,hS⟩:=hS;exact⟨rfl,[.lst (ns.map .int)],λb=>b=a,_,⟨_,[],rfl,⟨a,ns.map V.int,rfl,.inr ⟨o,hS,rfl⟩,iL ns⟩,rfl⟩,e,λv H' _ h=>h⟩
section
variable{P:SC}{w:World}{K:SB}{mg:Str->Option SD}{base:Heap}
def bu.top(h:bu P w K mg base CX k f fd ps (m_ mg 1 F)):bu P w K mg base CX k f fd ps (Ll F):=h.imp λvs H Q E ⟨hl,ds,Ma,r,is,e,q⟩=>⟨hl,ds,Ma,is,by rw[e];exact q⟩
end
section
def Lm(k:Int->Int->Int):List R->Res R
 |[r,q]=>match r.d,q.d with
  |.int i,.int j=>.ok (.val (.int (k i j)) true [])
  |_,_=>.stuck
 |_=>.stuck
def F_:List R->Res R:=Lm λi j=>if j>i then j else i
def CN:List R->Res R:=Lm λi j=>if j<i then j else i
def Ew(h:CallR X f (λxs H Q=>∃i j,xs=[.int i,.int j]/\Q (.int (k i j)) H)):gD X E f (Lm k):=by
 refine⟨_,h,λg M ρ env σ H Q rs vs rep i p=>?_⟩;rcases rs with _|⟨r,_|⟨q,_|_⟩⟩
 .exact p.elim
 .exact p.elim
 rotate_left
 .exact p.elim
 obtain⟨v,w,rfl,i1,v2,w2,rfl,i2,i3⟩:=i;cases i3;have i1:Is H (vmsk g M (bc [r,q]) ρ (bM [r,q])) r.d v:=i1;have i2:Is H (vmsk g M (bc [r,q]) ρ (bM [r,q])) q.d v2:=i2;unfold Lm at p;dsimp only at p;cases z:r.d with
 |int a=>
  cases z2:q.d with
  |int b=>rw[z]at i1;rw[z2]at i2;rw[z,z2]at p;cases i1;cases i2;exact⟨a,b,rfl,p _ M H (Ext.refl _ _) rep rfl⟩
  |_=>rw[z,z2]at p;exact p.elim
 |_=>rw[z]at p;exact p.elim
def Ga(hc:X.calm=true):gD X E (.builtin "max") F_:=Ew (wJ hc)
def Gb(hc:X.calm=true):gD X E (.builtin "min") CN:=Ew (wK hc)
end
section
open Classical in
end
end L3
namespace L3
open PySem PySem.Spec PyProof.Rows L2
noncomputable def zV:D->Option aG
 |.int i=>some (.inl i)
 |.str x=>some (.inr x)
 |_=>none
def oH:List D->Option (List aG)
 |[]=>some []
 |d::ds=>match zV d,oH ds with
  |some k,some ks=>some (k::ks)
  |_,_=>none
def zW:D->Option (List aG)
 |.tup ds=>oH ds
 |_=>none
def zX:D->Option (List aG×D)
 |.tup [k,v]=>(zW k).map λks=>(ks,v)
 |_=>none
def jL:List D->Option (List (List aG×D))
 |[]=>some []
 |d::ds=>match zX d,jL ds with
  |some p,some ps=>some (p::ps)
  |_,_=>none
def zY(t:List (List aG×D))(k:List aG)(d:D):List (List aG×D):=if(t.any λx=>decide (x.1=k))=true then t.map (λx=>if x.1=k then(x.1,d)else x)else t++[(k,d)]
def sf(t ps:List (List aG×D)):List (List aG×D):=ps.foldl (λt x=>zY t x.1 x.2) t
def Jo(ps:List (List aG×D)):D:=.iU ((sf [] ps).map λp=>.inr p.1) ((sf [] ps).map Prod.snd)
def zZ:List R->Res R
 |[r]=>match r.d with
  |.lst ds=>match jL ds with
   |some ps=>if D.aY ((sf [] ps).map Prod.snd)then .ok (.gd (Jo ps))else .stuck
   |none=>.stuck
  |_=>.stuck
 |_=>.stuck
section
def Is.key(h:Is H m d v)(e:zV d=some k):v=kV k:=by
 cases d with
 |int i=>cases e;exact h
 |str x=>cases e;exact h
 |_=>cases e
theorem IsAll.keys:∀{ds:List D}{vs:List V}{ks:List aG},IsAll H m ds vs->oH ds=some ks->vs=ks.map kV
 |[],_,_,h,e=>by cases h;cases e;rfl
 |d::ds,_,ks,h,e=>by
  obtain⟨v,r,rfl,h1,h2⟩:=h;unfold oH at e;cases q:zV d with
  |none=>rw[q]at e;cases e
  |some k=>
   cases q2:oH ds with
   |none=>rw[q,q2]at e;cases e
   |some ks'=>rw[q,q2]at e;cases e;rw[h1.key q,IsAll.keys h2 q2];rfl
theorem Is.zW(h:Is H m d v)(e:L3.zW d=some k):∃b,v=.ref b/\H b=some (.tup (k.map kV)):=by
 cases d with
 |tup ds=>obtain⟨a,vs,rfl,h1,h2⟩:=h;have e:oH ds=some k:=e;rw[IsAll.keys h2 e]at h1;exact⟨a,rfl,h1⟩
 |_=>cases e
def RKV(H:Hp)(m:Addr->Prop):List (List aG×V)->List (List aG×D)->Prop:=Paired λa b=>a.1=b.1/\Is H m b.2 a.2
theorem RKV.fst(r:RKV H m a b):a.map Prod.fst=b.map Prod.fst:=by
 induction r with
 |nil=>rfl
 |cons h _ ih=>rw[OH,OH,ih,h.1]
theorem RKV.snd(r:RKV H m a b):IsAll H m (b.map Prod.snd) (a.map Prod.snd):=by
 induction r with
 |nil=>rfl
 |cons h _ ih=>exact⟨_,_,rfl,h.2,ih⟩
def RKV.append(r:RKV H m a b)(s:RKV H m c d):RKV H m (a++c) (b++d):=by
 induction r with
 |nil=>exact s
 |cons h _ ih=>exact .cons h ih
theorem RKV.any(r:RKV H m a b)(k:List aG):(a.any λx=>decide (x.1=k))=(b.any λx=>decide (x.1=k)):=by
 induction r with
 |nil=>rfl
 |cons h _ ih=>rw[Qe,Qe,ih,h.1]
def RKV.vh(r:RKV H m a b)(h:Is H m d v):RKV H m (a.map λx=>if x.1=k then(x.1,v)else x) (b.map λx=>if x.1=k then(x.1,d)else x):=by
 induction r with
 |nil=>exact .nil
 |@cons p q ps qs hq t ih=>
  refine .cons ?_ ih
  grind
def RKV.put(r:RKV H m a b)(h:Is H m d v):RKV H m (bp a k v) (zY b k d):=by
 unfold bp zY;rw[r.any k];split
 .exact r.vh h
 .exact r.append (.cons ⟨rfl,h⟩ .nil)
theorem sj:∀{ds:List D}{vs:List V}{ps:List (List aG×D)},IsAll H m ds vs->jL ds=some ps->∃kvs,px H vs kvs/\∀a b,RKV H m a b->RKV H m (gy a kvs) (sf b ps)
 |[],_,_,h,e=>by cases h;cases e;exact⟨[],.nil,λa b r=>r⟩
 |d::ds,_,ps,h,e=>by
  obtain⟨v,r,rfl,h1,h2⟩:=h;unfold jL at e;cases q:zX d with
  |none=>rw[q]at e;cases e
  |some p=>
   cases q2:jL ds with
   |none=>rw[q,q2]at e;cases e
   |some ps'=>
    rw[q,q2]at e;cases e;obtain⟨kvs,k1,k2⟩:=sj h2 q2;unfold zX at q;split at q
    .rename_i kd vd;obtain⟨a,vs2,rfl,g1,g2⟩:=h1;obtain⟨y1,r1,rfl,i1,y2,r2,rfl,i2,i3⟩:=g2;cases i3;cases q3:zW kd with
     |none=>rw[q3]at q;cases q
     |some kk=>rw[q3]at q;cases q;obtain⟨ka,rfl,hka⟩:=i1.zW q3;exact⟨(kk,y2)::kvs,.cons ⟨a,ka,rfl,g1,hka⟩ k1,λa b r=>k2 _ _ (r.put i2)⟩
    .cases q
end
section
variable{X:Cx}{E:XK}
def vR(rep:Rep g M ρ env σ H)(hb:H b=none)(is:Is H' (λa=>a=b) d (.ref b))(mu:Mu H' b):ROk g M ρ H H' (.ref b) (.gd d):=by obtain⟨h0,hm,ho⟩:=rep.free hb;exact⟨λa=>a=b,λa e=>by subst e;exact⟨hm,hb,mu,ho⟩,is⟩
def CO(hc:X.calm=true)(hu:X.A.units+64<cLine):gD X E (.type "dict") zZ:=by
 refine⟨_,ub hc hu,λg M ρ env σ H Q rs vs rep i p=>?_⟩;rcases rs with _|⟨r,_|_⟩
 .exact p.elim
 rotate_left
 .exact p.elim
 obtain⟨v,w,rfl,i1,i2⟩:=i;cases i2;have i1:Is H (vmsk g M (bc [r]) ρ (bM [r])) r.d v:=i1;replace i1:=i1.weak λ_ z=>vN z;unfold zZ at p;dsimp only at p;cases q:r.d with
 |lst ds=>
  rw[q]at p i1;dsimp only at p;cases q2:jL ds with
  |none=>rw[q2]at p;exact p.elim
  |some ps=>
   rw[q2]at p;obtain⟨a,ws,rfl,h1,h2⟩:=i1.rd;obtain⟨kvs,k1,k2⟩:=sj h2 q2;refine⟨a,ws,kvs,rfl,h1,k1,λb hb=>?_⟩;have rk:=k2 [] [] .nil;have s:Same H (upd H b (.dT (gy [] kvs))):=ai hb;dsimp only at p;by_cases hf:D.aY ((sf [] ps).map Prod.snd)=true
   .rw[Ow hf]at p;refine p _ M _ ⟨λ_ z=>z,s,λ_ z=>.inl z⟩ (rep.grow s) (vR rep hb ⟨b,_,rfl,⟨.inr ⟨gy [] kvs,.inl ac,?_,rfl⟩,rfl⟩,IsAll.flat hf (IsAll.same s rk.snd)⟩ ⟨_,ac,True.intro⟩);have:=Qn (List.map λk:List aG=>(Sum.inr k:DK)) rk.fst;rw[OP,OP]at this;exact this.symm
   .rw[Ox hf]at p;exact p.elim
 |_=>rw[q]at p;exact p.elim
noncomputable def xF(neg:Bool):R2:=λx y H Q=>∃a o,y=.ref a/\DGetX H a x o/\Q (.bl (if neg then !o.isSome else o.isSome)) H
def uJ(hu:X.A.units+64<cLine):OpR X (compareOp .In) (xF false):=by intro aa s σ H x y v u Q I rx ry h;obtain⟨a,o,rfl,g,q⟩:=h;cases ry;exact IT (by lia) I g rx λs' I'=>⟨.bl _,H,I',rfl,q⟩
def xG(hu:X.A.units+64<cLine):OpR X (compareOp .NotIn) (xF true):=by intro aa s σ H x y v u Q I rx ry h;obtain⟨a,o,rfl,g,q⟩:=h;cases ry;exact yR (by lia) I g rx λs' I'=>⟨.bl _,H,I',rfl,q⟩
end
section
def xH(hc:X.calm=true):CallR X (.builtin "any") (λxs H Q=>∃(p:Addr)(vs:List V)(bs:List Bool),xs=[.ref p]/\SqL X.K H p vs/\vs=bs.map V.bl/\Q (.bl (bs.any id)) H):=by
 intro aa s σ H xs us Q I r h;obtain⟨p,vs,bs,rfl,hq,rfl,q⟩:=h;obtain⟨u,rfl,rx⟩:=db r;cases rx;obtain⟨its,rv,pl,hz⟩:=I.list hq;have hh:X.A.in1.handled=none:=I.ok.hd hc;obtain⟨o,ho,_⟩:=pl.isList;have hlt:p<s.heap.objs.size:=OA ho;refine call_any_walk (Qr pl.isList ?_);refine⟨s.heap.objs.size,_,_,_,_,_,λi=>(bs[i]?).getD false,rfl,Walks.list hh s.heap.objs.size p (OJ hlt) its.toArray,⟨⟨_,Oy _ rfl,rfl,rfl⟩,?_⟩,?_,λh' tk hk=>?_⟩
 .exact pl.isList.at λo e=>Ot _ e
 .intro i v s' Q' E' hv hQ';have hv:its[i]?=some v:=by simpa using hv
  have hi:i<its.length:=(OG.mp hv).1;have hl:=rv.length;have hb:i<bs.length:=by simpa using(by rw[Ov]at hl;lia:i<bs.length)
  obtain⟨u',hu,ru⟩:=rv.get (i:=i) (x:=.bl bs[i]) (by simp[hb]);rw[hv]at hu;cases hu;cases ru;have eb:bs[i]?=some bs[i]:=by simp[hb]
  dsimp only at hQ';rw[eb]at hQ';exact Q0 hQ'
 .have hl:=rv.length;rw[Ov]at hl;have e:((List.range its.toArray.size).any λi=>(bs[i]?).getD false)=bs.any id:=by
   rw[Oz,<- hl];rw[PL,Ri,Ri];constructor
   .rintro⟨i,hi,h⟩;have hi:i<bs.length:=by simpa using hi
    have eb:bs[i]?=some bs[i]:=by simp[hi]
    rw[eb]at h;exact⟨bs[i],R3 hi,h⟩
   .rintro⟨b,hb,h⟩;obtain⟨i,hi⟩:=OO.mp hb;refine⟨i,by simp;exact(OG.mp hi).1,?_⟩;rw[hi];exact h
  rw[e];refine⟨.bl _,H,?_,rfl,q⟩;have I1:L2.Inv X aa σ H { s with heap:=s.heap.push { cls:=.type "list_iterator",data:=.fields #[.ref p,.int 0 0] } }:=I.kept (t':=s.toks) λb o e=>Ot _ e;have fo:=I.nM (H':=H) (Ou s.heap.objs.size) (I.aF.fresh (Ou _));exact I1.turned (t':=tk) (it:=s.heap.objs.size) (λb o hb e=>hk b o (by simpa using hb) e) fo.1 fo.2.1 fo.2.2.2.1 fo.2.2.2.2.1 fo.2.2.2.2.2
end
def getD:List DK->List D->DK->Option D
 |k'::ks,d::ds,k=>if k'=k then some d else getD ks ds k
 |_,_,_=>none
noncomputable def gI:List D->Option (List Int)
 |[]=>some []
 |.int i::r=>(gI r).map (i::·)
 |_::_=>none
def Gc:D->Option (List Int)
 |.tup ds=>gI ds
 |_=>none
def gJ:List D->Option (List (List Int))
 |[]=>some []
 |d::r=>match Gc d,gJ r with
  |some k,some ks=>some (k::ks)
  |_,_=>none
noncomputable def sk(k:List Int):D:=.tup (k.map .int)
def nG(k:List Int):List (List Int)->List (List Int)
 |[]=>[k]
 |h::t=>if k=h then h::t else if cr k h then k::h::t else h::nG k t
def eJ:List (List Int)->List (List Int)
 |[]=>[]
 |k::ks=>nG k (eJ ks)
def CP(N:Nat)(r:R):Res R:=match r.d with
 |.lst ds=>match gJ ds with
  |some ks=>if decide (ds.length<=N)&&ks.all (λk=>!k.isEmpty)then .ok (.new ((eJ ks).map sk) true)else .stuck
  |none=>.stuck
 |_=>.stuck
def Jp(r:R):Res R:=CP 63 r
def Lo(f:En->Res R):En->Res R:=λenv=>(f env).bind Jp
theorem p4(k x:List Int):∀l,x∈nG k l↔x=k\/x∈l
 |[]=>by simp[nG]
 |h::t=>by
  unfold nG;split
  .rename_i e;subst e;simp
  .split
   .simp
   .rw[OE,p4 k x t,OE]
    grind
theorem z5(k:List Int):∀l,l.Pairwise (λx y=>cr x y=true)->(nG k l).Pairwise (λx y=>cr x y=true)
 |[],_=>List.pairwise_singleton _ _
 |h::t,p=>by
  obtain⟨p1,p2⟩:=Pq.mp p;unfold nG;split
  .exact p
  .rename_i hne;split
   .rename_i hlt;refine Pq.mpr ⟨λy hy=>?_,p⟩
    grind [pH]
   .rename_i hlt;refine Pq.mpr ⟨λy hy=>?_,z5 k t p2⟩
    grind [p4,pI]
theorem gK(x:List Int):∀ks,x∈eJ ks↔x∈ks
 |[]=>by simp[eJ]
 |k::ks=>by unfold eJ;rw[p4,gK x ks,OE]
theorem vS:∀ks,(eJ ks).Pairwise (λx y=>cr x y=true)
 |[]=>List.Pairwise.nil
 |k::ks=>by unfold eJ;exact z5 k _ (vS ks)
def z7(h:cr a b=true):cr b a=false:=by grind [cr,pH,kZ]
theorem mj:∀(a b:List (List Int)),a.Pairwise (λx y=>cr x y=true)->b.Pairwise (λx y=>cr x y=true)->(∀x,x∈a↔x∈b)->a=b
 |[],[],_,_,_=>rfl
 |[],y::b,_,_,h=>by have:=(h y).mpr OZ;simp at this
 |x::a,[],_,_,h=>by have:=(h x).mp OZ;simp at this
 |x::a,y::b,pa,pb,h=>by
  obtain⟨a1,a2⟩:=Pq.mp pa;obtain⟨b1,b2⟩:=Pq.mp pb;have hxy:x=y:=by
   rcases OE.mp ((h x).mp OZ)with e|e
   .exact e
   .rcases OE.mp ((h y).mpr OZ)with e'|e'
    .exact e'.symm
    .have:=z7 (a1 y e');rw[b1 x e]at this;cases this
  subst hxy;rw[mj a b a2 b2 λz=>?_]
  grind [kZ]
section
theorem IsAll.ints:∀{ds:List D}{vs:List V}{k:List Int},IsAll H m ds vs->gI ds=some k->vs=(iK k).map kV
 |[],_,_,h,e=>by cases h;cases e;rfl
 |d::ds,_,k,h,e=>by
  obtain⟨v,r,rfl,h1,h2⟩:=h;cases d with
  |int i=>unfold gI at e;obtain⟨k',e1,rfl⟩:=OY.mp e;rw[IsAll.ints h2 e1,show v=V.int i from h1];rfl
  |_=>cases e
theorem mn:∀(k:List Int),IsAll H m (k.map .int) ((iK k).map kV)
 |[]=>rfl
 |i::k=>⟨.int i,_,rfl,rfl,mn k⟩
theorem IsAll.gJ:∀{ds:List D}{vs:List V}{ks:List (List Int)},IsAll H m ds vs->L3.gJ ds=some ks->∃its:List ip,TupsIn H vs its/\its.map (·.1)=ks
 |[],_,_,h,e=>by cases h;cases e;exact⟨[],.nil,rfl⟩
 |d::ds,_,ks,h,e=>by
  obtain⟨v,r,rfl,h1,h2⟩:=h;unfold L3.gJ at e;cases q:Gc d with
  |none=>rw[q]at e;cases e
  |some k=>
   cases q2:L3.gJ ds with
   |none=>rw[q,q2]at e;cases e
   |some ks'=>
    rw[q,q2]at e;cases e;obtain⟨its,t1,t2⟩:=IsAll.gJ h2 q2;cases d with
    |tup es=>obtain⟨a,ws,rfl,g1,g2⟩:=h1;have q:gI es=some k:=q;rw[IsAll.ints g2 q]at g1;exact⟨(k,a)::its,.cons ⟨rfl,g1⟩ t1,by grind⟩
    |_=>cases q
end
def uK(t:TupsIn H vs its):vs.length=its.length:=by
 unfold TupsIn at t;induction t with
 |nil=>rfl
 |cons _ _ ih=>rw[OV,OV,ih]
def xI(t:TupsIn H vs its):∀x∈its,H x.2=some (.tup ((iK x.1).map kV)):=by
 unfold TupsIn at t;induction t with
 |nil=>exact λx hx=>nomatch hx
 |cons q _ ih=>
  intro x hx;rcases OE.mp hx with rfl|hx
  .exact q.2
  .exact ih x hx
theorem kj:∀{ys:List ip},(∀y∈ys,H y.2=some (.tup ((iK y.1).map kV)))->IsAll H m (ys.map (sk ∘ λy=>y.1)) (ys.map λy=>.ref y.2)
 |[],_=>rfl
 |y::ys,h=>⟨.ref y.2,_,rfl,⟨y.2,_,rfl,h y OZ,mn y.1⟩,kj λz hz=>h z (OW _ hz)⟩
section
def nH(hN:N<=300)(hso:pJ X.prog X.w N)(hc:X.calm=true)(hu:X.A.units+64<cLine)(h:PD X E e f)
 (hg1:Gl X x1) (hm1:X.mg x1=none) (hv1:bootBuiltins x1=some (.builtin "sorted")) (hg2:Gl X x2) (hm2:X.mg x2=none) (hv2:bootBuiltins x2=some (.type "set"))
 (hn1:autoParam (x1≠"__name__") ab) (hdb1:autoParam (dB x1) ab) (hn2:autoParam (x2≠"__name__") ab) (hdb2:autoParam (dB x2) ab)
 (he2:autoParam (starEach [e] X.env=(false,eval e X.env)::starEach [] X.env) SN) (hpl2:autoParam (bT X pos2 []) SN)
 (he1:autoParam (starEach [.Call (.Name x2 p2) [e] [] pos2] X.env=(false,eval (.Call (.Name x2 p2) [e] [] pos2) X.env)::starEach [] X.env) SN) (hpl1:autoParam (bT X pos1 []) SN) :
 PD X E (.Call (.Name x1 p1) [.Call (.Name x2 p2) [e] [] pos2] [] pos1) (λenv=>(f env).bind (CP N)):=by
 obtain⟨t,p1,s1⟩:=h;refine⟨_,bo (pK hc hN hso) hg1 hm1 hv1 (af (g6 (xc hc hu) hg2 hm2 hv2 (af p1 ax he2) hn2 hdb2 he2 hpl2) ax he1) hn1 hdb1 he1 hpl1,λg M ρ env σ H Q rep p=>?_⟩;refine s1.jA rep p λr v M1 H1 e1 rep1 i1 q1=>?_;unfold CP at q1;cases qd:r.d with
 |lst ds=>
  rw[qd]at q1 i1;dsimp only at q1;cases qt:gJ ds with
  |none=>rw[qt]at q1;exact q1.elim
  |some ks=>
   rw[qt]at q1;dsimp only at q1;by_cases hcond:(decide (ds.length<=N)&&ks.all (λk=>!k.isEmpty))=true
   .rw[Ow hcond]at q1;simp only[Pa,Qw,PR]at hcond;obtain⟨hl,hne⟩:=hcond;obtain⟨a,vs,rfl,h1,h2⟩:=i1.rd;obtain⟨its,t1,t2⟩:=h2.gJ qt;have hvl:vs.length<=N:=by rw[h2.length];exact hl
    have tat:=xI t1;refine⟨a,vs,its,rfl,h1,t1,O3 hvl hN,λb es hb v=>?_⟩;refine⟨b,es,its,rfl,ac,v,λx hx=>?_,λx hx z=>?_,by rw[<- uK t1];exact hvl,λl ys hl so=>?_⟩
    .rw[ah (ak (tat x hx) hb)];exact tat x hx
    .have:x.1∈ks:=by rw[<- t2];exact OB.mpr ⟨x,hx,rfl⟩
     have:=hne _ this;rw[z]at this;simp at this
    .have hlb:l≠b:=λz=>by rw[z,ac]at hl;cases hl
     have hl1:H1 l=none:=by rw[ah hlb]at hl;exact hl
     have sm1:Same H1 (upd H1 b (.ext λh=>SetAt X.w h b es)):=ai hb;have sm2:Same (upd H1 b (.ext λh=>SetAt X.w h b es)) (upd (upd H1 b (.ext λh=>SetAt X.w h b es)) l (.lst (ys.map λy=>.ref y.2))):=ai hl;have sm:=sm1.trans sm2;obtain⟨z0,zm,zo⟩:=rep1.free hl1;refine q1 _ M1 _ ⟨λ_ z=>z,sm,λ_ z=>.inl z⟩ (rep1.grow sm) ⟨l,_,rfl,ac,zm,hl1,zo,?_⟩;have ek:ys.map (·.1)=eJ ks:=by
      refine mj _ _ ?_ (vS ks) λk=>?_
      .rw[Pi];exact so.pw
      .rw[gK,<- t2];constructor
       .intro hk;obtain⟨y,hy,rfl⟩:=OB.mp hk;exact OB.mpr ⟨y,so.sub y hy,rfl⟩
       .intro hk;obtain⟨x,hx,rfl⟩:=OB.mp hk;obtain⟨y,y1,y2⟩:=so.all x hx;exact OB.mpr ⟨y,y1,y2⟩
     rw[<- ek,OP];exact kj (λx hx=>sm _ _ (tat x (so.sub x hx)))
   .rw[Ox hcond]at q1;exact q1.elim
 |_=>rw[qd]at q1;exact q1.elim
def p5(hc:X.calm=true)(hu:X.A.units+64<cLine)(h:PD X E e f)
 (hg1:Gl X x1) (hm1:X.mg x1=none) (hv1:bootBuiltins x1=some (.builtin "sorted")) (hg2:Gl X x2) (hm2:X.mg x2=none) (hv2:bootBuiltins x2=some (.type "set"))
 (hn1:autoParam (x1≠"__name__") ab) (hdb1:autoParam (dB x1) ab) (hn2:autoParam (x2≠"__name__") ab) (hdb2:autoParam (dB x2) ab)
 (he2:autoParam (starEach [e] X.env=(false,eval e X.env)::starEach [] X.env) SN) (hpl2:autoParam (bT X pos2 []) SN)
 (he1:autoParam (starEach [.Call (.Name x2 p2) [e] [] pos2] X.env=(false,eval (.Call (.Name x2 p2) [e] [] pos2) X.env)::starEach [] X.env) SN) (hpl1:autoParam (bT X pos1 []) SN) :
 PD X E (.Call (.Name x1 p1) [.Call (.Name x2 p2) [e] [] pos2] [] pos1) (Lo f):=nH (Nat.le_of_ble_eq_true rfl) Cg hc hu h hg1 hm1 hv1 hg2 hm2 hv2 hn1 hdb1 hn2 hdb2 he2 hpl2 he1 hpl1
end
section
open Classical in
end
noncomputable def kD:aG->D
 |.inl i=>.int i
 |.inr x=>.str x
def Ge:List DK->Option (List D)
 |[]=>some []
 |.inl k::r=>(Ge r).map (kD k::·)
 |.inr _::_=>none
def z9:D->Option (aG×D)
 |.tup [k,v]=>(zV k).map λk=>(k,v)
 |_=>none
def gL:List D->Option (List (aG×D))
 |[]=>some []
 |d::ds=>match z9 d,gL ds with
  |some p,some ps=>some (p::ps)
  |_,_=>none
def uL(t:List (aG×D))(k:aG)(d:D):List (aG×D):=if(t.any λx=>decide (x.1=k))=true then t.map (λx=>if x.1=k then(x.1,d)else x)else t++[(k,d)]
def je(t ps:List (aG×D)):List (aG×D):=ps.foldl (λt x=>uL t x.1 x.2) t
noncomputable def CQ(t:List (aG×D)):D:=.iU (t.map λp=>.inl p.1) (t.map Prod.snd)
def jM:List R->Res R
 |[r]=>match r.d with
  |.lst ds=>match gL ds with
   |some ps=>if D.aY ((je [] ps).map Prod.snd)then .ok (.gd (CQ (je [] ps)))else .stuck
   |none=>zZ [r]
  |_=>.stuck
 |_=>.stuck
section
def REK(H:Hp)(m:Addr->Prop):List (aG×V)->List (aG×D)->Prop:=Paired λa b=>a.1=b.1/\Is H m b.2 a.2
theorem REK.fst(r:REK H m a b):a.map Prod.fst=b.map Prod.fst:=by
 induction r with
 |nil=>rfl
 |cons h _ ih=>rw[OH,OH,ih,h.1]
theorem REK.snd(r:REK H m a b):IsAll H m (b.map Prod.snd) (a.map Prod.snd):=by
 induction r with
 |nil=>rfl
 |cons h _ ih=>exact⟨_,_,rfl,h.2,ih⟩
theorem REK.of:∀{a:List (aG×V)}{b:List (aG×D)},a.map Prod.fst=b.map Prod.fst->IsAll H m (b.map Prod.snd) (a.map Prod.snd)->REK H m a b
 |[],[],_,_=>.nil
 |[],_::_,e,_=>by cases e
 |_::_,[],e,_=>by cases e
 |p::a,q::b,e,h=>by obtain⟨v,r,z,h1,h2⟩:=h;cases z;simp only[OH,List.cons.injEq]at e;exact .cons ⟨e.1,h1⟩ (REK.of e.2 h2)
def REK.append(r:REK H m a b)(s:REK H m c d):REK H m (a++c) (b++d):=by
 induction r with
 |nil=>exact s
 |cons h _ ih=>exact .cons h ih
theorem REK.any(r:REK H m a b)(k:aG):(a.any λx=>decide (x.1=k))=(b.any λx=>decide (x.1=k)):=by
 induction r with
 |nil=>rfl
 |cons h _ ih=>rw[Qe,Qe,ih,h.1]
def REK.vh(r:REK H m a b)(h:Is H m d v):REK H m (a.map λx=>if x.1=k then(x.1,v)else x) (b.map λx=>if x.1=k then(x.1,d)else x):=by
 induction r with
 |nil=>exact .nil
 |@cons p q ps qs hq t ih=>
  refine .cons ?_ ih;dsimp only;by_cases e:p.1=k
  .rw[Ow e,Ow (hq.1▸e)];exact⟨hq.1,h⟩
  .rw[Ox e,Ox (λz=>e (hq.1.trans z))];exact hq
def REK.put(r:REK H m a b)(h:Is H m d v):REK H m (bp a k v) (uL b k d):=by
 unfold bp uL;rw[r.any k];split
 .exact r.vh h
 .exact r.append (.cons ⟨rfl,h⟩ .nil)
def REK.merge(r:REK H m a b)(s:REK H m c d):REK H m (bG a c) (je b d):=by
 induction s generalizing a b with
 |nil=>exact r
 |@cons p q ps qs hq t ih=>have:=ih (r.put (k:=p.1) hq.2);show REK H m (bG (bp a p.1 p.2) ps) (je (uL b q.1 q.2) qs);rw[<- hq.1];exact this
theorem oJ:∀{ds:List D}{vs:List V}{ps:List (aG×D)},IsAll H m ds vs->gL ds=some ps->∃kvs,pC H vs kvs/\REK H m kvs ps
 |[],_,_,h,e=>by cases h;cases e;exact⟨[],.nil,.nil⟩
 |d::ds,_,ps,h,e=>by
  obtain⟨v,r,rfl,h1,h2⟩:=h;unfold gL at e;cases q:z9 d with
  |none=>rw[q]at e;cases e
  |some p=>
   cases q2:gL ds with
   |none=>rw[q,q2]at e;cases e
   |some ps'=>
    rw[q,q2]at e;cases e;obtain⟨kvs,k1,k2⟩:=oJ h2 q2;unfold z9 at q;split at q
    .rename_i kd vd;obtain⟨a,vs2,rfl,g1,g2⟩:=h1;obtain⟨y1,r1,rfl,i1,y2,r2,rfl,i2,i3⟩:=g2;cases i3;cases q3:zV kd with
     |none=>rw[q3]at q;cases q
     |some kk=>rw[q3]at q;cases q;have:=i1.key q3;subst this;exact⟨(kk,y2)::kvs,.cons ⟨a,rfl,g1⟩ k1,.cons ⟨rfl,i2⟩ k2⟩
    .cases q
def CT{b:Addr}{u:HO}{kvs:List (aG×V)}{t:List (aG×D)}(e:H b=some (.dK kvs))(r:REK H m kvs t)(hb:m b):Is H m (CQ t) (.ref b):=by refine⟨b,_,rfl,⟨.inl ⟨kvs,.inl e,?_,rfl⟩,hb⟩,r.snd⟩;have:=Qn (List.map λk:aG=>(Sum.inl k:DK)) r.fst;rw[OP,OP]at this;exact this.symm
theorem REK.flat(hf:D.aY (b.map Prod.snd)=true)(r:REK H m a b):REK H m' a b:=REK.of r.fst (IsAll.flat hf r.snd)
theorem REK.same(s:Same H H')(r:REK H m a b):REK H' m a b:=REK.of r.fst (IsAll.same s r.snd)
end
section
def z_(hc:X.calm=true)(hu:X.A.units+64<cLine):gD X E (.type "dict") jM:=by
 obtain⟨r0,c0,s0⟩:=CO (X:=X) (E:=E) hc hu;refine⟨λxs H Q=>(∃l vs kvs,xs=[.ref l]/\Rd H l (.lst vs)/\pC H vs kvs/\∀p,H p=none->Q (.ref p) (upd H p (.dK (bG [] kvs))))\/r0 xs H Q,λaa s σ H xs us Q I r h=>h.elim (uc hc aa s σ H xs us Q I r) (c0 aa s σ H xs us Q I r),λg M ρ env σ H Q rs vs rep i p=>?_⟩;rcases rs with _|⟨r,_|_⟩
 .exact p.elim
 rotate_left
 .exact p.elim
 unfold jM at p;dsimp only at p;cases q:r.d with
 |lst ds=>
  rw[q]at p;dsimp only at p;cases q2:gL ds with
  |none=>rw[q2]at p;exact .inr (s0 g M ρ env σ H Q [r] vs rep i p)
  |some ps=>
   rw[q2]at p;dsimp only at p;left;obtain⟨v,w,rfl,i1,i2⟩:=i;cases i2;have i1:Is H (vmsk g M (bc [r]) ρ (bM [r])) r.d v:=i1;rw[q]at i1;obtain⟨a,ws,rfl,h1,h2⟩:=i1.rd;obtain⟨kvs,k1,k2⟩:=oJ h2 q2;refine⟨a,ws,kvs,rfl,h1,k1,λb hb=>?_⟩;have rk:REK H _ (bG [] kvs) (je [] ps):=REK.merge .nil k2;have s:Same H (upd H b (.dK (bG [] kvs))):=ai hb;by_cases hf:D.aY ((je [] ps).map Prod.snd)=true
   .rw[Ow hf]at p;exact p _ M _ ⟨λ_ z=>z,s,λ_ z=>.inl z⟩ (rep.grow s) (vR rep hb (CT (u:=.dK []) ac ((rk.flat hf).same s) rfl) ⟨_,ac,True.intro⟩)
   .rw[Ox hf]at p;exact p.elim
 |_=>rw[q]at p;exact p.elim
end
noncomputable abbrev iN:=Int×Int×Int
noncomputable def dd(l:List Int)(x:Int):List Int:=if x∈l then l else l++[x]
def Aa(xs:List Int):List Int:=xs.foldl dd []
def g2(ts:List iN)(x:Int):List Int:=Aa ((ts.filter λt=>decide (t.1=x)).map (·.2.1))
noncomputable def ik(i:Int):DK:=.inl (.inl i)
theorem fX:∀(k:List Int),IsAll H m (k.map .int) (k.map .int)
 |[]=>rfl
 |i::k=>⟨.int i,_,rfl,rfl,fX k⟩
open Classical in
section
def Ab:List R->Res R
 |[r]=>match r.d with
  |.iU ks _=>match Ge ks with
   |some xs=>if xs.length<=lim then .ok (.new xs true)else .stuck
   |none=>.stuck
  |_=>iu [r]
 |_=>.stuck
def sn(r0 r1 r2:R):Res R:=match r1,r2 with
 |.new d1 _,.new d2 _=>if r0.d.flat/\D.aY d1=true/\D.aY d2=true then .ok (.gd (.tup [r0.d,.lst d1,.lst d2]))else .stuck
 |_,_=>.stuck
def L0(f0 f1 f2:En->Res R):En->Res R:=λenv=>(f0 env).bind λr0=>(f1 env).bind λr1=>(f2 env).bind λr2=>sn r0 r1 r2
def Jq(h0:PD X E e0 f0)(h1:PD X E e1 f1)(h2:PD X E e2 f2)(hs0:autoParam (starEach [e0,e1,e2] X.env=(false,eval e0 X.env)::starEach [e1,e2] X.env) SN)(hs1:autoParam (starEach [e1,e2] X.env=(false,eval e1 X.env)::starEach [e2] X.env) SN)(hs2:autoParam (starEach [e2] X.env=(false,eval e2 X.env)::starEach [] X.env) SN):PD X E (.Tuple [e0,e1,e2] k pos) (L0 f0 f1 f2):=by
 obtain⟨t0,p0,s0⟩:=h0;obtain⟨t1,p1,s1⟩:=h1;obtain⟨t2,p2,s2⟩:=h2;refine⟨_,eV (af p0 (af p1 (af p2 ax hs2) hs1) hs0),λg M ρ env σ H Q rep p=>?_⟩;have p:PostE X.mg E g M ρ env σ H Q ((f0 env).bind λr0=>(f1 env).bind λr1=>(f2 env).bind λr2=>sn r0 r1 r2):=p;refine s0.jA rep p λr0 v0 M0 H0 x0 rep0 i0 q0=>?_;refine s1 g M0 ρ env σ H0 _ rep0 ?_;cases e1':f1 env with
 |stuck=>rw[e1']at q0;exact q0
 |exc c=>rw[e1']at q0;exact q0
 |ok r1=>
  rw[e1']at q0;intro v1 M1 H1 x1 rep1 ro1;refine s2 g M1 ρ env σ H1 _ rep1 ?_;simp only[Res.eS]at q0;cases e2':f2 env with
  |stuck=>rw[e2']at q0;exact q0
  |exc c=>rw[e2']at q0;exact q0
  |ok r2=>
   rw[e2']at q0;simp only[Res.eS]at q0;intro v2 M2 H2 x2 rep2 ro2;unfold sn at q0;cases r1 with
   |val d fr al=>exact q0.elim
   |gd d=>exact q0.elim
   |new d1 fr1=>
    cases r2 with
    |val d fr al=>exact q0.elim
    |gd d=>exact q0.elim
    |new d2 fr2=>
     dsimp only at q0;by_cases hc:r0.d.flat=true/\D.aY d1=true/\D.aY d2=true
     .rw[Ow hc]at q0;obtain⟨c0,c1,c2⟩:=hc;obtain⟨a1,w1,rfl,g1,g2,g3,g4,g5⟩:=ro1;obtain⟨a2,w2,rfl,k1,k2,k3,k4,k5⟩:=ro2;refine⟨by show 3<=sizeLine;decide,λb hb=>?_⟩;have sb:Same H2 (upd H2 b (.tup [v0,.ref a1,.ref a2])):=ai hb;have g1':H2 a1=some (.lst w1):=x2.h _ _ g1;have nm1:¬M2 a1:=λz=>(x2.n a1 z).elim g2 λw=>by grind
      have g3':H0 a1=none:=g3;have k3':H1 a2=none:=k3;have n12:a1≠a2:=λe=>by grind
      refine q0 (.ref b) M2 _ ((x1.trans x2).trans ⟨λ_ z=>z,sb,λ_ z=>.inl z⟩) (rep2.grow sb) ⟨λa=>a=a1\/a=a2,λa z=>?_,b,_,rfl,ac,v0,_,rfl,Is.flat c0 ((((i0.same x1.h).same x2.h)).same sb),.ref a1,_,rfl,⟨a1,w1,rfl,.inl ⟨sb _ _ g1',.inl rfl⟩,IsAll.flat c1 ((g5.same x2.h).same sb)⟩,.ref a2,_,rfl,⟨a2,w2,rfl,.inl ⟨sb _ _ k1,.inr rfl⟩,IsAll.flat c2 (k5.same sb)⟩,rfl⟩;rcases z with rfl|rfl
      .exact⟨nm1,g3',⟨_,sb _ _ g1',True.intro⟩,g4⟩
      .exact⟨k2,x1.h.free k3',⟨_,sb _ _ k1,True.intro⟩,k4⟩
     .rw[Ox hc]at q0;exact q0.elim
def mq(i:Nat)(f:En->Res R):En->Res Fl:=λenv=>(f env).bind λr=>if i<env.length then .ok (.nx ((aV env r.al).set i (some (.val r.d r.fr))))else .stuck
def gM(hN:X.N.Nodup)(hi:X.N[i]?=some x)(hx:E7 X.env.scope x)(h:PD X E e f)(hs:autoParam (swapsWith e (some (.Name x pos')) pos.line X.env=pure false) SN)
 (hf:autoParam (X.fn x=true\/X.env.scope.names.lookup x=some .local) SL):Bt X E (.Assign [.Name x pos'] e pos) (mq i f):=by
 obtain⟨t,p1,s1⟩:=h;refine⟨_,bC hN hi hx p1 hs hf,λg M ρ env σ H D rep p=>?_⟩;refine s1.yn rep p λr v M' H' e rep' ro p'=>?_;by_cases hi:i<env.length
 .rw[Ow hi]at p';obtain⟨M2,x2,x2m,rep2,is2⟩:=ro.is rep' e rep.same;obtain⟨M3,ρ3,x3,rep3,o3,_,_⟩:=Rep.aV r.al rep2;have rep4:=rep3.put (i:=i) (sl:=.val r.d r.fr) (T:=λ_=>False) (by rw[pV];exact hi) (Is.frozen rep2 x3 o3 is2) (λ_ z=>z.elim) λ_ z=>z.elim;exact p' _ M3 _ H' ⟨λa z=>x3 a (x2m a z),λ_ _ q _=>q⟩ rep4
 .rw[Ox hi]at p';exact p'.elim
def vT:List R->Res R
 |[r]=>match r.d with
  |.lst ds=>match gI ds with
   |some ns=>if ns.isEmpty then .stuck else .ok (.val (.int (rL ns)) true [])
   |none=>.stuck
  |_=>.stuck
 |rs=>CN rs
def CU(hc:X.calm=true):gD X E (.builtin "min") vT:=by
 obtain⟨r0,c0,s0⟩:=Gb (X:=X) (E:=E) hc;refine⟨λxs H Q=>(∃p ns,xs=[.ref p]/\SqL X.K H p (ns.map V.int)/\ns≠[]/\Q (.int (rL ns)) H)\/r0 xs H Q,λaa s σ H xs us Q I r h=>h.elim (xj hc aa s σ H xs us Q I r) (c0 aa s σ H xs us Q I r),λg M ρ env σ H Q rs vs rep i p=>?_⟩
 match rs,i,p with
 |[r],i,p=>
  left;unfold vT at p;dsimp only at p;obtain⟨v,w,rfl,i1,i2⟩:=i;cases i2;have i1:Is H (vmsk g M (bc [r]) ρ (bM [r])) r.d v:=i1;cases q:r.d with
  |lst ds=>
   rw[q]at p i1;dsimp only at p;obtain⟨a,ws,rfl,h1,h2⟩:=i1.rd;cases qi:gI ds with
   |none=>rw[qi]at p;exact p.elim
   |some ns=>
    rw[qi]at p;dsimp only at p;by_cases hn:ns.isEmpty=true
    .rw[Ow hn]at p;exact p.elim
    .rw[Ox hn]at p;have ew:ws=ns.map V.int:=by rw[h2.ints qi];unfold iK;rw[OP];rfl
     rw[ew]at h1;exact⟨a,ns,rfl,.inl h1,λz=>hn (by rw[z];rfl),p _ M H (Ext.refl _ _) rep rfl⟩
  |_=>rw[q]at p;exact p.elim
 |[],i,p=>exact .inr (s0 g M ρ env σ H Q [] vs rep i p)
 |r::r'::rs',i,p=>exact .inr (s0 g M ρ env σ H Q (r::r'::rs') vs rep i p)
def qv(i:Nat)(hN:autoParam (X.N[i]?=some x) SN)(hv:autoParam (K9 X.env.scope x) SH._auto_1)(hd:autoParam (dB x) ab)
 (hc:autoParam ((x==("__classdict__" : Str))=false) ab):PD X E (.Name x pos) (am i):=FR (pv i hN hv hd hc)
end
end L3
namespace L3
open PySem PySem.Spec PyProof.Rows L2
section
def vU(a b:Str):Prop:=0<b.length/\a.length<=100000/\(Txt.split a b).length<=100000/\(Builtin.Str.partsBetween a (Builtin.Str.occurrences a b 0 a.length (a.length+1)) b.length).length<=100000
instance (a b:Str):Decidable (vU a b):=by unfold vU;infer_instance
end
mutual
noncomputable def KtIs(K:SB):D->V->Prop
 |.str x,v=>v=.str x
 |.tup ds,v=>∃a vs,v=.ref a/\(∃p∈K,BH p.2=some (a,vs))/\KtAll K ds vs
 |_,_=>False
noncomputable def KtAll(K:SB):List D->List V->Prop
 |[],vs=>vs=[]
 |d::ds,vs=>∃v r,vs=v::r/\KtIs K d v/\KtAll K ds r
end
section
variable{K:SB}{H:Hp}{m:Addr->Prop}
mutual
theorem KtIs.is(kt:IB K H):∀{d:D}{v:V},KtIs K d v->Is H m d v
 |.str _,_,h=>h
 |.tup ds,_,h=>by obtain⟨a,vs,e,⟨p,hp,hk⟩,r⟩:=h;exact⟨a,vs,e,kt p hp a vs hk,KtAll.is kt r⟩
 |.ba,_,h=>h.elim
 |.bl _,_,h=>h.elim
 |.int _,_,h=>h.elim
 |.lst _,_,h=>h.elim
 |.iU _ _,_,h=>h.elim
theorem KtAll.is(kt:IB K H):∀{ds:List D}{vs:List V},KtAll K ds vs->IsAll H m ds vs
 |[],_,h=>h
 |d::ds,_,h=>by obtain⟨v,r,e,h1,h2⟩:=h;exact⟨v,r,e,KtIs.is kt h1,KtAll.is kt h2⟩
end
end
open Classical in
section
def dH{kvs:List (aG×V)}(h:aL kvs k=none):bp kvs k y=kvs++[(k,y)]:=by unfold bp;rw[gv,h,Ox (by simp)]
end
section
open Classical in
end
noncomputable def mr(k:Int):List Int->List Int
 |[]=>[k]
 |h::t=>if k=h then h::t else if k<h then k::h::t else h::mr k t
def aD:List Int->List Int
 |[]=>[]
 |k::ks=>mr k (aD ks)
def Ac(r:R):Res R:=match r.d with
 |.lst ds=>match gI ds with
  |some is=>if is.length<=63 then .ok (.new ((aD is).map .int) true)else .stuck
  |none=>.stuck
 |_=>.stuck
def CV(f:En->Res R):En->Res R:=λenv=>(f env).bind Ac
theorem mw(k x:Int):∀l,x∈mr k l↔x=k\/x∈l
 |[]=>by simp[mr]
 |h::t=>by
  unfold mr;split
  .rename_i e;subst e;simp
  .split
   .simp
   .rw[OE,mw k x t,OE]
    grind
theorem vV(k:Int):∀l:List Int,l.Pairwise (·< ·)->(mr k l).Pairwise (·< ·)
 |[],_=>by simp[mr]
 |h::t,p=>by
  have p':=Pq.mp p;unfold mr;split
  .exact p
  .split
   .rename_i h1 h2;refine Pq.mpr ⟨λx hx=>?_,p⟩
    grind
   .rename_i h1 h2;refine Pq.mpr ⟨λx hx=>?_,vV k t p'.2⟩
    grind [mw]
theorem cQ(x:Int):∀ks,x∈aD ks↔x∈ks
 |[]=>Iff.rfl
 |k::ks=>by unfold aD;rw[mw,cQ x ks,OE]
theorem jf:∀ks,(aD ks).Pairwise (·< ·)
 |[]=>List.Pairwise.nil
 |k::ks=>by unfold aD;exact vV k _ (jf ks)
theorem gO:∀(a b:List Int),a.Pairwise (·< ·)->b.Pairwise (·< ·)->(∀x,x∈a↔x∈b)->a=b
 |[],[],_,_,_=>rfl
 |[],y::b,_,_,h=>by have:=(h y).mpr (by simp);cases this
 |x::a,[],_,_,h=>by have:=(h x).mp (by simp);cases this
 |x::a,y::b,pa,pb,h=>by
  have pa':=Pq.mp pa;have pb':=Pq.mp pb;have e:x=y:=by
   have h1:=(h x).mp (by simp);have h2:=(h y).mpr (by simp)
   grind
  subst e;rw[gO a b pa'.2 pb'.2 λz=>?_]
  grind
section
def nI(hc:X.calm=true)(h:PD X E e f)
 (hg1:Gl X x1) (hm1:X.mg x1=none) (hv1:bootBuiltins x1=some (.builtin "sorted")) (hg2:Gl X x2) (hm2:X.mg x2=none) (hv2:bootBuiltins x2=some (.type "set"))
 (hn1:autoParam (x1≠"__name__") ab) (hdb1:autoParam (dB x1) ab) (hn2:autoParam (x2≠"__name__") ab) (hdb2:autoParam (dB x2) ab)
 (he2:autoParam (starEach [e] X.env=(false,eval e X.env)::starEach [] X.env) SN) (hpl2:autoParam (bT X pos2 []) SN)
 (he1:autoParam (starEach [.Call (.Name x2 p2) [e] [] pos2] X.env=(false,eval (.Call (.Name x2 p2) [e] [] pos2) X.env)::starEach [] X.env) SN) (hpl1:autoParam (bT X pos1 []) SN) :
 PD X E (.Call (.Name x1 p1) [.Call (.Name x2 p2) [e] [] pos2] [] pos1) (CV f):=by
 obtain⟨t,p1,s1⟩:=h;refine⟨_,bo (nB hc) hg1 hm1 hv1 (af (g6 (uw hc) hg2 hm2 hv2 (af p1 ax he2) hn2 hdb2 he2 hpl2) ax he1) hn1 hdb1 he1 hpl1,λg M ρ env σ H Q rep p=>?_⟩;refine s1.jA rep p λr v M1 H1 e1 rep1 i1 q1=>?_;unfold Ac at q1;cases qd:r.d with
 |lst ds=>
  rw[qd]at q1 i1;dsimp only at q1;cases qt:gI ds with
  |none=>rw[qt]at q1;exact q1.elim
  |some is=>
   rw[qt]at q1;dsimp only at q1;by_cases hl:is.length<=63
   .rw[Ow hl]at q1;obtain⟨a,vs,rfl,h1,h2⟩:=i1.rd;have hv:vs=is.map V.int:=by rw[IsAll.ints h2 qt];unfold iK;rw[OP];rfl
    rw[hv]at h1;refine⟨a,is,rfl,h1,by lia,λb es its hb ei v=>?_⟩;rw[<- ei,Ov]at hl;refine⟨b,es,its,rfl,ac,v,hl,λl ks hl2 hm hw=>?_⟩;rw[ei]at hm;have hlb:l≠b:=λz=>by rw[z,ac]at hl2;cases hl2
    have hl1:H1 l=none:=by rw[ah hlb]at hl2;exact hl2
    have sm1:Same H1 (upd H1 b (.ext λh=>SetAt X.w h b es)):=ai hb;have sm2:Same (upd H1 b (.ext λh=>SetAt X.w h b es)) (upd (upd H1 b (.ext λh=>SetAt X.w h b es)) l (.lst (ks.map V.int))):=ai hl2;have sm:=sm1.trans sm2;obtain⟨z0,zm,zo⟩:=rep1.free hl1;refine q1 _ M1 _ ⟨λ_ z=>z,sm,λ_ z=>.inl z⟩ (rep1.grow sm) ⟨l,_,rfl,ac,zm,hl1,zo,?_⟩
    grind [aD,gO,jf,cQ,iL]
   .rw[Ox hl]at q1;exact q1.elim
 |_=>rw[qd]at q1;exact q1.elim
end
noncomputable abbrev IP:=Int×Int
noncomputable def dp(l:List IP)(x:IP):List IP:=if x∈l then l else l++[x]
def h1(ts:List iN):List IP:=(ts.map λt=>(t.1,t.2.1)).foldl dp []
end L3
namespace L3
open PySem PySem.Spec PyProof.Rows L2
def Gf{K KK:SB}{mg:Str->Option SD}{x:Str}{st:Stmt}{ps:List Str}{f:Addr}{oc:SD}{od an:Option Addr}{osl:Array (Option SD)}{kV doc pm cdv ct:SD}(U:tq K KK)
 (l:K.lookup f=some ⟨oc,od,.func (fnOf x x (cv st) (bX st) (aw st) .none kV doc pm an cdv ct),osl⟩) (c:codeIn K cdv x=true) (g:mg x=some (.ref f))
 (h:∀(kV doc pm:SD)(an:Option Addr)(cdv ct:SD)(us:List SD),us.length=ps.length->bindArgs (fnOf x x (cv st) (bX st) (aw st) .none kV doc pm an cdv ct) ⟨us,[]⟩=pure (ps.zip us)) :
 Fn KK mg x st ps f (fnOf x x (cv st) (bX st) (aw st) .none kV doc pm an cdv ct):=
 have F:Bw KK x x st f _:=yP (U.look _ _ l (λ_ _ z=>nomatch z)) (U.code c) (U.keep l)
 ⟨F,F.binds h,g⟩
section
def bL{st:Stmt}(G:bu X.prog X.w X.K X.mg X.base CX k f fd ps (m_ X.mg ps.length F))(hr:cI k X.A)(hg:Gl X x)(h:Fn X.K X.mg x st ps f fd)(hx:eY CX X E)
 (ha:Bs X E (e::es) fs) (hl:∀env rs,fs env=.ok rs->rs.length=ps.length) (hdb:autoParam (dB x) ab) (he:autoParam (sE X e es) SN) (hpl:autoParam (bT X pos es) SN) :
 PD X E (.Call (.Name x p) (e::es) [] pos) (cL F fs):=CD G hr hg h.gl h.fu.kp h.bi hx ha hl hdb he hpl
end
def xJ{X:Cx}{E:XK}{st:Stmt}:Bt X E st (λ_=>.stuck):=⟨λ_ _ _=>False,λ_ _ _ _ _ _ h=>h.elim,λ_ _ _ _ _ _ _ _ p=>p⟩
end L3
namespace Pz
section
variable{κ α:Type}[DecidableEq κ]
noncomputable abbrev MD(κ α:Type):=List (κ×List α)
def MD.get(d:MD κ α)(k:κ):List α:=((d.find? λx=>decide (x.1=k)).map (·.2)).getD []
def MD.has(d:MD κ α)(k:κ):Bool:=d.any λx=>decide (x.1=k)
def MD.app(d:MD κ α)(k:κ)(v:α):MD κ α:=if d.has k then d.map (λx=>if x.1=k then(x.1,x.2++[v])else x)else d++[(k,[v])]
def MD.drop(d:MD κ α)(k:κ):MD κ α:=d.filter λx=>decide (x.1≠k)
def MD.flat(d:MD κ α):List α:=d.flatMap (·.2)
abbrev MD.keys(d:MD κ α):List κ:=d.map (·.1)
structure MD.Ok(d:MD κ α):Prop where
 nk:d.keys.Nodup
 ne:∀x∈d,x.2≠[]
theorem get_cons(x:κ×List α)(d:MD κ α)(k:κ):MD.get (x::d) k=if x.1=k then x.2 else MD.get d k:=by grind [MD.get]
def has_iff{d:MD κ α}{k:κ}:d.has k=true↔k∈d.keys:=by
 unfold MD.has
 grind
def get_none{d:MD κ α}{k:κ}(h:k∉d.keys):d.get k=[]:=by
 induction d with
 |nil=>rfl
 |cons x r ih=>grind [get_cons]
def kH{d:MD κ α}{k:κ}{l:List α}(h:k∉d.keys):MD.get (d++[(k,l)]) k=l:=by
 grind [MD.get]
def nJ{d:MD κ α}{k k':κ}{l:List α}(h:k≠k'):MD.get (d++[(k,l)]) k'=d.get k':=by
 grind [MD.get]
def p7{d:MD κ α}{k:κ}{v:α}(h:k∈d.keys):MD.get (d.map (λx=>if x.1=k then(x.1,x.2++[v])else x)) k=d.get k++[v]:=by
 induction d with
 |nil=>cases h
 |cons x r ih=>
  rw[OH,get_cons,get_cons];by_cases e:x.1=k
  .rw[Ow e,Ow (show x.1=k from e),Ow e]
  .rw[Ox e,Ox e,Ox e];rcases OE.mp h with q|q
   .exact(e q.symm).elim
   .exact ih q
def uM{d:MD κ α}{k k':κ}{v:α}(h:k≠k'):MD.get (d.map (λx=>if x.1=k then(x.1,x.2++[v])else x)) k'=d.get k':=by
 induction d with
 |nil=>rfl
 |cons x r ih=>grind [get_cons]
def bH(d:MD κ α)(k:κ)(v:α)(k':κ):(d.app k v).get k'=if k=k' then d.get k++[v]else d.get k':=by
 unfold MD.app;by_cases h:k∈d.keys
 .rw[Ow (has_iff.mpr h)];by_cases e:k=k'
  .subst e;rw[Ow rfl,p7 h]
  .rw[Ox e,uM e]
 .rw[Ox (λq=>h (has_iff.mp q))];by_cases e:k=k'
  .subst e;rw[Ow rfl,kH h,get_none h];rfl
  .rw[Ox e,nJ e]
end
end Pz
namespace Pz
noncomputable def lo:List Int->Int
 |[]=>0
 |x::r=>r.foldl (λa b=>if b<a then b else a) x
structure M8(pile:Int->Int->Int):Prop where
 nn:∀{p l:Int},0<=p->0<=l->0<=pile p l
 ch:∀{p l:Int},0<=p->0<=l->∀k:Nat,pile p l<=k↔p/2^k=l/2^k
section
variable(P:M8 pile)
include P
end
section
variable{α:Type}
abbrev Q(α:Type):=MD Int (Int×α)
structure Oq(pile:Int->Int->Int) (last:Int) (d:Q α):Prop where
 ok:d.Ok
 l0:0<=last
 at_:∀x∈d,∀y∈x.2,x.1=pile y.1 last/\last<=y.1
def Gg(pile:Int->Int->Int)(last:Int)(d:Q α)(l:List (Int×α)):Q α:=l.foldl (λd x=>d.app (pile x.1 last) x) d
def Gh(d:Q α):Int:=lo d.keys
def L1(d:Q α):Int:=lo ((d.get (Gh d)).map (·.1))
def mid(pile:Int->Int->Int)(d:Q α):Q α:=Gg pile (L1 d) (d.drop (Gh d)) (d.get (Gh d))
end
end Pz
namespace Pz
noncomputable abbrev Arr:=Int×Int×Int
noncomputable abbrev Rule:=Int×Int×Int×List Int
noncomputable abbrev Lp:=Int×Option Int×Option Int
abbrev TD:=List (Arr×Lp)
noncomputable def p8(t:TD)(a:Arr):Option Lp:=(t.find? λx=>decide (x.1=a)).map (·.2)
def tput(t:TD)(a:Arr)(v:Lp):TD:=if(p8 t a).isSome then t.map (λx=>if x.1=a then(x.1,v)else x)else t++[(a,v)]
structure PS where
 told:TD
 last:Int
 m8:Q Arr
 settled:MD (Int×Int) (Int×Int)
 wC:MD (Int×Int) (Int×Rule×Int)
abbrev RS:=MD (Int×Int) (Int×Rule)
section
variable(pile:Int->Int->Int)
def takes(S:PS)(a:Arr)(p:Int):Bool:=match p8 S.told a with
 |none=>true
 |some v=>decide (p<v.1)
def Gi(S:PS)(a:Arr)(p:Int)(n m:Option Int):PS:={S with told:=tput S.told a (p,n,m),m8:=S.m8.app (pile p S.last) (p,a)}
def Jr(S:PS)(a:Arr)(p:Int)(n m:Option Int):PS:=if takes S a p then Gi pile S a p n m else S
def nth1(l:List Int):Int:=l[1]?.getD 0
def L5(S:PS)(num:Int)(r:Rule)(mid price:Int):PS:={S with wC:=S.wC.app (mid,nth1 r.2.2.2) (num,r,price)}
def first(S:PS)(num:Int)(r:Rule)(mid price:Int):PS:=(S.settled.get (mid,nth1 r.2.2.2)).foldl (λS x=>Jr pile S (r.1,r.2.1,x.1) (price+x.2+1) (some num) (some mid)) (L5 S num r mid price)
end
noncomputable def L:Nat:=16000000
end Pz
namespace Pz
def Sd(S:PS)(a:Arr)(q:Int):Prop:=(a.2.2,q)∈S.settled.get (a.1,a.2.1)
def dA(S:PS)(a:Arr)(p:Int):Prop:=∃v,p8 S.told a=some v/\v.1<=p
def Js(sd:Arr->Int->Prop)(c:Int)(put:List Int)(t p:Int)(m:Option Int):Prop:=match put with
 |[]=>m=none/\p=1/\t=c
 |[x]=>m=none/\∃q,sd (c,x,t) q/\p=q+1
 |[x,y]=>∃d q1 q2,m=some d/\sd (c,x,d) q1/\sd (d,y,t) q2/\p=q1+q2+1
 |_=>False
section
variable(RL:List Rule)(M:List Arr)
def L6(sd:Arr->Int->Prop)(a:Arr)(v:Lp):Prop:=match v.2.1 with
 |none=>v.2.2=none/\v.1=0/\a∈M
 |some i=>∃(j:Nat)(r:Rule),i=j/\RL[j]?=some r/\a.1=r.1/\a.2.1=r.2.1/\Js sd r.2.2.1 r.2.2.2 a.2.2 v.1 v.2.2
structure B(pile:Int->Int->Int) (U:List Arr) (S:PS) (rest:List (Int×Arr)):Prop where
 q:Oq pile S.last S.m8
 nd:S.m8.flat.Nodup
 nr:rest.Nodup
 tk:(S.told.map (·.1)).Nodup
 tu:∀a v,p8 S.told a=some v->a∈U
 ju:∀a v,p8 S.told a=some v->L6 RL M (Sd S) a v
 ps:∀a v,p8 S.told a=some v->0<=v.1
 sd:∀a p,Sd S a p->p<=S.last/\∃v,p8 S.told a=some v/\v.1=p
 sp:∀a v,p8 S.told a=some v->Sd S a v.1\/(v.1,a)∈S.m8.flat\/(v.1,a)∈rest
 it:∀p a,(p,a)∈S.m8.flat\/(p,a)∈rest->dA S a p
 ns:∀p a,(p,a)∈S.m8.flat\/(p,a)∈rest->¬Sd S a p
 m0:∀a v,p8 S.told a=some v->a∈M->v=(0,none,none)
end
end Pz
namespace Pz
noncomputable def en:List Rule->Nat->List (Int×Rule)
 |[],_=>[]
 |r::l,k=>((k:Int),r)::en l (k+1)
def byOne(d:RS)(x:Int×Rule):RS:=if x.2.2.2.2.length>0 then d.app (x.2.2.2.1,x.2.2.2.2[0]?.getD 0) x else d
variable(pile:Int->Int->Int)
variable{pile}
end Pz
namespace L4
open PySem PySem.Spec PyProof.Rows L2 L3
section
variable{κ:Type}[DecidableEq κ]
noncomputable abbrev DX(κ:Type):=List (κ×Addr×List V)
end
def Reads(t:TE)(σ:L2.St)(H:Hp)(v:V):Prop:=∀Q:VK,Q v H->t σ H Q
def Makes(t:TE)(σ:L2.St)(H:Hp)(ws:List V):Prop:=∀Q:VK,(∀p,H p=none->Q (.ref p) (upd H p (.tup ws)))->t σ H Q
section
variable{K:SB}
def Reads.va(h:σ[i]?=some (some v)):Reads (tVar i) σ H v:=λ_ q=>⟨_,h,q⟩
def Reads.k:Reads (tC v) σ H v:=λ_ q=>q
def Reads.op(ha:Reads ta σ H x)(hb:Reads tb σ H y)(h:∀Q:VK,Q z H->r x y H Q):Reads (nT r ta tb) σ H z:=λQ q=>ha _ (hb _ (h Q q))
def Reads.ix(h:Reads ta σ H (.ref b))(hs:H b=some (.tup ws))(e:dG ws n=some v):Reads (nT (B1 K) ta (tC (.int n))) σ H v:=h.op .k λ_ q=>⟨b,ws,n,v,rfl,rfl,SqT.of hs,e,q⟩
def Reads.fld(h:Reads ta σ H (.ref o))(hi:∃dx,H o=some (.ins C dx fs))(cl:tJ K C)(n:NoAttr K C f)(hl:fs.lookup f=some v):Reads (fm K ta f) σ H v:=λQ q=>by obtain⟨dx,hi⟩:=hi;exact h _ ⟨o,C,dx,_,_,rfl,hi,cl,n,hl,q⟩
def ReadsA(t:TA)(σ:L2.St)(H:Hp)(vs:List V):Prop:=∀Q:List V->Hp->Prop,Q vs H->t σ H Q
def ReadsA.ni:ReadsA tNil σ H []:=λ_ q=>q
def ReadsA.c(h:Reads ta σ H v)(k:ReadsA tr σ H vs):ReadsA (tCons ta tr) σ H (v::vs):=λ_ q=>h _ (k _ q)
def Makes.t(h:ReadsA tr σ H ws)(l:Nat.ble ws.length 9=true):Makes (ib tr) σ H ws:=λ_ q=>h _ ⟨O3 (Nat.le_of_ble_eq_true l) (by decide),q⟩
def uN(h:ReadsA tr σ H ws)(l:Nat.ble ws.length 9=true)(k:∀p,H p=none->Q (.ref p) (upd H p (.tup ws))):ib tr σ H Q:=Makes.t h l _ k
def xK(h:Reads ta σ H (.ref b))(hi:∃dx,H b=some (.ins C dx fs))(hl:fs.lookup m=none)(ha:ReadsA tr σ H vs)(k:sp (.ref b::(vs++dvs)) H Q E):dF C m sp dvs E ta tr σ H Q:=by obtain⟨dx,hi⟩:=hi;exact h _ ⟨b,dx,fs,rfl,hi,hl,ha _ k⟩
def NM{Q:L2.St->Hp->Prop}(ht:H b=some (.tup [v,w]))(k:Q ((σ.set i (some v)).set j (some w)) H):tP K 2 (c_ (gName i) (c_ (gName j) tO)) (.ref b) σ H Q:=⟨b,_,rfl,SqT.of ht,rfl,_,_,rfl,_,_,rfl,rfl,k⟩
def sq{t u:TS}{D:Ends}(h:Reads te σ H (.bl c))(k1:c=true->t D σ H)(k2:¬c=true->u D σ H):tM (lD te) t u D σ H:=h _ ⟨_,rfl,LN k1 k2⟩
end
end L4
namespace L4
open PySem PySem.Spec PyProof.Rows L2 L3
inductive bV{α β:Type} (R:α->β->Prop):List α->List β->Prop where
 |nil:bV R [] []
 |cons {x y xs ys}:R x y->bV R xs ys->bV R (x::xs) (y::ys)
section
variable{α β:Type}{R R':α->β->Prop}
def bV.len(h:bV R xs ys):xs.length=ys.length:=by
 induction h with
 |nil=>rfl
 |cons _ _ ih=>rw[OV,OV,ih]
def bV.mono(f:∀x y,R x y->R' x y)(h:bV R xs ys):bV R' xs ys:=by
 induction h with
 |nil=>exact .nil
 |cons a _ ih=>exact .cons (f _ _ a) ih
def bV.snoc(h:bV R xs ys)(r:R x y):bV R (xs++[x]) (ys++[y]):=by
 induction h with
 |nil=>exact .cons r .nil
 |cons a _ ih=>exact .cons a ih
theorem bV.get(h:bV R xs ys){i:Nat}(e:ys[i]?=some y):∃x,xs[i]?=some x/\R x y:=by
 induction h generalizing i with
 |nil=>simp at e
 |cons a _ ih=>
  cases i with
  |zero=>simp at e;subst e;exact⟨_,rfl,a⟩
  |succ i=>simp at e;obtain⟨x,e1,e2⟩:=ih e;exact⟨x,by simpa using e1,e2⟩
def bV.Nh{γ δ:Type}{T:γ->δ->Prop}(f:α->γ)(g:β->δ)(k:∀x y,R x y->T (f x) (g y))(h:bV R xs ys):bV T (xs.map f) (ys.map g):=by
 induction h with
 |nil=>exact .nil
 |cons a _ ih=>exact .cons (k _ _ a) ih
end
def KT(H H':Hp):Prop:=∀a ws,H a=some (.tup ws)->H' a=some (.tup ws)
noncomputable def sr(a:Pz.Arr):List V:=[.int a.1,.int a.2.1,.int a.2.2]
def IsArr(H:Hp)(a:Pz.Arr)(v:V):Prop:=∃p,v=.ref p/\H p=some (.tup (sr a))
def IsRule(H:Hp)(r:Pz.Rule)(v:V):Prop:=∃p q,v=.ref p/\H p=some (.tup [.int r.1,.int r.2.1,.int r.2.2.1,.ref q])/\H q=some (.tup (r.2.2.2.map .int))
section
variable(k:KT H H')
include k
def IsArr.keep(a:Pz.Arr)(v:V):IsArr H a v->IsArr H' a v:=λ⟨p,e,h⟩=>⟨p,e,k _ _ h⟩
def IsRule.keep(a:Pz.Rule)(v:V):IsRule H a v->IsRule H' a v:=λ⟨p,q,e,h,g⟩=>⟨p,q,e,k _ _ h,k _ _ g⟩
end
noncomputable def k2(k:Int×Int):List aG:=[.inl k.1,.inl k.2]
def uO(a b:Int×Int)(h:k2 a=k2 b):a=b:=by grind [k2]
noncomputable def k1(i:Int):aG:=.inl i
structure PA where
 o:Addr
 ta:Addr
 aq:Addr
 ap:Addr
 sa:Addr
 la:Addr
 ar:Addr
noncomputable def pf(A:PA):List (Str×V):=[("rules",.ref A.ar),("told",.ref A.ta),("offers",.ref A.aq),("settled",.ref A.sa),("lacking",.ref A.la)]
section
variable{H:Hp}
def CW(s:Same H H'):KT H H':=λa ws e=>s a _ e
end
section
variable{K:SB}{H:Hp}{xs:DX (List aG)}
def Wk(J:L2.It)(g:TG)(tb:TS)(D:Ends)(σ:L2.St)(H:Hp):Prop:=∃W:Nat->Nat->L2.St->Hp->Prop,(∃m,W 0 m σ H)/\∀i m σ H,W i m σ H->
 (J.stop i H/\D.nx σ H)\/(J.go i H/\∃N:L2.St->Hp->Prop,(∀σ' H',N σ' H'->∃m',m'<m/\W (i+1) m' σ' H')/\∀x H',J.yx i H x H'->g x σ H' λσ2 H2=>tb {D with nx:=N,ct:=N,bk:=D.nx} σ2 H2)
def jN{tb:TS}{D:Ends}{σ:L2.St}(h:tl σ H λx H1=>∃a,x=.ref a/\(∃xs,SqL K H1 a xs)/\Wk (Bq K a) g tb D σ H1):dD (cu K tl) g tb D σ H:=h
def L7(ht:H b=some (.tup [x,y,z]))(k:Q (((σ.set i (some x)).set j (some y)).set l (some z)) H):tP K 3 (c_ (gName i) (c_ (gName j) (c_ (gName l) tO))) (.ref b) σ H Q:=⟨b,_,rfl,SqT.of ht,rfl,_,_,rfl,_,_,rfl,_,_,rfl,rfl,k⟩
def Ad:R2:=BL λi j=>.int (i+j)
theorem Reads.add(h:Reads ta σ H (.int i))(h':Reads tb σ H (.int j)):Reads (nT Ad ta tb) σ H (.int (i+j)):=h.op h' λ_ q=>⟨i,j,rfl,rfl,q⟩
end
section
variable{K:SB}
def vW(K:SB):List V->Hp->VK->Prop:=λxs H Q=>∃p ys,xs=[.ref p]/\(SqL K H p ys\/SqT K H p ys)/\Q (.int ys.length) H
def oK:CallR X (.builtin "len") (vW X.K):=call_len_seq
abbrev tI(K:SB)(i:Nat)(n:Int):TE:=nT (B1 K) (tVar i) (tC (.int n))
def Reads.len(h:Reads ta σ H (.ref q))(hq:H q=some (.tup ws)):Reads (tCB (vW K) (tCons ta tNil)) σ H (.int ws.length):=λ_ k=>h _ ⟨q,ws,rfl,.inr (SqT.of hq),k⟩
def Reads.NB(h:Reads ta σ H (.int m))(h':Reads tb σ H (.int n)):Reads (nT Lb ta tb) σ H (.bl (decide (m=n))):=h.op h' λ_ q=>⟨rfl,by rw[show decide (V.int m=V.int n)=decide (m=n)from decide_eq_decide.mpr ⟨λe=>by injection e,λe=>by rw[e]⟩];exact q⟩
end
section
variable{H:Hp}
structure h_(H:Hp) (RL:List Pz.Rule) (p l:Addr) (vs:List V):Prop where
 tup:∃w0 w1,H p=some (.tup [w0,w1,.ref l])
 lst:Rd H l (.lst vs)
 its:bV (IsRule H) RL vs
def bg(s:Same H H')(h:Rd H a u):Rd H' a u:=h.imp (s a _) λ⟨o,e⟩=>⟨o,s a _ e⟩
def h_.same(h:h_ H RL p l vs)(s:Same H H'):h_ H' RL p l vs:=⟨let ⟨w0,w1,e⟩:=h.tup;⟨w0,w1,s _ _ e⟩,bg s h.lst,h.its.mono (IsRule.keep (CW s))⟩
end
noncomputable def xL(a:Pz.Arr):D:=.tup [.int a.1,.int a.2.1,.int a.2.2]
noncomputable def oM(r:Pz.Rule):D:=.tup [.int r.1,.int r.2.1,.int r.2.2.1,.tup (r.2.2.2.map .int)]
open Classical in
theorem jO:∀{ns:List Int}{vs:List V},IsAll H m (ns.map .int) vs->vs=ns.map .int
 |[],vs,h=>h
 |n::ns,vs,h=>by obtain⟨v,r,rfl,h1,h2⟩:=h;rw[jO h2,show v=.int n from h1];rfl
def Gj(h:Is H m (oM r) v):IsRule H r v:=by obtain⟨a,vs,rfl,ha,v0,r0,rfl,e0,v1,r1,rfl,e1,v2,r2,rfl,e2,v3,r3,rfl,⟨q,ws,rfl,hq,hw⟩,rfl⟩:=h;obtain rfl:v0=.int r.1:=e0;obtain rfl:v1=.int r.2.1:=e1;obtain rfl:v2=.int r.2.2.1:=e2;exact⟨a,q,rfl,ha,by rw[hq,jO hw]⟩
def Ex(h:Is H m (xL r) v):IsArr H r v:=by obtain⟨a,vs,rfl,ha,v0,r0,rfl,e0,v1,r1,rfl,e1,v2,r2,rfl,e2,rfl⟩:=h;obtain rfl:v0=.int r.1:=e0;obtain rfl:v1=.int r.2.1:=e1;obtain rfl:v2=.int r.2.2:=e2;exact⟨a,rfl,ha⟩
theorem vX{α:Type}{H:Hp}{m:Addr->Prop}{f:α->D}{it:α->V->Prop}(hf:∀x v,Is H m (f x) v->it x v):∀{xs:List α}{vs:List V},IsAll H m (xs.map f) vs->bV it xs vs
 |[],vs,h=>by cases(show vs=[]from h);exact .nil
 |x::xs,vs,h=>by obtain⟨v,r,rfl,h1,h2⟩:=h;exact .cons (hf x v h1) (vX hf h2)
def mz(h:Is H m (.lst ds) v):∃a vs,v=.ref a/\Rd H a (.lst vs)/\IsAll H m ds vs:=by obtain⟨a,vs,rfl,h1,h2⟩:=h;exact⟨a,vs,rfl,h1.imp And.left λ⟨o,e,_⟩=>⟨o,e⟩,h2⟩
def xM(h:oM r=oM s):r=s:=by
 have im:∀{l m:List Int},l.map D.int=m.map D.int->l=m:=λ{l m} e=>by
  induction l generalizing m with
  |nil=>cases m with
   |nil=>rfl
   |cons _ _=>cases e
  |cons x l ih=>cases m with
   |nil=>cases e
   |cons y m=>rw[OH,OH]at e;injection e with e1 e2;injection e1 with e1;rw[e1,ih e2]
 unfold oM at h;injection h with h;injection h with h0 h;injection h with h1 h;injection h with h2 h;injection h with h3 h;injection h0 with h0;injection h1 with h1;injection h2 with h2;injection h3 with h3;exact Sy h0 (Sy h1 (Sy h2 (im h3)))
def su(h:xL r=xL s):r=s:=by unfold xL at h;injection h with h;injection h with h0 h;injection h with h1 h;injection h with h2 h;injection h0 with h0;injection h1 with h1;injection h2 with h2;exact Sy h0 (Sy h1 h2)
theorem k_{α:Type}{f:α->D}(hf:∀{x y},f x=f y->x=y):∀{l m:List α},l.map f=m.map f->l=m
 |[],[],_=>rfl
 |[],_::_,e=>nomatch e
 |_::_,[],e=>nomatch e
 |x::l,y::m,e=>by rw[OH,OH]at e;injection e with e1 e2;rw[hf e1,k_ hf e2]
structure Mt(K:SB) (C:Addr) (x q:Str) (st:Stmt) (ps:List Str) (f:Addr) (fd:FuncData):Prop where
 fu:Bw K x q st f fd
 bi:Binds K fd ps []
 me:Meth K C x f
def Jt{K:SB}{C:Addr}{x q:Str}{st:Stmt}{ps:List Str}{f:Addr}{oc:SD}{od an:Option Addr}{osl:Array (Option SD)}{kV doc pm cdv ct:SD}
 (l:K.lookup f=some ⟨oc,od,.func (fnOf x q (cv st) (bX st) (aw st) .none kV doc pm an cdv ct),osl⟩) (c:codeIn K cdv q=true) (k:keepIn K (.ref f)=true) (a:findIn K (.ref C) x=some (some (.ref f))) (i:isFn K (.ref f)=true)
 (h:∀(kV doc pm:SD)(an:Option Addr)(cdv ct:SD)(us:List SD),us.length=ps.length->bindArgs (fnOf x q (cv st) (bX st) (aw st) .none kV doc pm an cdv ct) ⟨us,[]⟩=pure (ps.zip us)) :
 Mt K C x q st ps f (fnOf x q (cv st) (bX st) (aw st) .none kV doc pm an cdv ct):=
 have F:Bw K x q st f _:=yP l c k
 ⟨F,F.binds h,a,i,k⟩
def NN{α:Type}{l:List α}(h:l.length=2):∃a b,l=[a,b]:=by rcases l with _|⟨a,_|⟨b,_|_⟩⟩<;>first|(cases h;done)|exact⟨_,_,rfl⟩
def mB(hc:X.calm=true)(S:cn X scope tN capN caps)(hi:PI X tg iter wi)(hs:autoParam (∀x,foldedSetIterable iter X.env x=pure x) SM) :
 PE X (.ListComp elt [⟨tg,iter,ifs,0⟩] scope pos) (kh X scope tg tN capN caps elt ifs wi):=λaa s σ H Q I h=>rW hc S I hi h hs
section
open Classical in
end
def b8{N P:List Str}{sc:Scope}(a:autoParam (sc.kind=.function) SN)(b:autoParam (sc.isCoroutine=false) SN)(c:autoParam (sc.isGenerator=false) SN)(d:N.Nodup:=by decide +kernel)(e:autoParam (N.take P.length=P) SN)
 (f:∀x∈P,sc.names.lookup x=some .local\/sc.names.lookup x=some .cell:=by decide +kernel) (g:∀y∈sc.names,y.2≠.free:=by decide +kernel):aN N P sc:=⟨a,b,c,d,e,f,g⟩
abbrev Im(x q:Str)(st:Stmt)(kV doc pm:SD)(an:Option Addr)(cdv ct:SD):FuncData:=fnOf x q (cv st) (bX st) (aw st) .none kV doc pm an cdv ct
structure Df(K:SB) (mg:Str->Option SD) (x:Str) (st:Stmt) (ps:List Str) where
 f:Addr
 fd:FuncData
 h:Fn K mg x st ps f fd
structure Mf(K:SB) (C:Addr) (x q:Str) (st:Stmt) (ps:List Str) where
 f:Addr
 fd:FuncData
 h:Mt K C x q st ps f fd
section
variable{K KK:SB}{x q:Str}{st:Stmt}{f C:Addr}{oc:SD}{od an:Option Addr}{osl:Array (Option SD)}{kV doc pm cdv ct:SD}
def Lk(K:SB)(x q:Str)(st:Stmt)(f:Addr):Prop:=∃oc od an osl kV doc pm cdv ct,K.lookup f=some ⟨oc,od,.func (Im x q st kV doc pm an cdv ct),osl⟩/\codeIn K cdv q=true
def lk(l:K.lookup f=some ⟨oc,od,.func (Im x q st kV doc pm an cdv ct),osl⟩)(c:codeIn K cdv q=true):Lk K x q st f:=⟨_,_,_,_,_,_,_,_,_,l,c⟩
def FK(K:SB)(x:Str)(st:Stmt):Prop:=∃f,nsIn K mainGlobals x=some (some (.ref f))/\Lk K x x st f
def fk(a:nsIn K mainGlobals x=some (some (.ref f)))(l:K.lookup f=some ⟨oc,od,.func (Im x x st kV doc pm an cdv ct),osl⟩)(c:codeIn K cdv x=true):FK K x st:=⟨_,a,lk l c⟩
structure MK(K:SB) (C:Addr) (x q:Str) (st:Stmt) (f:Addr):Prop where
 a:findIn K (.ref C) x=some (some (.ref f))
 i:isFn K (.ref f)=true
 l:Lk K x q st f
 k:keepIn K (.ref f)=true
def mk(a:findIn K (.ref C) x=some (some (.ref f)))(i:isFn K (.ref f)=true)(l:K.lookup f=some ⟨oc,od,.func (Im x q st kV doc pm an cdv ct),osl⟩)(c:codeIn K cdv q=true)(k:keepIn K (.ref f)=true):MK K C x q st f:=⟨a,i,lk l c,k⟩
structure CK(K KK:SB) (x:Str) (C:Addr):Prop where
 b:nsIn K mainGlobals x=some (some (.ref C))
 pg:plainGet KK C Str.empty=true
 hd:hasDictIn KK C=true
 po:PySem.W.plainOver KK C=true
 sa:findIn KK (.ref C) "__setattr__"=some (some (.builtin "object.__setattr__"))
 m:PySem.W.makesIn KK C=true
 k:keepIn KK (.ref C)=true
def CK.cl(c:CK K KK x C):tJ KK C:=⟨c.pg,c.hd,c.po,c.sa⟩
variable{mg:Str->Option SD}{ps:List Str}{h:Heap}
def df(X:K.In h)(G:h.Ns mainGlobals mg)(U:tq K KK)(k:FK K x st)
 (hb:∀(kV doc pm:SD)(an:Option Addr)(cdv ct:SD)(us:List SD),us.length=ps.length->bindArgs (Im x x st kV doc pm an cdv ct) ⟨us,[]⟩=pure (ps.zip us):=by intro _ _ _ _ _ _ us hl;rcases us with _|⟨_,_|⟨_,_|⟨_,_|⟨_,_|⟨_,_|⟨_,us⟩⟩⟩⟩⟩⟩<;>first|(cases hl;done)|rfl):Nonempty (Df KK mg x st ps):=by
 obtain⟨f,a,oc,od,an,osl,kV,doc,pm,cdv,ct,l,c⟩:=k;exact⟨f,_,Gf U l c (PySem.W.mg_of X G a) hb⟩
def mf(k:MK K C x q st f)
 (hb:∀(kV doc pm:SD)(an:Option Addr)(cdv ct:SD)(us:List SD),us.length=ps.length->bindArgs (Im x q st kV doc pm an cdv ct) ⟨us,[]⟩=pure (ps.zip us):=by intro _ _ _ _ _ _ us hl;rcases us with _|⟨_,_|⟨_,_|⟨_,_|⟨_,_|⟨_,_|⟨_,us⟩⟩⟩⟩⟩⟩<;>first|(cases hl;done)|rfl):∃m:Mf K C x q st ps,m.f=f:=by
 obtain⟨a,i,⟨oc,od,an,osl,kV,doc,pm,cdv,ct,l,c⟩,kp⟩:=k;exact⟨⟨f,_,Jt l c kp a i hb⟩,rfl⟩
def L8(c:CK K KK x C)(k:MK KK C "__init__" q st f):Mk KK C f:=⟨c.m,k.a,k.i,c.k⟩
end
end L4
namespace L2
open PySem PySem.Spec PySem.Calls PyProof.Rows
def uP(prog:SC)(w:World)(d:Addr)(hd:(d==sysModules)=false):MeetsIn prog w (Builtin.«dict.__len__» ⟨[.ref d],[]⟩) (λ_ R s=>∃(o:Obj)(es:Array DictEntry)(ep n:Nat),s.heap.get? d=some o/\o.data=.dict es ep/\es.size=n/\R (.ok (.ret (.int n s.toks))) {s with toks:=s.toks+1}):=by
 apply MeetsIn.of_wp;rintro A R s ⟨o,es,ep,n,h1,h2,rfl,h⟩;show wpAny _ _ (dictSize d >>= _) _ _ s
 delta dictSize
 apply KE;apply KE;apply Qu h1 h2;apply Os;show wpAny _ _ (Builtin.Dict.pendingCount d >>= _) _ _ s;apply KE;apply wpAny_pendingCount_other hd;exact wpAny_ret_mkInt h
section
variable{X:Cx}
def xN:CallR X (.builtin "len") (λxs H Q=>∃(d:Addr)(kvs:List (List aG×V)),xs=[.ref d]/\(Rd H d (.dT kvs)\/(Rd H d (.dK [])/\kvs=[]))/\Q (.int kvs.length) H):=by
 intro aa s σ H xs us Q I r h;obtain⟨d,kvs,rfl,hd,q⟩:=h;obtain⟨w,rfl,rx⟩:=db r;cases rx;have key:(d==sysModules)=false/\kvs.length<=sizeLine/\Shared.TypeIs s (.ref d) "dict"/\∃(o:Obj)(es:Array DictEntry)(ep:Nat),s.heap.get? d=some o/\o.data=.dict es ep/\es.size=kvs.length:=by
  rcases hd with hd|⟨hd,rfl⟩
  .obtain⟨z,hs,xs,rel,o,es,ep,h1,h2,h3,h4,_⟩:=j_ I.aF hd;exact⟨hs,z,⟨o,h1,h2.1⟩,o,es,ep,h1,h3,by rw[size_of_entries h4];exact(QN rel).symm⟩
  .obtain⟨z,hs,vs,rel,dd⟩:=iV I.aF hd;have hT:=dd.typeIs;obtain⟨o,es,ep,h1,h2,h3,h4,h5,_⟩:=dd;exact⟨hs,OR _,hT,o,es,ep,h1,h3,by
    have e:es.size=vs.length:=by rw[<- h5.length];simp
    rw[e,<- rel.length];rfl⟩
 obtain⟨hs,z,hT,o,es,ep,h1,h3,h4⟩:=key;rw[Pg]at z;refine Rb PySem.kind_len PySem.plain_len PySem.entry_len (PySem.args_len1 _) ?_
 delta Builtin.«len»
 apply KE (m:=oneArg "len" _);apply Os;apply KE (m:=callSpecial? (.ref d) (Str.ofString "__len__"));apply PB (name:=Str.ofString "__len__") hT PySem.F.slot_dict_len;apply Sj PySem.F.slot_dict_len hT PySem.F.entry_dict_len (PySem.F.args_dict_len_1 _) (uP X.prog X.w d hs);refine⟨o,es,ep,kvs.length,h1,h3,h4,?_⟩;show wpAny _ _ _ _ _ {s with toks:=s.toks+1};apply KE;apply Pd;apply Os;apply KE;apply wpAny_letGo;show wpAny _ _ (if((kvs.length:Nat):Int)<0 then _ else _) _ _ _;rw[Ox (by lia)];show wpAny _ _ (if((kvs.length:Nat):Int)>=2^63 then _ else _) _ _ _;rw[Ox (by lia)];apply KE;apply wpAny_mkInt;exact Os ⟨_,rfl,.int kvs.length,H,I.tok _,⟨_,rfl⟩,q⟩
end
end L2
namespace L4
open PySem PySem.Spec PyProof.Rows L2 L3
def Ae:List V->Hp->VK->Prop:=λxs H Q=>∃(d:Addr)(kvs:List (List aG×V)),xs=[.ref d]/\(Rd H d (.dT kvs)\/(Rd H d (.dK [])/\kvs=[]))/\Q (.int kvs.length) H
def mC{X:Cx}:CallR X (.builtin "len") Ae:=xN
end L4
namespace Sp
noncomputable abbrev Arr:=Int×Int×Int
noncomputable abbrev Rule:=Int×Int×Int×List Int
section
variable{κ β:Type}[DecidableEq κ]
def get(d:List (κ×β))(k:κ):Option β:=(d.find? λx=>decide (x.1=k)).map (·.2)
def put(d:List (κ×β))(k:κ)(v:β):List (κ×β):=if(get d k).isSome then d.map (λx=>if x.1=k then(x.1,v)else x)else d++[(k,v)]
def get_nil(k:κ):get ([]:List (κ×β)) k=none:=rfl
theorem get_cons(x:κ×β)(d:List (κ×β))(k:κ):get (x::d) k=if x.1=k then some x.2 else get d k:=by grind [get]
def get_append(d e:List (κ×β))(k:κ):get (d++e) k=(get d k).or (get e k):=by
 induction d with
 |nil=>rfl
 |cons x r ih=>rw[Sw,get_cons,get_cons,ih];split<;>simp
def get_repl(d:List (κ×β))(k:κ)(v:β)(j:κ):get (d.map λx=>if x.1=k then(x.1,v)else x) j=if j=k then(get d j).map λ_=>v else get d j:=by
 induction d with
 |nil=>simp[get_nil]
 |cons x r ih=>rw[OH,get_cons,get_cons,ih];grind
def get_put(d:List (κ×β))(k:κ)(v:β)(j:κ):get (put d k v) j=if j=k then some v else get d j:=by
 unfold put;split
 .rename_i h;rw[get_repl];split
  .rename_i e;subst e;obtain⟨b,hb⟩:=QF.mp h;rw[hb];rfl
  .rfl
 .rename_i h;have hn:get d k=none:=by simpa using h
  rw[get_append,get_cons,get_nil];by_cases e:j=k
  .subst e;simp[hn]
  .rw[Ox (λz=>e z.symm),Ox e];simp
end
structure St where
 tb:List (Int×List (Int×List Int))
 en:List Int
 fo:List (Int×List Int)
 mi:List ((Int×Int)×Int)
 du:List Arr
noncomputable def add(l:List Int)(x:Int):List Int:=if x∈l then l else l++[x]
def add_mem{l:List Int}{x y:Int}:y∈add l x↔y∈l\/y=x:=by grind [add]
def row(tb:List (Int×List (Int×List Int)))(s:Int):List (Int×List Int):=(get tb s).getD []
def leaf(tb:List (Int×List (Int×List Int)))(s g:Int):List Int:=(get (row tb s) g).getD []
def fol(S:St)(s:Int):List Int:=(get S.fo s).getD []
def dA(S:St)(a:Arr):Prop:=a.2.2∈leaf S.tb a.1 a.2.1
def lead(S:St)(s g t:Int):St:=if t∈leaf S.tb s g then S else {S with tb:=put S.tb s (put (row S.tb s) g (leaf S.tb s g++[t])),du:=S.du++[(s,g,t)]}
def mE(tb:List (Int×List (Int×List Int)))(s g:Int)(l:List Int)(s' g':Int):leaf (put tb s (put (row tb s) g l)) s' g'=if s'=s/\g'=g then l else leaf tb s' g':=by
 unfold leaf;have e:row (put tb s (put (row tb s) g l)) s'=if s'=s then put (row tb s) g l else row tb s':=by unfold row;rw[get_put];split<;>simp
 rw[e];by_cases h1:s'=s
 .subst h1;rw[Ow rfl,get_put];by_cases h2:g'=g
  .subst h2;simp
  .simp[h2]
 .simp[h1]
def br(S:St)(s g t:Int)(a:Arr):dA (lead S s g t) a↔dA S a\/a=(s,g,t):=by
 obtain⟨x,y,z⟩:=a;unfold lead dA;split
 .rename_i h;simp only[Prod.mk.injEq];constructor
  .exact .inl
  .rintro (h'|⟨rfl,rfl,rfl⟩)
   .exact h'
   .exact h
 .simp only[mE,Prod.mk.injEq];by_cases e:x=s/\y=g
  .rw[Ow e,OF,OM];obtain⟨rfl,rfl⟩:=e;simp
  .rw[Ox e];constructor
   .exact .inl
   .rintro (h'|⟨rfl,rfl,rfl⟩)
    .exact h'
    .exact absurd ⟨rfl,rfl⟩ e
def jg(S:St)(s g t:Int):(lead S s g t).en=S.en:=by unfold lead;split<;>rfl
def eL(S:St)(s g t:Int):(lead S s g t).fo=S.fo:=by unfold lead;split<;>rfl
def jh(S:St)(s g t:Int):(lead S s g t).mi=S.mi:=by unfold lead;split<;>rfl
def p9(S:St)(s g t:Int):(lead S s g t).du=if t∈leaf S.tb s g then S.du else S.du++[(s,g,t)]:=by unfold lead;split<;>rfl
def copyRow(r:Int)(S:St)(x:Int×List Int):St:=x.2.foldl (λS t=>lead S r x.1 t) S
def aU(S:St)(r s:Int):St:=if r∈fol S s then S else
 (row S.tb s).foldl (copyRow r) {S with fo:=put S.fo s (fol S s++[r]),en:=if s∈S.en then add S.en r else S.en}
def midS(n:Int)(S:St)(r g:Int):Int:=(get S.mi (r,g)).getD (n+S.mi.length)
def midM(n:Int)(S:St)(r g:Int):St:=if(get S.mi (r,g)).isSome then S else {S with mi:=S.mi++[((r,g),n+S.mi.length)]}
def bB(n:Int)(t:Int)(S:St)(r:Rule):St:=match r.2.2.2 with
 |[]=>aU S r.2.2.1 t
 |[a]=>lead S r.2.2.1 a t
 |a::b::_=>lead (lead (midM n S r.2.2.1 a) r.2.2.1 a (midS n S r.2.2.1 a)) (midS n S r.2.2.1 a) b t
abbrev RS:=List ((Int×Int)×List Rule)
noncomputable def bj(S:St):St:={S with du:=S.du.dropLast}
def iz(a:Arr)(S:St):St:=(fol S a.1).foldl (λS r=>lead S r a.2.1 a.2.2) S
def turn(n:Int)(rs:RS)(a:Arr)(S:St):St:=((get rs (a.1,a.2.1)).getD []).foldl (bB n a.2.2) (iz a S)
structure nh(S:St):Prop where
 t:S.tb.length<15000000
 r:∀s,(row S.tb s).length<15000000
 l:∀s g,(leaf S.tb s g).length<15000000
 e:S.en.length<15000000
 f:S.fo.length<15000000
 g:∀s,(fol S s).length<15000000
 m:S.mi.length<15000000
 d:S.du.length<15000000
structure fJ(S T:St):Prop where
 t:S.tb.length<=T.tb.length
 r:∀s,(row S.tb s).length<=(row T.tb s).length
 l:∀s g,(leaf S.tb s g).length<=(leaf T.tb s g).length
 e:S.en.length<=T.en.length
 f:S.fo.length<=T.fo.length
 g:∀s,(fol S s).length<=(fol T s).length
 m:S.mi.length<=T.mi.length
 d:S.du.length<=T.du.length
def fJ.rf(S:St):fJ S S:=⟨Ou _,λ_=>Ou _,λ_ _=>Ou _,Ou _,Ou _,λ_=>Ou _,Ou _,Ou _⟩
def fJ.trans{S T U:St}(a:fJ S T)(b:fJ T U):fJ S U:=⟨O3 a.t b.t,λs=>O3 (a.r s) (b.r s),λs g=>O3 (a.l s g) (b.l s g),O3 a.e b.e,O3 a.f b.f,λs=>O3 (a.g s) (b.g s),O3 a.m b.m,O3 a.d b.d⟩
def fJ.fit{S T:St}(a:fJ S T)(b:nh T):nh S:=⟨Pp a.t b.t,λs=>Pp (a.r s) (b.r s),λs g=>Pp (a.l s g) (b.l s g),Pp a.e b.e,Pp a.f b.f,λs=>Pp (a.g s) (b.g s),Pp a.m b.m,Pp a.d b.d⟩
theorem foldl_grow{α:Type}(f:St->α->St)(h:∀S x,fJ S (f S x)):∀(l:List α)(S:St),fJ S (l.foldl f S)
 |[],S=>.rf S
 |x::l,S=>(h S x).trans (foldl_grow f h l _)
def p_{κ β:Type}[DecidableEq κ](d:List (κ×β))(k:κ)(v:β):d.length<=(put d k v).length:=by unfold put;split<;>simp
def row_put(tb:List (Int×List (Int×List Int)))(s:Int)(x:List (Int×List Int))(s':Int):row (put tb s x) s'=if s'=s then x else row tb s':=by unfold row;rw[get_put];split<;>simp
def lead_grow(S:St)(s g t:Int):fJ S (lead S s g t):=by
 unfold lead;split
 .exact .rf S
 .refine⟨p_ _ _ _,λs'=>?_,λs' g'=>?_,Ou _,Ou _,λ_=>Ou _,Ou _,by simp⟩
  .show _<=(row (put S.tb s _) s').length;rw[row_put];split
   .rename_i e;subst e;exact p_ _ _ _
   .exact Ou _
  .show _<=(leaf (put S.tb s _) s' g').length;rw[mE];split
   .rename_i e;rw[e.1,e.2];simp
   .exact Ou _
def copy_grow(r:Int)(S:St)(x:Int×List Int):fJ S (copyRow r S x):=foldl_grow _ (λS t=>lead_grow S r x.1 t) _ _
def begF0(S:St)(r s:Int):St:={S with fo:=put S.fo s (fol S s++[r]),en:=if s∈S.en then add S.en r else S.en}
def Af(S:St)(r s:Int):fJ S (begF0 S r s):=by
 refine⟨Ou _,λ_=>Ou _,λ_ _=>Ou _,?_,p_ _ _ _,λs'=>?_,Ou _,Ou _⟩
 .show _<=(if s∈S.en then add S.en r else S.en).length;split
  .unfold add;split<;>simp
  .exact Ou _
 .show _<=((get (put S.fo s (fol S s++[r])) s').getD []).length;rw[get_put];split
  .rename_i e;subst e;simp
  .exact Ou _
def follow_grow(S:St)(r s:Int):fJ S (aU S r s):=by
 unfold aU;split
 .exact .rf S
 .exact(Af S r s).trans (foldl_grow _ (copy_grow r) _ _)
def midM_grow(n:Int)(S:St)(r g:Int):fJ S (midM n S r g):=by
 unfold midM;split
 .exact .rf S
 .exact⟨Ou _,λ_=>Ou _,λ_ _=>Ou _,Ou _,Ou _,λ_=>Ou _,by simp,Ou _⟩
def takeR_grow(n t:Int)(S:St)(r:Rule):fJ S (bB n t S r):=by
 unfold bB;split
 .exact follow_grow ..
 .exact lead_grow ..
 .exact((midM_grow ..).trans (lead_grow ..)).trans (lead_grow ..)
inductive Loop(n:Int) (rs:RS):Nat->St->St->Prop where
 |done {S:St}:S.du=[]->Loop n rs 0 S S
 |step {k:Nat} {S T:St} {a:Arr}:S.du.getLast?=some a->(∀r∈(get rs (a.1,a.2.1)).getD [],r.2.2.1≠a.2.2)->nh (turn n rs a (bj S))->Loop n rs k (turn n rs a (bj S)) T->Loop n rs (k+1) S T
def Loop.det{n:Int}{rs:RS}:∀{k:Nat}{S T:St},Loop n rs k S T->∀{m:Nat}{T':St},Loop n rs m S T'->T=T':=by
 intro k S T h;induction h with
 |done e=>
  intro m T' h';cases h' with
  |done _=>rfl
  |step hd=>rw[e]at hd;cases hd
 |step hd _ _ _ ih=>
  intro m T' h';cases h' with
  |done e=>rw[e]at hd;cases hd
  |step hd' _ _ h'=>rw[hd]at hd';cases hd';exact ih h'
end Sp
namespace Sp
structure Le(S T:St):Prop where
 h:∀a,dA S a->dA T a
 f:∀s r,r∈fol S s->r∈fol T s
 e:∀x,x∈S.en->x∈T.en
def Le.refl(S:St):Le S S:=⟨λ_ h=>h,λ_ _ h=>h,λ_ h=>h⟩
def Le.trans(a:Le S T)(b:Le T U):Le S U:=⟨λx h=>b.h x (a.h x h),λs r h=>b.f s r (a.f s r h),λx h=>b.e x (a.e x h)⟩
theorem Le.lead(S:St)(s g t:Int):Le S (lead S s g t):=⟨λa h=>(br ..).mpr (.inl h),λs' r h=>by unfold fol at *;rw[eL];exact h,λx h=>by rw[jg];exact h⟩
def Led(ro:Int)(S:St)(r:Rule)(t:Int):Prop:=match r.2.2.2 with
 |[]=>r.2.2.1∈fol S t
 |[x]=>dA S (r.2.2.1,x,t)
 |x::y::_=>∃m,ro<=m/\dA S (r.2.2.1,x,m)/\dA S (m,y,t)
def Led.mono(l:Le S T)(h:Led ro S r t):Led ro T r t:=by
 unfold Led at *;split at h
 .exact l.f _ _ h
 .exact l.h _ h
 .obtain⟨m,h0,h1,h2⟩:=h;exact⟨m,h0,l.h _ h1,l.h _ h2⟩
def bP(rs:RS)(s g:Int):List Rule:=(get rs (s,g)).getD []
def Done(ro:Int)(rs:RS)(S:St)(a:Arr):Prop:=∀r∈bP rs a.1 a.2.1,Led ro S r a.2.2
theorem Done.mono(l:Le S T)(h:Done ro rs S a):Done ro rs T a:=λr hr=>(h r hr).mono l
structure J(ro:Int) (rs:RS) (S:St) (pf:Int->Arr->Prop) (pr:Arr->Prop):Prop where
 to:∀a,dA S a->ro<=a.2.2
 mi:∀x∈S.mi,ro<=x.2
 fo:∀s r,r∈fol S s->r<ro/\ro<=s/\(s∈S.en->r∈S.en)/\∀g t,dA S (s,g,t)->dA S (r,g,t)\/(s,g,t)∈S.du\/pf r (s,g,t)
 dn:∀a,dA S a->Done ro rs S a\/a∈S.du\/pr a
section
variable{ro:Int}{rs:RS}{S:St}{pf pf':Int->Arr->Prop}{pr pr':Arr->Prop}
def J.weak(j:J ro rs S pf pr)(h1:∀r a,r∈fol S a.1->dA S a->pf r a->dA S (r,a.2.1,a.2.2)\/pf' r a)(h2:∀a,dA S a->pr a->Done ro rs S a\/pr' a):J ro rs S pf' pr':=
 ⟨j.to,j.mi,λs r h=>by
   obtain⟨a,b,c,d⟩:=j.fo s r h;refine⟨a,b,c,λg t ht=>?_⟩;rcases d g t ht with x|x|x
   .exact .inl x
   .exact .inr (.inl x)
   .rcases h1 r (s,g,t) h ht x with y|y
    .exact .inl y
    .exact .inr (.inr y),λa h=>by
   rcases j.dn a h with x|x|x
   .exact .inl x
   .exact .inr (.inl x)
   .rcases h2 a h x with y|y
    .exact .inl y
    .exact .inr (.inr y)⟩
theorem J.lead(j:J ro rs S pf pr)(ht:ro<=t):J ro rs (lead S s g t) pf pr:=by
 have l:=Le.lead S s g t;have hd:∀a,a∈S.du->a∈(Sp.lead S s g t).du:=λa h=>by rw[p9];split<;>simp[h]
 have hn:(s,g,t)∈(Sp.lead S s g t).du\/dA S (s,g,t):=by rw[p9];by_cases h:t∈leaf S.tb s g<;>simp[h,dA]
 refine⟨λa h=>?_,λx hx=>j.mi x (by rw[jh]at hx;exact hx),λs' r h=>?_,λa h=>?_⟩
 .rcases (br ..).mp h with h|rfl
  .exact j.to a h
  .exact ht
 .have h:r∈fol S s':=by unfold fol at *;rw[eL]at h;exact h
  obtain⟨a,b,c,d⟩:=j.fo s' r h;refine⟨a,b,λz=>by rw[jg]at z ⊢;exact c z,λg' t' ht'=>?_⟩;have old:dA S (s',g',t')->dA (Sp.lead S s g t) (r,g',t')\/(s',g',t')∈(Sp.lead S s g t).du\/pf r (s',g',t'):=λz=>by
   rcases d g' t' z with x|x|x
   .exact .inl (l.h _ x)
   .exact .inr (.inl (hd _ x))
   .exact .inr (.inr x)
  rcases(br ..).mp ht' with z|z
  .exact old z
  .rw[z]at old ⊢;rcases hn with y|y
   .exact .inr (.inl y)
   .exact old y
 .have old:∀a,dA S a->Done ro rs (Sp.lead S s g t) a\/a∈(Sp.lead S s g t).du\/pr a:=λa z=>by
   rcases j.dn a z with x|x|x
   .exact .inl (x.mono l)
   .exact .inr (.inl (hd _ x))
   .exact .inr (.inr x)
  rcases(br ..).mp h with z|rfl
  .exact old a z
  .rcases hn with y|y
   .exact .inr (.inl y)
   .exact old _ y
theorem mF:∀(ts:List Int){S:St},J ro rs S pf pr->(∀t∈ts,ro<=t)->J ro rs (copyRow r S (g,ts)) pf pr/\Le S (copyRow r S (g,ts))/\(∀a,dA (copyRow r S (g,ts)) a↔dA S a\/∃t∈ts,a=(r,g,t))/\(copyRow r S (g,ts)).fo=S.fo/\(copyRow r S (g,ts)).en=S.en/\(copyRow r S (g,ts)).mi=S.mi
 |[],S,j,_=>⟨j,Le.refl S,λa=>by simp[copyRow],rfl,rfl,rfl⟩
 |t::ts,S,j,h=>by obtain⟨a,b,c,d,e,f⟩:=mF (g:=g) (r:=r) ts (j.lead (s:=r) (g:=g) (h t (by simp))) λx hx=>h x (by simp[hx]);refine⟨a,(Le.lead ..).trans b,λx=>?_,d.trans (eL ..),e.trans (jg ..),f.trans (jh ..)⟩;show dA (copyRow r (Sp.lead S r g t) (g,ts)) x↔_;rw[c,br];simp only[OE,exists_eq_or_imp,or_assoc]
theorem vY:∀(rw':List (Int×List Int)){S:St},J ro rs S pf pr->(∀x∈rw',∀t∈x.2,ro<=t)->J ro rs (rw'.foldl (copyRow r) S) pf pr/\Le S (rw'.foldl (copyRow r) S)/\(∀a,dA (rw'.foldl (copyRow r) S) a↔dA S a\/∃x∈rw',∃t∈x.2,a=(r,x.1,t))/\(rw'.foldl (copyRow r) S).fo=S.fo/\(rw'.foldl (copyRow r) S).en=S.en/\(rw'.foldl (copyRow r) S).mi=S.mi
 |[],S,j,_=>⟨j,Le.refl S,λa=>by simp,rfl,rfl,rfl⟩
 |x::q,S,j,h=>by obtain⟨a,b,c,d,e,f⟩:=mF (g:=x.1) (r:=r) x.2 j (h x (by simp));obtain⟨a',b',c',d',e',f'⟩:=vY (r:=r) q a λy hy=>h y (by simp[hy]);refine⟨a',b.trans b',λy=>?_,d'.trans d,e'.trans e,f'.trans f⟩;rw[RD,c',c];simp only[OE,exists_eq_or_imp,or_assoc]
def lc{κ β:Type}[DecidableEq κ]{d:List (κ×β)}{k:κ}{v:β}(h:get d k=some v):(k,v)∈d:=by
 induction d with
 |nil=>cases h
 |cons x r ih=>rw[get_cons]at h;grind
end
end Sp
namespace Sp
section
variable{ro:Int}{rs:RS}{S:St}{pf:Int->Arr->Prop}{pr:Arr->Prop}
def iO(S:St)(r s:Int):St:={S with fo:=put S.fo s (fol S s++[r]),en:=if s∈S.en then add S.en r else S.en}
def gP(S:St)(r s s':Int):fol (iO S r s) s'=if s'=s then fol S s++[r]else fol S s':=by unfold iO;show(get (put S.fo s (fol S s++[r])) s').getD []=_;rw[get_put];split<;>simp[fol]
def lg(S:St)(r s x:Int):x∈(iO S r s).en↔x∈S.en\/(s∈S.en/\x=r):=by
 unfold iO;show x∈(if s∈S.en then add S.en r else S.en)↔_;split
 .rename_i h;rw[add_mem];simp[h]
 .rename_i h;simp[h]
theorem J.iO(j:J ro rs S pf pr)(hr:r<ro)(hs:ro<=s):J ro rs (iO S r s) (λr' a=>pf r' a\/(r'=r/\a.1=s)) pr/\Le S (Sp.iO S r s):=by
 have l:Le S (Sp.iO S r s):=⟨λa h=>h,λs' r' h=>by rw[gP];split<;>simp_all,λx h=>(lg ..).mpr (.inl h)⟩;refine⟨⟨j.to,j.mi,λs' r' h=>?_,λa h=>?_⟩,l⟩
 .rw[gP]at h;by_cases e:s'=s/\r'=r
  .obtain⟨rfl,rfl⟩:=e;refine⟨hr,hs,λz=>?_,λg t ht=>.inr (.inr (.inr ⟨rfl,rfl⟩))⟩;rw[lg]at z ⊢;rcases z with z|⟨_,z⟩
   .exact .inr ⟨z,rfl⟩
   .lia
  .have h:r'∈fol S s':=by
    split at h
    .rename_i q;rcases OF.mp h with h|h
     .rw[q];exact h
     .exact absurd ⟨q,OM.mp h⟩ e
    .exact h
   obtain⟨a,b,c,d⟩:=j.fo s' r' h;refine⟨a,b,λz=>?_,λg t ht=>?_⟩
   .rw[lg]at z ⊢;rcases z with z|⟨_,z⟩
    .exact .inl (c z)
    .lia
   .rcases d g t ht with x|x|x
    .exact .inl x
    .exact .inr (.inl x)
    .exact .inr (.inr (.inl x))
 .rcases j.dn a h with x|x|x
  .exact .inl (x.mono l)
  .exact .inr (.inl x)
  .exact .inr (.inr x)
def vZ(h:t∈leaf tb s g):∃x∈row tb s,x.1=g/\t∈x.2:=by
 unfold leaf at h;cases e:get (row tb s) g with
 |none=>rw[e]at h;simp at h
 |some l=>rw[e]at h;exact⟨_,lc e,rfl,h⟩
def Keys{κ β:Type}(d:List (κ×β)):Prop:=(d.map (·.1)).Nodup
def get_of{κ β:Type}[DecidableEq κ]{d:List (κ×β)}(hd:Keys d){x:κ×β}(h:x∈d):get d x.1=some x.2:=by
 unfold Keys at hd;induction d with
 |nil=>cases h
 |cons y r ih=>
  rw[get_cons];rw[OH,QE]at hd;rcases OE.mp h with rfl|h
  .simp
  .rw[Ox (λe:y.1=x.1=>hd.1 (by rw[e];exact List.mem_map_of_mem h)),ih hd.2 h]
theorem Keys.put{κ β:Type}[DecidableEq κ]{d:List (κ×β)}(hd:Keys d)(k:κ)(v:β):Keys (put d k v):=by
 unfold Keys Sp.put at *;split
 .rw[OP];rw[show((λx:κ×β=>x.1) ∘ λx=>if x.1=k then(x.1,v)else x)=(·.1)from by funext x;simp only[Function.comp];split<;>rfl];exact hd
 .rename_i h;rw[O8,PU];refine⟨hd,by simp,λa ha b hb e=>?_⟩;simp at hb;subst hb;subst e;obtain⟨x,hx,rfl⟩:=OB.mp ha;exact h (by rw[get_of hd hx];rfl)
structure KT(S:St):Prop where
 k1:Keys S.tb
 k2:∀s,Keys (row S.tb s)
theorem KT.lead(k:KT S)(s g t:Int):KT (lead S s g t):=by
 unfold Sp.lead;split
 .exact k
 .refine⟨k.k1.put _ _,λs'=>?_⟩;show Keys (row (put S.tb s _) s');unfold row;rw[get_put];split
  .exact(k.k2 s).put _ _
  .exact k.k2 s'
theorem KT.copy:∀(rw':List (Int×List Int)){S:St},KT S->KT (rw'.foldl (copyRow r) S)
 |[],_,k=>k
 |x::q,S,k=>by
  have h:∀(ts:List Int){S:St},KT S->KT (copyRow r S (x.1,ts)):=λts=>by
   induction ts with
   |nil=>exact λk=>k
   |cons t ts ih=>intro S k;exact ih (k.lead r x.1 t)
  exact KT.copy q (h x.2 k)
def xO(j:J ro rs S pf pr)(k:KT S)(hr:r<ro)(hs:ro<=s):J ro rs (aU S r s) pf pr/\KT (aU S r s)/\Le S (aU S r s)/\r∈fol (aU S r s) s/\(aU S r s).mi=S.mi:=by
 unfold aU;split
 .rename_i h;exact⟨j,k,Le.refl S,h,rfl⟩
 .rename_i h;obtain⟨j1,l1⟩:=j.iO hr hs;have hto:∀x∈row S.tb s,∀t∈x.2,ro<=t:=λx hx t ht=>j.to (s,x.1,t) (by unfold dA leaf;rw[get_of (k.k2 s) hx];exact ht);obtain⟨j2,l2,c,d,e,f⟩:=vY (r:=r) (row S.tb s) j1 hto;have k2:KT ((row S.tb s).foldl (copyRow r) (iO S r s)):=KT.copy _ (S:=iO S r s) ⟨k.k1,k.k2⟩;refine⟨j2.weak (λr' a hf ha hp=>?_) λa ha hp=>.inr hp,k2,l1.trans l2,?_,f⟩
  .rcases hp with hp|⟨rfl,ea⟩
   .exact .inr hp
   .left;obtain⟨s',g,t⟩:=a;simp only[]at ea;subst ea;rcases(c _).mp ha with h1|⟨x,hx,t',ht',e'⟩
    .obtain⟨x,hx,e1,e2⟩:=vZ (show t∈leaf S.tb s' g from h1);exact(c _).mpr (.inr ⟨x,hx,t,e2,by rw[e1]⟩)
    .have:s'=r':=Qn (·.1) e';lia
  .show r∈fol ((row S.tb s).foldl (copyRow r) (iO S r s)) s;have:fol ((row S.tb s).foldl (copyRow r) (iO S r s)) s=fol (iO S r s) s:=by unfold fol;rw[d]
   rw[this,gP,Ow rfl];simp
end
end Sp
namespace Sp
section
variable{ro n:Int}{rs:RS}{S:St}{pf pf':Int->Arr->Prop}{pr pr':Arr->Prop}
def Gk(j:J ro rs S pf pr)(k:KT S)(hn:ro<=n)(r g:Int):J ro rs (midM n S r g) pf pr/\KT (midM n S r g)/\Le S (midM n S r g)/\ro<=midS n S r g:=by
 unfold midM midS;split
 .rename_i h;obtain⟨v,hv⟩:=QF.mp h;refine⟨j,k,Le.refl S,?_⟩;rw[hv];exact j.mi _ (lc hv)
 .rename_i h;have h:get S.mi (r,g)=none:=by simpa using h
  have l:Le S {S with mi:=S.mi++[((r,g),n+S.mi.length)]}:=⟨λ_ h=>h,λ_ _ h=>h,λ_ h=>h⟩;refine⟨⟨j.to,λx hx=>?_,j.fo,λa ha=>?_⟩,⟨k.k1,k.k2⟩,l,by rw[h];simp;lia⟩
  .rcases OF.mp hx with hx|hx
   .exact j.mi x hx
   .rw[OM.mp hx];simp only[];lia
  .rcases j.dn a ha with x|x|x
   .exact .inl (x.mono l)
   .exact .inr (.inl x)
   .exact .inr (.inr x)
def sv(j:J ro rs S pf pr)(k:KT S)(hn:ro<=n)(ht:ro<=t)(hr:r.2.2.1<ro):J ro rs (bB n t S r) pf pr/\KT (bB n t S r)/\Le S (bB n t S r)/\Led ro (bB n t S r) r t:=by
 obtain⟨r0,r1,r2,w⟩:=r;simp only[]at hr
 match w with
 |[]=>obtain⟨a,b,c,d,_⟩:=xO j k hr ht;exact⟨a,b,c,d⟩
 |[x]=>exact⟨j.lead ht,k.lead ..,Le.lead ..,(br ..).mpr (.inr rfl)⟩
 |x::y::_=>
  obtain⟨a,b,c,d⟩:=Gk j k hn r2 x;refine⟨(a.lead d).lead ht,(b.lead ..).lead ..,(c.trans (Le.lead ..)).trans (Le.lead ..),midS n S r2 x,d,?_,?_⟩
  .exact(br ..).mpr (.inl ((br ..).mpr (.inr rfl)))
  .exact(br ..).mpr (.inr rfl)
theorem sw(hn:ro<=n)(ht:ro<=t):∀(rl:List Rule){S:St},J ro rs S pf pr->KT S->(∀r∈rl,r.2.2.1<ro)->J ro rs (rl.foldl (bB n t) S) pf pr/\KT (rl.foldl (bB n t) S)/\Le S (rl.foldl (bB n t) S)/\∀r∈rl,Led ro (rl.foldl (bB n t) S) r t
 |[],S,j,k,_=>⟨j,k,Le.refl S,λr h=>by cases h⟩
 |r::rl,S,j,k,h=>by
  obtain⟨a,b,c,d⟩:=sv j k hn ht (h r (by simp));obtain⟨a',b',c',d'⟩:=sw hn ht rl a b λx hx=>h x (by simp[hx]);refine⟨a',b',c.trans c',λx hx=>?_⟩;rcases OE.mp hx with rfl|hx
  .exact d.mono c'
  .exact d' x hx
theorem mG{a:Arr}(ha:ro<=a.2.2):∀(rl:List Int){S:St},J ro rs S pf pr->KT S->J ro rs (rl.foldl (λS r=>lead S r a.2.1 a.2.2) S) pf pr/\KT (rl.foldl (λS r=>lead S r a.2.1 a.2.2) S)/\Le S (rl.foldl (λS r=>lead S r a.2.1 a.2.2) S)/\(∀r∈rl,dA (rl.foldl (λS r=>lead S r a.2.1 a.2.2) S) (r,a.2.1,a.2.2))/\(rl.foldl (λS r=>lead S r a.2.1 a.2.2) S).fo=S.fo
 |[],S,j,k=>⟨j,k,Le.refl S,(λr h=>by cases h),rfl⟩
 |r::rl,S,j,k=>by
  obtain⟨j',k',l',h',f'⟩:=mG ha rl (j.lead (s:=r) (g:=a.2.1) ha) (k.lead r a.2.1 a.2.2);refine⟨j',k',(Le.lead ..).trans l',λx hx=>?_,f'.trans (eL ..)⟩;rcases OE.mp hx with rfl|hx
  .exact l'.h _ ((br ..).mpr (.inr rfl))
  .exact h' x hx
noncomputable def v4:Int->Arr->Prop:=λ_ _=>False
noncomputable def xP:Arr->Prop:=λ_=>False
def CY(j:J ro rs S v4 xP)(k:KT S)(hn:ro<=n)(hd:S.du.getLast?=some a)(ha:dA S a)(hr:∀s g,∀r∈bP rs s g,r.2.2.1<ro):J ro rs (turn n rs a (bj S)) v4 xP/\KT (turn n rs a (bj S))/\Le S (turn n rs a (bj S)):=by
 have hm:∀b,b∈S.du->b∈(bj S).du\/b=a:=λb hb=>by
  obtain⟨ys,e⟩:=Re.mp hd;have:(bj S).du=ys:=by show S.du.dropLast=ys;rw[e];simp
  rw[this];rw[e]at hb;rcases OF.mp hb with h|h
  .exact .inl h
  .exact .inr (OM.mp h)
 have l0:Le S (bj S):=⟨λ_ h=>h,λ_ _ h=>h,λ_ h=>h⟩;have j0:J ro rs (bj S) (λ_ b=>b=a) (λb=>b=a):=by
  refine⟨j.to,j.mi,λs r h=>?_,λb hb=>?_⟩
  .obtain⟨x,y,z,w⟩:=j.fo s r h;refine⟨x,y,z,λg t ht=>?_⟩;rcases w g t ht with q|q|q
   .exact .inl q
   .exact .inr (hm _ q)
   .exact q.elim
  .rcases j.dn b hb with q|q|q
   .exact .inl (q.mono l0)
   .exact .inr (hm _ q)
   .exact q.elim
 have hat:=j.to a ha;obtain⟨j1,k1,l1,h1,f1⟩:=mG (a:=a) hat (fol (bj S) a.1) j0 (S:=bj S) ⟨k.k1,k.k2⟩;have j2:=j1.weak (pf':=v4) (pr':=λb=>b=a) (λr b hf hb e=>by
  subst e;left;refine h1 r ?_;have e:fol ((fol (bj S) b.1).foldl (λS r=>lead S r b.2.1 b.2.2) (bj S)) b.1=fol (bj S) b.1:=by show(get ((fol (bj S) b.1).foldl (λS r=>lead S r b.2.1 b.2.2) (bj S)).fo b.1).getD []=_;rw[f1];rfl
  rw[<- e];exact hf) λb _ e=>.inr e
 obtain⟨j3,k3,l3,h3⟩:=sw (n:=n) hn hat (bP rs a.1 a.2.1) j2 k1 (hr _ _);refine⟨j3.weak (λr b _ _ e=>.inr e) (λb _ e=>by subst e;exact .inl h3),k3,(l0.trans l1).trans l3⟩
def Gm(j:J ro rs S v4 xP)(hd:S.du=[])(ha:dA S a):Done ro rs S a:=by
 rcases j.dn a ha with x|x|x
 .exact x
 .rw[hd]at x;cases x
 .exact x.elim
def CZ(S:St):Int->List Int->Prop
 |s,[]=>s∈S.en
 |s,g::w=>∃t,dA S (s,g,t)/\CZ S t w
def C0(j:J ro rs S v4 xP)(hd:S.du=[])(h:r∈fol S s):∀{w:List Int},CZ S s w->CZ S r w
 |[],ha=>(j.fo s r h).2.2.1 ha
 |g::w,⟨t,h1,h2⟩=>by
  rcases(j.fo s r h).2.2.2 g t h1 with x|x|x
  .exact⟨t,x,h2⟩
  .rw[hd]at x;cases x
  .exact x.elim
def sx(j:J ro rs S v4 xP)(hd:S.du=[])(hr:r∈bP rs r.1 r.2.1)(h2:r.2.2.2.length<=2)(h:CZ S r.1 (r.2.1::w)):CZ S r.2.2.1 (r.2.2.2++w):=by
 obtain⟨t,h1,h3⟩:=h;have hl:=Gm j hd h1 r hr;obtain⟨r0,r1,r2,p⟩:=r;simp only[]at *
 match p with
 |[]=>exact C0 j hd hl h3
 |[x]=>exact⟨t,hl,h3⟩
 |[x,y]=>obtain⟨m,_,a,b⟩:=hl;exact⟨m,a,t,b,h3⟩
end
end Sp
namespace Sp
theorem nodup_sub{α:Type}[DecidableEq α]:∀{l U:List α},l.Nodup->(∀x∈l,x∈U)->l.length<=U.length
 |[],U,_,_=>OR _
 |x::l,U,nd,h=>by rw[QE]at nd;have hx:=h x (by simp);have:=nodup_sub (l:=l) (U:=U.erase x) nd.2 λy hy=>(List.mem_erase_of_ne λe=>nd.1 (by rw[<- e];exact hy)).mpr (h y (by simp[hy]));rw[List.length_erase_of_mem hx]at this;have:=List.length_pos_of_mem hx;rw[OV];lia
def Bx(sg m:Int)(a:Arr):Prop:=(0<=a.1/\a.1<m)/\(0<=a.2.1/\a.2.1<sg)/\0<=a.2.2/\a.2.2<m
structure B(ro n sg:Int) (ks:List (Int×Int)) (t0 pp:List Arr) (S:St):Prop where
 old:∀a,dA S a->ro<=a.1->a.1<n->a∈t0
 bx:∀a,dA S a->Bx sg (n+ks.length) a
 ne1:∀x∈S.tb,x.2≠[]
 ne2:∀s,∀x∈row S.tb s,x.2≠[]
 lf:∀s g,(leaf S.tb s g).Nodup
 nd:(pp++S.du).Nodup
 sub:∀a∈pp++S.du,dA S a
 mc:(S.mi.map (·.1)).Nodup
 ms:∀x∈S.mi,x.1∈ks
 mv:∀x∈S.mi,n<=x.2/\x.2<n+S.mi.length
 en:S.en.Nodup
 er:∀e∈S.en,0<=e/\e<n
 fk:Keys S.fo
 fl:∀s,(fol S s).Nodup
 fr:∀s,∀r∈fol S s,0<=r/\r<ro
 fs:∀x∈S.fo,0<=x.1/\x.1<n+ks.length
section
variable{ro n sg:Int}{ks:List (Int×Int)}{t0 pp:List Arr}{S:St}
def get_none{κ β:Type}[DecidableEq κ]{d:List (κ×β)}{k:κ}(h:get d k=none):k∉d.map (·.1):=by
 induction d with
 |nil=>simp
 |cons x r ih=>rw[get_cons]at h;grind
def qf{κ β:Type}[DecidableEq κ]{d:List (κ×β)}{k:κ}{v:β}{x:κ×β}(h:x∈put d k v):x∈d\/x=(k,v):=by
 unfold put at h;split at h
 .obtain⟨y,hy,rfl⟩:=OB.mp h;split
  .rename_i e;rw[e];exact .inr rfl
  .exact .inl hy
 .rcases OF.mp h with h|h
  .exact .inl h
  .exact .inr (OM.mp h)
def Gn{κ β:Type}[DecidableEq κ](d:List (κ×β))(k:κ)(v:β):put d k v≠[]:=by intro h;have:=get_put d k v k;rw[h]at this;simp[get]at this
def B.Ig(b:B ro n sg ks t0 pp S):S.mi.length<=ks.length:=by
 have:=nodup_sub b.mc λx hx=>by obtain⟨y,hy,rfl⟩:=OB.mp hx;exact b.ms y hy
 rw[Ov]at this;exact this
theorem B.lead(b:B ro n sg ks t0 pp S)(h:Bx sg (n+ks.length) (s,g,t))(ho:ro<=s->s<n->(s,g,t)∈t0):B ro n sg ks t0 pp (lead S s g t):=by
 by_cases e:t∈leaf S.tb s g
 .have:Sp.lead S s g t=S:=by unfold Sp.lead;rw[Ow e]
  rw[this];exact b
 .have hd:(Sp.lead S s g t).du=S.du++[(s,g,t)]:=by rw[p9,Ox e]
  have ht:(Sp.lead S s g t).tb=put S.tb s (put (row S.tb s) g (leaf S.tb s g++[t])):=by unfold Sp.lead;rw[Ox e]
  have l:=Le.lead S s g t;refine⟨λa ha h1 h2=>?_,λa ha=>?_,λx hx=>?_,λs' x hx=>?_,λs' g'=>?_,?_,λa ha=>?_,?_,?_,?_,?_,?_,?_,λs'=>?_,λs'=>?_,?_⟩
  .rcases (br ..).mp ha with ha|rfl
   .exact b.old a ha h1 h2
   .exact ho h1 h2
  .rcases (br ..).mp ha with ha|rfl
   .exact b.bx a ha
   .exact h
  .rw[ht]at hx;rcases qf hx with hx|rfl
   .exact b.ne1 x hx
   .exact Gn _ _ _
  .rw[ht]at hx;unfold row at hx;rw[get_put]at hx;split at hx
   .rcases qf hx with hx|rfl
    .exact b.ne2 s x hx
    .simp
   .exact b.ne2 s' x hx
  .rw[ht,mE];split
   .rw[PU];exact⟨b.lf s g,by simp,λx hx y hy e'=>by simp at hy;subst hy;exact e (by rw[<- e'];exact hx)⟩
   .exact b.lf s' g'
  .rw[hd,<- Qs,PU];exact⟨b.nd,by simp,λx hx y hy e'=>by simp at hy;subst hy;subst e';exact e (b.sub _ hx)⟩
  .rw[hd,<- Qs]at ha;rcases OF.mp ha with ha|ha
   .exact l.h _ (b.sub a ha)
   .rw[OM.mp ha];exact(br ..).mpr (.inr rfl)
  .rw[jh];exact b.mc
  .rw[jh];exact b.ms
  .rw[jh];exact b.mv
  .rw[jg];exact b.en
  .rw[jg];exact b.er
  .rw[eL];exact b.fk
  .unfold fol;rw[eL];exact b.fl s'
  .unfold fol;rw[eL];exact b.fr s'
  .rw[eL];exact b.fs
theorem B.copy(hr:0<=r/\r<ro)(hn:ro<=n):∀(rw':List (Int×List Int)){S:St},B ro n sg ks t0 pp S->(∀x∈rw',(0<=x.1/\x.1<sg)/\∀t∈x.2,0<=t/\t<n+ks.length)->B ro n sg ks t0 pp (rw'.foldl (copyRow r) S)
 |[],_,b,_=>b
 |x::q,S,b,h=>by
  have h1:∀(ts:List Int){S:St},B ro n sg ks t0 pp S->(∀t∈ts,0<=t/\t<n+ks.length)->B ro n sg ks t0 pp (copyRow r S (x.1,ts)):=λts=>by
   induction ts with
   |nil=>exact λb _=>b
   |cons t ts ih=>intro S b ht;have:=ht t (by simp);have hx:=(h x (by simp)).1;exact ih (b.lead (s:=r) (g:=x.1) ⟨⟨hr.1,by simp only[];lia⟩,hx,this⟩ λz=>by lia) λy hy=>ht y (by simp[hy])
  exact B.copy hr hn q (h1 x.2 b (h x (by simp)).2) λy hy=>h y (by simp[hy])
theorem B.aU(b:B ro n sg ks t0 pp S)(k:KT S)(hr:0<=r/\r<ro)(hn:ro<=n)(hs:0<=s/\s<n+ks.length):B ro n sg ks t0 pp (aU S r s):=by
 unfold Sp.aU;split
 .exact b
 .rename_i hf;refine B.copy (S:=iO S r s) hr hn _ ⟨b.old,b.bx,b.ne1,b.ne2,b.lf,b.nd,b.sub,b.mc,b.ms,b.mv,?_,λe he=>?_,b.fk.put _ _,λs'=>?_,λs' r' h'=>?_,λx hx=>?_⟩ λx hx=>?_
  .show(if s∈S.en then add S.en r else S.en).Nodup;split
   .unfold add;split
    .exact b.en
    .rename_i q;rw[PU];exact⟨b.en,by simp,λx hx y hy e'=>by simp at hy;subst hy;exact q (by rw[<- e'];exact hx)⟩
   .exact b.en
  .rcases (lg S r s e).mp he with he|⟨_,rfl⟩
   .exact b.er e he
   .lia
  .rw[gP];split
   .rw[PU];exact⟨b.fl s,by simp,λx hx y hy e'=>by simp at hy;subst hy;exact hf (by rw[<- e'];exact hx)⟩
   .exact b.fl s'
  .rw[gP]at h';split at h'
   .rcases OF.mp h' with h'|h'
    .exact b.fr s r' h'
    .rw[OM.mp h'];exact hr
   .exact b.fr s' r' h'
  .rcases qf (show x∈put S.fo s (fol S s++[r])from hx)with hx|rfl
   .exact b.fs x hx
   .exact hs
  .have hl:∀t∈x.2,dA S (s,x.1,t):=λt ht=>by unfold dA leaf;rw[get_of (k.k2 s) hx];exact ht
   constructor
   .obtain⟨t,ht⟩:=List.exists_mem_of_ne_nil _ (b.ne2 s x hx);exact(b.bx _ (hl t ht)).2.1
   .exact λt ht=>(b.bx _ (hl t ht)).2.2
def B.mid(b:B ro n sg ks t0 pp S)(hn:0<=n)(h:(r,g)∈ks):B ro n sg ks t0 pp (midM n S r g)/\n<=midS n S r g/\midS n S r g<n+ks.length:=by
 unfold midM midS;split
 .rename_i q;obtain⟨v,hv⟩:=QF.mp q;have:=b.mv _ (lc hv);have:=b.Ig;rw[hv];simp only[Option.getD_some]at *;exact⟨b,by lia,by lia⟩
 .rename_i q;have q:get S.mi (r,g)=none:=by simpa using q
  have b':B ro n sg ks t0 pp {S with mi:=S.mi++[((r,g),n+S.mi.length)]}:=by
   refine⟨b.old,b.bx,b.ne1,b.ne2,b.lf,b.nd,b.sub,?_,λx hx=>?_,λx hx=>?_,b.en,b.er,b.fk,b.fl,b.fr,b.fs⟩
   .show((S.mi++[((r,g),n+S.mi.length)]).map (·.1)).Nodup;rw[O8,PU];exact⟨b.mc,by simp,λx hx y hy e'=>by simp at hy;subst hy;exact get_none q (by rw[<- e'];exact hx)⟩
   .rcases OF.mp (show x∈S.mi++[((r,g),n+S.mi.length)]from hx)with hx|hx
    .exact b.ms x hx
    .rw[OM.mp hx];exact h
   .show _/\_<n+(S.mi++[((r,g),n+(S.mi.length:Int))]).length;rw[OC,P6];rcases OF.mp (show x∈S.mi++[((r,g),n+S.mi.length)]from hx)with hx|hx
    .have:=b.mv x hx;lia
    .rw[OM.mp hx];simp only[];lia
  have:=b'.Ig;rw[show({S with mi:=S.mi++[((r,g),n+S.mi.length)]}:St).mi.length=S.mi.length+1 from by simp]at this;refine⟨b',?_,?_⟩<;>rw[q]<;>simp only[Su]<;>lia
end
end Sp
namespace Sp
structure m9(ro sg:Int) (ks:List (Int×Int)) (r:Rule):Prop where
 to:0<=r.2.2.1/\r.2.2.1<ro
 put:∀x∈r.2.2.2,0<=x/\x<sg
 mid:∀x y w,r.2.2.2=x::y::w->(r.2.2.1,x)∈ks
section
variable{ro n sg:Int}{rs:RS}{ks:List (Int×Int)}{t0 pp:List Arr}{S:St}{pf:Int->Arr->Prop}{pr:Arr->Prop}
theorem B.bB(b:B ro n sg ks t0 pp S)(k:KT S)(h0:0<=ro)(hn:ro<=n)(ht:0<=t/\t<n+ks.length)(hr:m9 ro sg ks r):B ro n sg ks t0 pp (bB n t S r):=by
 obtain⟨r0,r1,r2,w⟩:=r;have h1:=hr.to;have h2:=hr.put;have h3:=hr.mid;simp only[]at h1 h2 h3;have hk:(0:Int)<=ks.length:=by lia
 match w with
 |[]=>exact b.aU k h1 hn ht
 |[x]=>exact b.lead (s:=r2) (g:=x) (t:=t) ⟨⟨h1.1,by simp only[];lia⟩,h2 x (by simp),ht⟩ λz=>by lia
 |x::y::q=>obtain⟨b1,m0,m1⟩:=b.mid (by lia) (h3 x y q rfl);exact(b1.lead (s:=r2) (g:=x) ⟨⟨h1.1,by simp only[];lia⟩,h2 x (by simp),Int.le_trans (show(0:Int)<=n by lia) m0,m1⟩ λz=>by lia).lead ⟨⟨Int.le_trans (show(0:Int)<=n by lia) m0,m1⟩,h2 y (by simp),ht⟩ λz z'=>absurd (show midS n S r2 x<n from z') (by lia)
theorem B.rules(h0:0<=ro)(hn:ro<=n)(ht:0<=t/\t<n+ks.length)(ht':ro<=t):∀(rl:List Rule){S:St},J ro rs S pf pr->KT S->B ro n sg ks t0 pp S->(∀r∈rl,m9 ro sg ks r)->B ro n sg ks t0 pp (rl.foldl (Sp.bB n t) S)
 |[],_,_,_,b,_=>b
 |r::rl,S,j,k,b,h=>by obtain⟨j',k',_,_⟩:=sv j k hn ht' (h r (by simp)).to.2;exact B.rules h0 hn ht ht' rl j' k' (b.bB k h0 hn ht (h r (by simp))) λx hx=>h x (by simp[hx])
theorem B.iz(ha:Bx sg (n+ks.length) a)(hn:ro<=n):∀(rl:List Int){S:St},B ro n sg ks t0 pp S->(∀r∈rl,0<=r/\r<ro)->B ro n sg ks t0 pp (rl.foldl (λS r=>Sp.lead S r a.2.1 a.2.2) S)
 |[],_,b,_=>b
 |r::rl,S,b,h=>by have hr:=h r (by simp);exact B.iz ha hn rl (b.lead (s:=r) ⟨⟨hr.1,by simp only[];lia⟩,ha.2.1,ha.2.2⟩ λz=>by lia) λx hx=>h x (by simp[hx])
theorem B.bj(b:B ro n sg ks t0 pp S)(hd:S.du.getLast?=some a):B ro n sg ks t0 (pp++[a]) (bj S):=by
 obtain⟨ys,e⟩:=Re.mp hd;have ed:(Sp.bj S).du=ys:=by show S.du.dropLast=ys;rw[e];simp
 have hp:(pp++[a]++ys).Perm (pp++S.du):=by rw[e,Qs];exact List.Perm.append_left pp List.perm_append_comm
 refine⟨b.old,b.bx,b.ne1,b.ne2,b.lf,?_,λx hx=>?_,b.mc,b.ms,b.mv,b.en,b.er,b.fk,b.fl,b.fr,b.fs⟩
 .rw[ed];exact hp.nodup_iff.mpr b.nd
 .rw[ed]at hx;exact b.sub x (hp.mem_iff.mp hx)
theorem B.turn(b:B ro n sg ks t0 pp S)(j:J ro rs S v4 xP)(k:KT S)(h0:0<=ro)(hn:ro<=n)(hd:S.du.getLast?=some a)(ha:dA S a)(hr:∀s g,∀r∈bP rs s g,m9 ro sg ks r):B ro n sg ks t0 (pp++[a]) (turn n rs a (Sp.bj S)):=by
 have bx:=b.bx a ha;have hat:=j.to a ha;have b1:=b.bj hd;have b2:=B.iz bx hn (fol (Sp.bj S) a.1) b1 (b1.fr a.1);have j0:J ro rs (Sp.bj S) (λ_ b=>b=a\/b∈S.du) (λb=>b=a\/b∈S.du):=by
  refine⟨j.to,j.mi,λs r h=>?_,λb hb=>?_⟩
  .obtain⟨x,y,z,w⟩:=j.fo s r h;refine⟨x,y,z,λg t ht=>?_⟩;rcases w g t ht with q|q|q
   .exact .inl q
   .exact .inr (.inr (.inr q))
   .exact q.elim
  .rcases j.dn b hb with q|q|q
   .exact .inl q
   .exact .inr (.inr (.inr q))
   .exact q.elim
 obtain⟨j1,k1,_⟩:=mG (a:=a) hat (fol (Sp.bj S) a.1) j0 (S:=Sp.bj S) ⟨k.k1,k.k2⟩;exact B.rules h0 hn bx.2.2 hat (bP rs a.1 a.2.1) j1 k1 b2 (hr _ _)
noncomputable def box(sg m:Int):List Arr:=(List.range m.toNat).flatMap λs:Nat=>(List.range sg.toNat).flatMap λg:Nat=>(List.range m.toNat).map λt:Nat=>(((s:Nat):Int),((g:Nat):Int),((t:Nat):Int))
def C1(h:Bx sg m a):a∈box sg m:=by obtain⟨s,g,t⟩:=a;obtain⟨h1,h2,h3⟩:=h;simp only[]at h1 h2 h3;unfold box;refine Qa.mpr ⟨s.toNat,O5.mpr (by lia),Qa.mpr ⟨g.toNat,O5.mpr (by lia),OB.mpr ⟨t.toNat,O5.mpr (by lia),?_⟩⟩⟩;rw[Sg h1.1,Sg h2.1,Sg h3.1]
def B.turns(b:B ro n sg ks t0 pp S):pp.length+S.du.length<=(box sg (n+ks.length)).length:=by have:=nodup_sub b.nd λa ha=>C1 (b.bx a (b.sub a ha));rw[OC]at this;exact this
def g_{l:List Int}{m:Int}(nd:l.Nodup)(h:∀x∈l,0<=x/\x<m):l.length<=m.toNat:=by have:=nodup_sub (U:=(List.range m.toNat).map λk:Nat=>(k:Int)) nd λx hx=>OB.mpr ⟨x.toNat,O5.mpr (by have:=h x hx;lia),by have:=h x hx;lia⟩;rw[Ov,List.length_range]at this;exact this
def B.small(b:B ro n sg ks t0 pp S)(k:KT S):S.tb.length<=(n+ks.length).toNat/\(∀s,(row S.tb s).length<=sg.toNat)/\(∀s g,(leaf S.tb s g).length<=(n+ks.length).toNat)/\S.en.length<=n.toNat:=by
 have inr:∀s,∀x∈row S.tb s,∃t,dA S (s,x.1,t):=λs x hx=>by have hne:=b.ne2 s x hx;obtain⟨t,r,e⟩:=List.exists_cons_of_ne_nil hne;refine⟨t,?_⟩;unfold dA leaf;rw[get_of (k.k2 s) hx];simp[e]
 have int:∀x∈S.tb,∃g t,dA S (x.1,g,t):=λx hx=>by
  obtain⟨y,r,e⟩:=List.exists_cons_of_ne_nil (b.ne1 x hx);have hy:y∈row S.tb x.1:=by unfold row;rw[get_of k.k1 hx];simp[e]
  obtain⟨t,ht⟩:=inr _ y hy;exact⟨y.1,t,ht⟩
 refine⟨?_,λs=>?_,λs g=>?_,?_⟩
 .have:=g_ (l:=S.tb.map λx=>x.1) (m:=n+ks.length) k.k1 (λy hy=>by obtain⟨x,hx,rfl⟩:=OB.mp hy;obtain⟨g,t,h⟩:=int x hx;exact(b.bx _ h).1);rw[Ov]at this;exact this
 .have:=g_ (l:=(row S.tb s).map λx=>x.1) (m:=sg) (show((row S.tb s).map λx=>x.1).Nodup from k.k2 s) (λy hy=>by obtain⟨x,hx,rfl⟩:=OB.mp hy;obtain⟨t,h⟩:=inr s x hx;exact(b.bx _ h).2.1);rw[Ov]at this;exact this
 .exact g_ (b.lf s g) λx hx=>(b.bx (s,g,x) hx).2.2
 .exact g_ b.en λx hx=>b.er x hx
def B.fit(b:B ro n sg ks t0 pp S)(k:KT S)(h0:0<=ro)(hro:ro<=n)(h1:n+ks.length<15000000)(h2:sg<15000000)(h3:(box sg (n+ks.length)).length<15000000):nh S:=by
 have hk:(0:Int)<=ks.length:=by lia
 obtain⟨z1,z2,z3,z4⟩:=b.small k;refine⟨by lia,λs=>by have:=z2 s;lia,λs g=>by have:=z3 s g;lia,by lia,?_,λs=>?_,?_,?_⟩
 .have:=g_ (l:=S.fo.map λx=>x.1) (m:=n+ks.length) b.fk (λy hy=>by obtain⟨x,hx,rfl⟩:=OB.mp hy;exact b.fs x hx);rw[Ov]at this;lia
 .have:=g_ (b.fl s) (λx hx=>b.fr s x hx) (m:=ro);lia
 .have:=b.Ig;lia
 .have:=b.turns;lia
theorem ji(h1:n+ks.length<15000000)(h2:sg<15000000)(h3:(box sg (n+ks.length)).length<15000000)(h0:0<=ro)(hn:ro<=n)(hr:∀s g,∀r∈bP rs s g,m9 ro sg ks r):∀(m:Nat)(pp:List Arr)(S:St),J ro rs S v4 xP->KT S->B ro n sg ks t0 pp S->(box sg (n+ks.length)).length-pp.length<=m->
 ∃k T pp',k<=m/\Loop n rs k S T/\J ro rs T v4 xP/\KT T/\B ro n sg ks t0 pp' T/\T.du=[]/\Le S T
 |m,pp,S,j,k,b,hm=>by
  cases hd:S.du.getLast? with
  |none=>have e:S.du=[]:=List.getLast?_eq_none_iff.mp hd;exact⟨0,S,pp,OR _,.done e,j,k,b,e,Le.refl S⟩
  |some a=>
   have hmem:a∈S.du:=List.mem_of_getLast? hd;have ha:=b.sub a (ON _ hmem);obtain⟨j1,k1,l1⟩:=CY j k hn hd ha λs g r h=>(hr s g r h).to.2;have b1:=b.turn j k h0 hn hd ha hr;have t1:=b1.turns;rw[OC,P6]at t1;cases m with
   |zero=>lia
   |succ m=>obtain⟨q,T,pp',x0,x1,x2,x3,x4,x5,x6⟩:=ji h1 h2 h3 h0 hn hr m (pp++[a]) _ j1 k1 b1 (by rw[OC,P6];lia);exact⟨q+1,T,pp',by lia,.step hd (λr h e=>by have:=(hr _ _ r h).to.2;have:=j.to a ha;lia) (b1.fit k1 h0 hn h1 h2 h3) x1,x2,x3,x4,x5,l1.trans x6⟩
end
end Sp
namespace Sp
noncomputable def addR(l:List Rule)(r:Rule):List Rule:=if r∈l then l else l++[r]
def byHead(RL:List Rule):RS:=RL.foldl (λd r=>put d (r.1,r.2.1) (addR ((get d (r.1,r.2.1)).getD []) r)) []
def Ah:x∈addR l r↔x∈l\/x=r:=by grind [addR]
def byHead_mem:r∈bP (byHead RL) s g↔r∈RL/\(r.1,r.2.1)=(s,g):=by
 have key:∀(RL:List Rule)(d:RS),r∈bP (RL.foldl (λd r=>put d (r.1,r.2.1) (addR ((get d (r.1,r.2.1)).getD []) r)) d) s g↔r∈bP d s g\/(r∈RL/\(r.1,r.2.1)=(s,g)):=λRL=>by
  induction RL with
  |nil=>intro d;simp
  |cons x q ih=>
   intro d;rw[RD,ih];have:r∈bP (put d (x.1,x.2.1) (addR ((get d (x.1,x.2.1)).getD []) x)) s g↔r∈bP d s g\/(r=x/\(x.1,x.2.1)=(s,g)):=by
    unfold bP;rw[get_put];split
    .rename_i e;rw[Option.getD_some,Ah,<- e];simp
    .rename_i e;constructor
     .exact .inl
     .rintro (h|⟨_,h⟩)
      .exact h
      .exact absurd h.symm e
   rw[this,OE];constructor
   .rintro ((h|⟨rfl,h⟩)|⟨h,h'⟩)
    .exact .inl h
    .exact .inr ⟨.inl rfl,h⟩
    .exact .inr ⟨.inr h,h'⟩
   .rintro (h|⟨rfl|h,h'⟩)
    .exact .inl (.inl h)
    .exact .inl (.inr ⟨rfl,h'⟩)
    .exact .inr ⟨h,h'⟩
 rw[byHead,key];simp[bP,get]
def marked(l:List Int):List Int:=l.foldl add []
def marked_ok(l:List Int):(marked l).Nodup/\∀x,x∈marked l↔x∈l:=by
 have key:∀(l m:List Int),m.Nodup->(l.foldl add m).Nodup/\∀x,x∈l.foldl add m↔x∈m\/x∈l:=λl=>by
  induction l with
  |nil=>intro m h;exact⟨h,λx=>by simp⟩
  |cons y q ih=>
   intro m h;have hn:(add m y).Nodup:=by
    unfold add;split
    .exact h
    .rename_i e;rw[PU];exact⟨h,by simp,λx hx z hz e'=>by simp at hz;subst hz;exact e (by rw[<- e'];exact hx)⟩
   obtain⟨a,b⟩:=ih (add m y) hn;refine⟨a,λx=>?_⟩;rw[RD,b,add_mem,OE,or_assoc]
 obtain⟨a,b⟩:=key l [] Qf;exact⟨a,λx=>by unfold marked;rw[b];simp⟩
def start(es:List Int):St:=⟨[],marked es,[],[],[]⟩
def begun(ts:List Arr)(es:List Int):St:=ts.foldl (λS a=>lead S a.1 a.2.1 a.2.2) (start es)
section
variable{ro n sg:Int}{rs:RS}{ks:List (Int×Int)}{es:List Int}{t0:List Arr}
def hG(a:Arr):¬dA (start es) a:=by unfold dA start leaf row;simp[get]
def jP(s:Int):fol (start es) s=[]:=rfl
def Ai(he:∀e∈es,0<=e/\e<n):J ro rs (start es) v4 xP/\KT (start es)/\B ro n sg ks t0 [] (start es):=by obtain⟨m1,m2⟩:=marked_ok es;refine⟨⟨λa h=>absurd h (hG a),λx h=>(by cases h),λs r h=>(by rw[jP]at h;cases h),λa h=>absurd h (hG a)⟩,⟨by unfold Keys start;simp,λs=>by unfold Keys start row;simp[get]⟩,?_⟩;exact⟨λa h=>absurd h (hG a),λa h=>absurd h (hG a),λx h=>(by cases h),λs x h=>(by unfold start row at h;simp[get]at h),λs g=>by unfold start leaf row;simp[get],by simp[start],λa h=>(by simp[start]at h),by simp[start],λx h=>(by cases h),λx h=>(by cases h),m1,λe h=>he e ((m2 e).mp h),by unfold Keys start;simp,λs=>by rw[jP];simp,λs r h=>(by rw[jP]at h;cases h),λx h=>(by cases h)⟩
theorem sA:∀(ts:List Arr){S:St},J ro rs S v4 xP->KT S->B ro n sg ks t0 [] S->(∀a∈ts,Bx sg (n+ks.length) a/\ro<=a.2.2/\a∈t0)->
 J ro rs (ts.foldl (λS a=>lead S a.1 a.2.1 a.2.2) S) v4 xP/\KT (ts.foldl (λS a=>lead S a.1 a.2.1 a.2.2) S)/\B ro n sg ks t0 [] (ts.foldl (λS a=>lead S a.1 a.2.1 a.2.2) S)/\Le S (ts.foldl (λS a=>lead S a.1 a.2.1 a.2.2) S)/\∀a∈ts,dA (ts.foldl (λS a=>lead S a.1 a.2.1 a.2.2) S) a
 |[],S,j,k,b,_=>⟨j,k,b,Le.refl S,λa h=>by cases h⟩
 |a::ts,S,j,k,b,h=>by
  have ha:=h a (by simp);obtain⟨j',k',b',l',h'⟩:=sA ts (j.lead (s:=a.1) (g:=a.2.1) ha.2.1) (k.lead a.1 a.2.1 a.2.2) (b.lead ha.1 λ_ _=>ha.2.2) λx hx=>h x (by simp[hx]);refine⟨j',k',b',(Le.lead ..).trans l',λx hx=>?_⟩;rcases OE.mp hx with rfl|hx
  .exact l'.h _ ((br ..).mpr (.inr rfl))
  .exact h' x hx
def run(b1:n+ks.length<15000000)(b2:sg<15000000)(b3:(box sg (n+ks.length)).length<15000000)(h0:0<=ro)(hn:ro<=n)(hr:∀r∈RL,m9 ro sg ks r)(ht:∀a∈ts,Bx sg n a/\ro<=a.2.2)(he:∀e∈es,0<=e/\e<n) :
 ∃k T pp,k<=(box sg (n+ks.length)).length/\nh (begun ts es)/\Loop n (byHead RL) k (begun ts es) T/\J ro (byHead RL) T v4 xP/\KT T/\B ro n sg ks ts pp T/\T.du=[]/\(∀a∈ts,dA T a)/\(∀e∈es,e∈T.en)/\
  ∀r∈RL,r.2.2.2.length<=2->∀w,CZ T r.1 (r.2.1::w)->CZ T r.2.2.1 (r.2.2.2++w):=by
 obtain⟨j0,k0,b0⟩:=Ai (ro:=ro) (rs:=byHead RL) (sg:=sg) (ks:=ks) (t0:=ts) he;obtain⟨j1,k1,d1,l1,h1⟩:=sA ts j0 k0 b0 λa ha=>by obtain⟨⟨a1,a2,a3⟩,a4⟩:=ht a ha;exact⟨⟨⟨a1.1,by lia⟩,a2,a3.1,by lia⟩,a4,ha⟩
 obtain⟨k,T,pp,x0,x1,x2,x3,x4,x5,x6⟩:=ji (rs:=byHead RL) b1 b2 b3 h0 hn (λs g r h=>hr r (byHead_mem.mp h).1) (box sg (n+ks.length)).length [] (begun ts es) j1 k1 d1 (by simp);refine⟨k,T,pp,x0,d1.fit k1 h0 hn b1 b2 b3,x1,x2,x3,x4,x5,λa ha=>x6.h _ (h1 a ha),λe h=>x6.e _ (l1.e _ (((marked_ok es).2 e).mpr h)),λr h h2 w ha=>sx x2 x5 (byHead_mem.mpr ⟨h,rfl⟩) h2 ha⟩
end
end Sp
namespace Sp
def outs(srt:List Int->List Int)(S:St):List Arr:=(srt (S.tb.map (·.1))).flatMap λs=>(srt ((row S.tb s).map (·.1))).flatMap λg=>(srt (leaf S.tb s g)).map λt=>(s,g,t)
def C2{κ β:Type}[DecidableEq κ]{d:List (κ×β)}{k:κ}{v:β}(h:get d k=some v):k∈d.map (·.1):=OB.mpr ⟨_,lc h,rfl⟩
structure Iz(srt:List Int->List Int):Prop where
 m:∀l x,x∈srt l↔x∈l
 n:∀l,(srt l).Nodup
section
variable{srt:List Int->List Int}{ro n sg:Int}{ks:List (Int×Int)}{t0 pp:List Arr}{S:St}
def jj(h:Iz srt):a∈outs srt S↔dA S a:=by
 obtain⟨s,g,t⟩:=a;unfold outs;rw[Qa];constructor
 .rintro⟨s',h1,h2⟩;obtain⟨g',h3,h4⟩:=Qa.mp h2;obtain⟨t',h5,e⟩:=OB.mp h4;cases e;exact(h.m _ _).mp h5
 .intro ha;have ha:t∈leaf S.tb s g:=ha;obtain⟨x,hx,e1,e2⟩:=vZ ha;have hr:∃r,get S.tb s=some r:=by
   unfold row at hx;cases e:get S.tb s with
   |none=>rw[e]at hx;cases hx
   |some r=>exact⟨r,rfl⟩
  obtain⟨r,hr⟩:=hr;exact⟨s,(h.m _ _).mpr (C2 hr),Qa.mpr ⟨g,(h.m _ _).mpr (OB.mpr ⟨x,hx,e1⟩),OB.mpr ⟨t,(h.m _ _).mpr ha,rfl⟩⟩⟩
def C3(h:Iz srt):(outs srt S).Nodup:=by
 unfold outs List.Nodup;rw[List.pairwise_flatMap];refine⟨λs _=>?_,(h.n _).imp λ{a b} ne x hx y hy e=>?_⟩
 .rw[List.pairwise_flatMap];refine⟨λg _=>?_,(h.n _).imp λ{a b} ne x hx y hy e=>?_⟩
  .rw[Pi];exact(h.n _).imp λ{a b} ne e=>ne (by cases e;rfl)
  .obtain⟨_,_,rfl⟩:=OB.mp hx;obtain⟨_,_,rfl⟩:=OB.mp hy;cases e;exact ne rfl
 .obtain⟨_,_,hx⟩:=Qa.mp hx;obtain⟨_,_,hy⟩:=Qa.mp hy;obtain⟨_,_,rfl⟩:=OB.mp hx;obtain⟨_,_,rfl⟩:=OB.mp hy;cases e;exact ne rfl
noncomputable def nums(a b:Int):List Int:=(List.range (b-a).toNat).map λk:Nat=>a+(k:Int)
def nums_mem(h1:a<=x)(h2:x<b):x∈nums a b:=OB.mpr ⟨(x-a).toNat,O5.mpr (by lia),by lia⟩
def nums_len(a b:Int):(nums a b).length=(b-a).toNat:=by unfold nums;simp
def prod_len{α β γ:Type}(xs:List α)(ys:List β)(f:α->β->γ):(xs.flatMap λx=>ys.map (f x)).length=xs.length*ys.length:=by
 induction xs with
 |nil=>simp
 |cons x r ih=>rw[List.flatMap_cons,OC,ih,Ov,OV,Nat.succ_mul];lia
def outs_len(h:Iz srt)(b:B ro n sg ks t0 pp S)(hto:∀a,dA S a->ro<=a.2.2)(h0:0<=ro)(hn:ro<=n)(hs:0<=sg)(hp:ro.toNat+ks.length<=p)(hq:(n-ro).toNat+ks.length<=q):(outs srt S).length<=p*(sg.toNat*q)+t0.length:=by
 have hU:(((nums 0 ro++nums n (n+ks.length)).flatMap λs=>((nums 0 sg).flatMap λg=>(nums ro (n+ks.length)).map λt=>(g,t)).map λx=>((s,x):Arr))++t0).length<=p*(sg.toNat*q)+t0.length:=by rw[OC,prod_len,prod_len,OC,nums_len,nums_len,nums_len,nums_len];refine Nat.add_le_add_right (RR (by lia) (RR (by lia) (by lia))) _
 refine O3 (nodup_sub (C3 h) λa ha=>?_) hU;have ha:=(jj h).mp ha;obtain⟨h1,h2,h3⟩:=b.bx a ha;have h4:=hto a ha;by_cases c:ro<=a.1/\a.1<n
 .exact ON _ (b.old a ha c.1 c.2)
 .refine OX _ (Qa.mpr ⟨a.1,?_,OB.mpr ⟨a.2,Qa.mpr ⟨a.2.1,nums_mem h2.1 h2.2,OB.mpr ⟨a.2.2,nums_mem h4 h3.2,rfl⟩⟩,rfl⟩⟩);by_cases d:a.1<ro
  .exact OX _ (nums_mem h1.1 d)
  .exact ON _ (nums_mem (by lia) h1.2)
noncomputable def AccM(ts:List Arr)(es:List Int):Int->List Int->Prop
 |s,[]=>s∈es
 |s,g::w=>∃t,(s,g,t)∈ts/\AccM ts es t w
theorem v6(h:Iz srt):∀{w:List Int}{s:Int},AccM (outs srt S) (srt S.en) s w↔CZ S s w
 |[],s=>h.m _ _
 |g::w,s=>by
  unfold AccM CZ;constructor
  .rintro⟨t,h1,h2⟩;exact⟨t,(jj h).mp h1,(v6 h).mp h2⟩
  .rintro⟨t,h1,h2⟩;exact⟨t,(jj h).mpr h1,(v6 h).mpr h2⟩
structure Fw(ro sg n:Int) (RL:List Rule) (ts:List Arr) (es:List Int) (n':Int) (ts':List Arr) (es':List Int):Prop where
 t:∀a∈ts,a∈ts'
 e:∀x∈es,x∈es'
 c:∀r∈RL,r.2.2.2.length<=2->∀w,AccM ts' es' r.1 (r.2.1::w)->AccM ts' es' r.2.2.1 (r.2.2.2++w)
theorem Fw.mono(F:Fw ro sg n RL ts es n' ts' es'):∀{w:List Int}{s:Int},AccM ts es s w->AccM ts' es' s w
 |[],s,h=>F.e s h
 |g::w,s,⟨t,h1,h2⟩=>⟨t,F.t _ h1,F.mono h2⟩
def run_fw(h:Iz srt)(j:J ro (byHead RL) T v4 xP)(hd:T.du=[])(h1:∀a∈t0,dA T a)(h2:∀e∈es,e∈T.en):Fw ro sg n RL t0 es (n+T.mi.length) (outs srt T) (srt T.en):=⟨λa ha=>(jj h).mpr (h1 a ha),λe he=>(h.m _ _).mpr (h2 e he),λr hr h3 w ha=>(v6 h).mpr (sx j hd (byHead_mem.mpr ⟨hr,rfl⟩) h3 ((v6 h).mp ha))⟩
end
end Sp
namespace L2
open PySem PySem.Spec PySem.Calls PyProof.Rows
section
variable{prog:SC}{w:World}{A:SE}{E:SD->Sz->Prop}{s:Sz}{d it:Addr}{es:Array DictEntry}{ep i:Nat}
def uQ(hd:(d==sysModules)=false)(m:RawD s.heap d es ep)
 (hQ:Q (.ref s.heap.objs.size) { s with heap:=s.heap.push { cls:=.type "dict_keyiterator",data:=.fields #[.ref d,.int 0 0,.int es.size 0,.int ep 0] } }):wpAny (model prog w) A (pyIter (.ref d)) Q E s:=by
 obtain⟨o,ho,_,hdat⟩:=id m;refine Q2 m.ty F.slot_dict_iter (O_ F.slot_dict_iter m.ty F.entry_dict_iter ?_ (F.args_dict_iter_1 _));unfold Builtin.«dict.__iter__» Builtin.Dict.dictSlotNone;refine KE (KE (Qk m.ty (show wpAny _ _ (pure (Value.ref d)) _ _ s from Os ?_)));show wpAny _ _ (Builtin.Dict.showsAll d >>= _) _ _ s;unfold Builtin.Dict.showsAll;rw[Ox (by grind)];refine KE (Os (KE (Qu ho hdat (KE (Ry ho hdat (KE (Pe (Os ⟨_,rfl,"dict_keyiterator",_,⟨_,Oy _ rfl,rfl⟩,F.slot_dict_keyiterator_next.lookup,?_⟩))))))));simpa[rawInt]using hQ
def mH(y:s.heap.IsKeyIter it d i es.size ep)(m:RawD s.heap d es ep)
 (h1:∀e,es[i]?=some e->∀h',h'.IsKeyIter it d (i+1) es.size ep->Heap.SameBut it s.heap h'->Q (some e.key) {s with heap:=h'})
 (h2:es[i]?=none->A.handled=none/\∀h',Heap.ExtBut it s.heap h'->Q none {s with heap:=h'}):wpAny (model prog w) A (pyNext (.ref it)) Q E s:=by
 obtain⟨o,ho,hc,hd⟩:=id y;obtain⟨od,hod,_,hdd⟩:=id m;unfold pyNext;refine KE (R9 (PB (name:=Str.ofString "__next__") y.typeIs F.slot_dict_keyiterator_next (O_ F.slot_dict_keyiterator_next y.typeIs F.entry_dict_keyiterator_next ?_ (F.args_dict_keyiterator_next_1 _))));refine KE (Os (KE (KE ?_)))
 first|refine KE (QT y.typeIs (Os ?_))|refine KE (Ro y.typeIs (Os ?_))
 refine KE (Sk ho hd ?_);simp only[show Builtin.Dict_items.ownsTuple "dict_keyiterator"=false by decide,OD,Pk];show wpAny _ _ (if(Value.ref d==Value.none)=true then _ else _) _ _ s;rw[Ox (show ¬((Value.ref d==Value.none)=true)from OS)];refine KE (Os (KE (Qu hod hdd ?_)));rw[Ox (by simp)];refine KE (Os (KE (Ry hod hdd ?_)));rw[Ox (by simp)];refine Os ?_;simp only[show ¬((i:Int)<0)from by lia,Pk,QG];cases he:es[i]? with
 |some e=>
  refine KE ?_
  first|refine KE (QT y.typeIs (Os ?_))|refine KE (Ro y.typeIs (Os ?_))
  refine KE (wpAny_isOneOf_keyiter y.typeIs ?_);show wpAny _ _ (setField (.ref it) 1 (rawInt ((i:Int)+1)) >>= _) _ _ s;refine KE (Ra ho hd (by simp) ?_);have hit':(s.heap.update it (Obj.mapFields (·.setIfInBounds 1 (rawInt ((i:Int)+1))))).IsKeyIter it d (i+1) es.size ep:=⟨_,PP _ ho (RY (Rx hd _)),(Obj.cls_mapFields ..).trans hc,by rw[Rx hd];simp[rawInt]⟩;refine KE (Pd (KE (wpAny_isOneOf_keyiter (s:={s with heap:=s.heap.update it (Obj.mapFields (·.setIfInBounds 1 (rawInt ((i:Int)+1))))}) hit'.typeIs ?_)));show wpAny _ _ (pure e.key) _ _ _;exact Os (Os ⟨_,rfl,Os (h1 e he _ hit' (O9 ..))⟩)
 |none=>
  obtain⟨hh,hQ⟩:=h2 he;refine KE ?_
  first|refine KE (QT y.typeIs (Os ?_))|refine KE (Ro y.typeIs (Os ?_))
  show wpAny _ _ (setField (.ref it) 0 .none >>= _) _ _ s;refine KE (Ra ho hd (by simp) ?_);show wpAny _ _ (newExc (.type "StopIteration") [] >>= _) _ _ _;refine KE ?_;simp only[newExc,newTuple];refine KE (Pe ?_ (by size_fits));refine KE (m:=firstArgMember _ _) (wpAny_of_eq (a:=Value.none) (by first|rfl|(simp only[firstArgMember];rfl)) ?_);refine Pe ?_ (by size_fits);simp only[raiseNew];refine KE (wpAny_handled ?_);rw[show A.in1.handled=none from hh];refine KE (Os (wpAny_throw ?_));refine KE (QR (T:="StopIteration") (b:=true) ⟨_,Oy _ rfl,rfl⟩ isSubtype_stop ?_);exact Os (hQ _ (((O9 ..).extBut.push _).push _))
end
def xQ(d:Addr)(o:Obj)(xs:NX)(h:Heap):Prop:=gs d xs h/\h.get? d=some o
def Gp(x:xQ d o xs h):ObjOk P w H h d (.ext (xQ d o xs)):=⟨x,⟨o,x.2⟩,λh1 h2 ⟨⟨o',es,ep,q,r⟩,e⟩ k=>⟨⟨o',es,ep,k _ q,r⟩,k _ e⟩⟩
def Nm(d:Addr)(o:Obj)(xs:NX):It:=⟨λi H=>H d=some (.ext (xQ d o xs))/\i<xs.length,λi H x H'=>H'=H/\∃k b v,xs[i]?=some (k,b,v)/\x=.ref b,λi H=>H d=some (.ext (xQ d o xs))/\xs.length<=i⟩
def xR{P:SC}{w:World}{K:SB}{tg:Expr}(hex:o.ExactDict)(hdat:o.data=.dict es ep)(hes:es.toList=xs.map λx=>⟨I0 x.1,.ref x.2.1,x.2.2⟩) :
 Turn P w K tg (Nm d o xs) [it] it (λi h=>h.IsKeyIter it d i es.size ep) where
 mem:=by simp
 obj:=λi h st b hb=>by
  have e:b=it:=by simpa using hb
  subst e;obtain⟨o,e,c,q⟩:=st;exact⟨o,e,λv z=>by rw[q]at z;cases z⟩
 keep:=λi h h' st k=>st.at λo e=>k it (by simp) o e
 item:=by
  intro X hP hw hK hc i aa s σ H E I hf st hg;subst hP hw hK;obtain⟨hd,hi⟩:=hg;obtain⟨⟨_,eo⟩,_⟩:=(show ObjOk X.prog X.w H s.heap d (.ext (xQ d o xs))from I.aF d _ hd);obtain⟨f0,f1,f2,f3,f4,f5⟩:=hf it (by simp);have he:es[i]?=some ⟨I0 xs[i].1,.ref xs[i].2.1,xs[i].2.2⟩:=by rw[<- OU,hes,OI,OL hi];rfl
  refine mH st ⟨o,eo,hex,hdat⟩ (λe e1 h' st' sb=>?_) λz=>by rw[he]at z;cases z
  rw[he]at e1;cases e1;have I1:Inv X aa σ H {s with heap:=h'}:=I.turned (t':=s.toks) (λb o hb e=>(sb.2 b hb).trans e) f0 f1 f3 f4 f5;obtain⟨oi,e,c,q⟩:=id st';exact⟨_,rfl,qQ (s:={s with heap:=h'}) e c q (by decide) ⟨.ref xs[i].2.1,H,I1,rfl,⟨rfl,xs[i].1,xs[i].2.1,xs[i].2.2,OL hi,rfl⟩,st',λb hb=>(hf b hb).1⟩⟩
 done:=by
  intro X hP hw hK hc i aa s σ H E I hf st hg;subst hP hw hK;obtain⟨hd,hi⟩:=hg;obtain⟨⟨_,eo⟩,_⟩:=(show ObjOk X.prog X.w H s.heap d (.ext (xQ d o xs))from I.aF d _ hd);obtain⟨f0,f1,f2,f3,f4,f5⟩:=hf it (by simp);have hs:es.size=xs.length:=by rw[<- Pt,hes,Ov]
  refine mH st ⟨o,eo,hex,hdat⟩ (λe e1=>?_) λ_=>⟨I.ok.hd hc,λh' eb=>⟨rfl,I.turned (t':=s.toks) (λb o hb e=>eb b o hb e) f0 f1 f3 f4 f5⟩⟩;rw[Array.getElem?_eq_none (by lia)]at e1;cases e1
 self:=λ_ _ _ _ _ st h=>wpAny_pyIter_keyiter st h
section
variable{X:Cx}{tg:Expr}
def Inv.seen(I:Inv X aa σ H s)(e:H d=some (.ext P'))(new:ObjOk X.prog X.w (upd H d (.ext P'')) s.heap d (.ext P'')):Inv X aa σ (upd H d (.ext P'')) s:=by
 have kp:∀b u,H b=some u->(∀q,u≠.ext q)->upd H d (.ext P'') b=some u:=λb u q n=>by
  rw[ah]
  .exact q
  .rintro rfl;rw[e]at q;cases q;exact n _ rfl
 refine I.view (λb hb=>?_) (λb xs q=>kp b _ q λ_ z=>nomatch z) (λb o u q=>kp b _ (I.base.jY b o u q) λ_ z=>nomatch z) (λb ps q=>kp b _ q λ_ z=>nomatch z) (pz I.aF ⟨_,e,λ_ z=>(nomatch z),λ_ z=>(nomatch z)⟩ new);rw[ah]
 .exact hb
 .rintro rfl;rw[e]at hb;cases hb
def Gq(tl:TE):TI:=λσ H R=>tl σ H λx H1=>∃d xs,x=.ref d/\(d==sysModules)=false/\H1 d=some (.ext (gs d xs))/\∀o,R (Nm d o xs) (upd H1 d (.ext (xQ d o xs)))
def C4{l:Expr}(hl:PE X l tl):PI X tg l (Gq tl):=by
 intro aa s σ H R I h;refine bQ (hl aa s σ H _ I h) λv s1 ⟨x,H1,I1,r1,q1⟩=>?_;obtain⟨d,xs,e,hd,e1,q⟩:=q1;subst e;cases r1;have nd:=Eh I1 e1;obtain⟨o,es,ep,ho,hex,hdat,hes,hn⟩:=id nd;have I2:=I1.seen e1 (P'':=xQ d o xs) (Gp ⟨nd,ho⟩);refine uQ hd ⟨o,ho,hex,hdat⟩ ?_;refine⟨s1.heap.objs.size,[s1.heap.objs.size],_,_,_,rfl,I2.kept (t':=s1.toks) λb o e=>Ot _ e,xR hex hdat hes,⟨_,Oy _ rfl,rfl,rfl⟩,λb hb=>?_,q o⟩;have e:b=s1.heap.objs.size:=by simpa using hb
 subst e;exact I2.nM (Ou _) (I2.aF.fresh (Ou _))
def Nn(D:Ends):Ends where
 nx:=λσ H=>∃d o xs,H d=some (.ext (xQ d o xs))/\D.nx σ (upd H d (.ext (gs d xs)))
 rt:=D.rt
 bk:=D.bk
 ct:=D.ct
def Gr{st:Stmt}(h:PS X st t):PS X st (λD σ H=>t (Nn D) σ H):=by
 intro aa s σ H D I q;refine bQ (h aa s σ H _ I q) λf s' r=>?_;cases f with
 |next=>obtain⟨σ',H',I',d,o,xs,e,r⟩:=r;obtain⟨⟨nd,_⟩,_⟩:=(show ObjOk X.prog X.w H' s'.heap d (.ext (xQ d o xs))from I'.aF d _ e);exact⟨σ',_,I'.seen e (zB nd),r⟩
 |_=>exact r
end
end L2
namespace L4
open PySem PySem.Spec PyProof.Rows L2 L3
def KT.M9:KT H H:=λ_ _ e=>e
def KT.trans(h:KT H H')(h':KT H' H''):KT H H'':=λa ws e=>h' a ws (h a ws e)
def KT.of(s:Same H H'):KT H H':=λa _ e=>s a _ e
theorem KT.upd(h:H a=some u)(n:∀ws,u≠.tup ws):KT H (upd H a v):=λc ws e=>by rw[ah (λz=>by subst z;rw[h]at e;cases e;exact n _ rfl)];exact e
section
variable{τ:Type}
structure Ln(τ:Type) where
 z:τ->Prop
 c:τ->Option (Addr×HO)
structure Core(B H:Hp) (Z:Ln τ) (col:Addr->Option τ) (cs:τ->Option (Addr×HO)):Prop where
 same:Same B H
 c:∀t a u,cs t=some (a,u)->col a=some t/\(¬Z.z t->H a=some u/\B a=none)/\(Z.z t->B a≠none)
 l:∀t,Z.z t->cs t=Z.c t
variable{B H H':Hp}{Z:Ln τ}{col:Addr->Option τ}{cs cs':τ->Option (Addr×HO)}{t:τ}{a:Addr}{u u':HO}
def Core.at(h:Core B H Z col cs)(e:cs t=some (a,u))(z:¬Z.z t):H a=some u:=((h.c t a u e).2.1 z).1
def Core.fr(h:Core B H Z col cs)(e:cs t=some (a,u))(z:¬Z.z t):B a=none:=((h.c t a u e).2.1 z).2
def Core.ne(h:Core B H Z col cs)(e:cs t=some (a,u))(f:cs s=some (b,v))(n:s≠t):b≠a:=λz=>by subst z;have h1:=(h.c _ _ _ e).1;rw[(h.c _ _ _ f).1]at h1;exact n (PC h1)
def Core.there(h:Core B H Z col cs)(e:cs t=some (a,u)):H a≠none:=λz=>by
 by_cases q:Z.z t
 .exact(h.c t a u e).2.2 q (h.same.free z)
 .rw[h.at e q]at z;cases z
def Core.more(h:Core B H Z col cs)(s:Same H H'):Core B H' Z col cs:=⟨h.same.trans s,λt a u e=>let ⟨x,y,z⟩:=h.c t a u e;⟨x,λq=>⟨s _ _ (y q).1,(y q).2⟩,z⟩,h.l⟩
def Core.put(h:Core B H Z col cs)(e:cs t=some (a,u))(z:¬Z.z t)(h0:cs' t=some (a,u'))(hs:∀s,s≠t->cs' s=cs s):Core B (upd H a u') Z col cs':=by
 refine⟨λc v q=>?_,λs b v q=>?_,λs q=>by rw[hs s λy=>z (y▸q)];exact h.l s q⟩
 .rw[ah (λy=>by subst y;rw[h.fr e z]at q;cases q)];exact h.same c v q
 .by_cases st:s=t
  .subst st;rw[h0]at q;cases q;exact⟨(h.c _ _ _ e).1,λ_=>⟨ac,h.fr e z⟩,λy=>(z y).elim⟩
  .rw[hs s st]at q;obtain⟨x,y,w⟩:=h.c s b v q;exact⟨x,λk=>⟨by rw[ah (h.ne e q st)];exact(y k).1,(y k).2⟩,w⟩
def Core.new(h:Core B H Z col cs)(n:H a=none)(z:¬Z.z t)(h0:cs' t=some (a,u'))(hs:∀s,s≠t->cs' s=cs s):∃col',Core B (upd H a u') Z col' cs':=by
 classical
 refine⟨λc=>if c=a then some t else col c,λc v q=>by rw[ah (ak (h.same c v q) n)];exact h.same c v q,λs b v q=>?_,λs q=>by rw[hs s λy=>z (y▸q)];exact h.l s q⟩;by_cases st:s=t
 .subst st;rw[h0]at q;cases q;exact⟨Ow rfl,λ_=>⟨ac,h.same.free n⟩,λy=>(z y).elim⟩
 .rw[hs s st]at q;obtain⟨x,y,w⟩:=h.c s b v q;have nb:b≠a:=λe=>by subst e;exact h.there q n
  exact⟨by rw[Ox nb];exact x,λk=>⟨by rw[ah nb];exact(y k).1,(y k).2⟩,w⟩
def Core.lend(h:Core B H Z col cs)(e:cs t=some (a,u))(z:¬Z.z t)(u':HO):Core (upd B a u') (upd H a u') ⟨λs=>Z.z s\/s=t,cs⟩ col cs:=by
 refine⟨λc v q=>?_,λs b v q=>?_,λ_ _=>rfl⟩
 .by_cases y:c=a
  .subst y;rw[ac]at q ⊢;exact q
  .rw[ah y]at q ⊢;exact h.same c v q
 .obtain⟨x,y,w⟩:=h.c s b v q;by_cases st:s=t
  .subst st;rw[e]at q;cases q;exact⟨x,λk=>(k (.inr rfl)).elim,λ_=>by rw[ac];simp⟩
  .have nb:=h.ne e q st;rw[ah nb,ah nb];exact⟨x,λk=>y λr=>k (.inl r),λr=>w (r.resolve_right st)⟩
def Core.back(h:Core (upd B a u') H ⟨λs=>Z.z s\/s=t,cs'⟩ col cs)(e':cs' t=some (a,u))(n:B a=none)(z:¬Z.z t)(hl:∀s,Z.z s->cs' s=Z.c s):Core B (upd H a u) Z col cs:=by
 have e:cs t=some (a,u):=(h.l t (.inr rfl)).trans e';refine⟨λc v q=>?_,λs b v q=>?_,λs q=>(h.l s (.inl q)).trans (hl s q)⟩
 .have nb:c≠a:=λy=>by subst y;rw[n]at q;cases q
  rw[ah nb];exact h.same c v (by rw[ah nb];exact q)
 .obtain⟨x,y,w⟩:=h.c s b v q;by_cases st:s=t
  .subst st;rw[e]at q;cases q;exact⟨x,λ_=>⟨ac,n⟩,λk=>(z k).elim⟩
  .have nb:=h.ne e q st;rw[ah nb]at y w ⊢;exact⟨x,λk=>y λr=>r.elim k st,λr=>w (.inl r)⟩
def Core.gr(h:Core (upd B a u') H Z col cs):H a=some u':=h.same _ _ ac
end
inductive Tag where
 |o|ta|en|fo|mi|du|ru
 |row (s:Int)
 |lf (s g:Int)
 |fl (s:Int)
 |rl (k:Int×Int)
structure SA where
 o:Addr
 ta:Addr
 en:Addr
 fo:Addr
 mi:Addr
 du:Addr
 ru:Addr
noncomputable def kvB(l:List Int):List (aG×V):=l.map λi=>(.inl i,.bl true)
def b9{β:Type}(d:List (Int×β))(R:Int->Addr):List (aG×V):=d.map λx=>(.inl x.1,.ref (R x.1))
structure Fx where
 A:SA
 C:Addr
 dx:Addr
 n:Int
 rs:Sp.RS
 RA:Int×Int->Addr
 xs:Int×Int->NX
structure Vr where
 R:Int->Addr
 L:Int->Int->Addr
 F:Int->Addr
 dv:List V
 ue:HO
def Ju(f:Fx):List (Str×V):=[("rules",.ref f.A.ru),("states",.int f.n),("table",.ref f.A.ta),("ends",.ref f.A.en),("followers",.ref f.A.fo),("mids",.ref f.A.mi),("due",.ref f.A.du)]
def ng(m:List ((Int×Int)×Int)):List (List aG×V):=m.map λx=>(k2 x.1,.int x.2)
def sB(rs:Sp.RS)(RA:Int×Int->Addr):List (List aG×V):=rs.map λx=>(k2 x.1,.ref (RA x.1))
def cells(f:Fx)(S:Sp.St)(v:Vr):Tag->Option (Addr×HO)
 |.o=>some (f.A.o,.ins f.C f.dx (Ju f))
 |.ta=>some (f.A.ta,.dK (b9 S.tb v.R))
 |.en=>some (f.A.en,v.ue)
 |.fo=>some (f.A.fo,.dK (b9 S.fo v.F))
 |.mi=>some (f.A.mi,.dT (ng S.mi))
 |.du=>some (f.A.du,.lst v.dv)
 |.ru=>some (f.A.ru,.dT (sB f.rs f.RA))
 |.row s=>(Sp.get S.tb s).map λr=>(v.R s,.dK (b9 r (v.L s)))
 |.lf s g=>((Sp.get S.tb s).bind λr=>Sp.get r g).map λl=>(v.L s g,.dK (kvB l))
 |.fl s=>(Sp.get S.fo s).map λl=>(v.F s,.dK (kvB l))
 |.rl k=>(Sp.get f.rs k).map λ_=>(f.RA k,.ext (gs (f.RA k) (f.xs k)))
def Np(en:List Int)(u:HO):Prop:=u=.dK (kvB en)\/(en=[]/\u=.dT [])
structure aI(f:Fx) (Z:Ln Tag) (B H:Hp) (S:Sp.St) (v:Vr) (col:Addr->Option Tag):Prop where
 k:Core B H Z col (cells f S v)
 d:bV (IsArr H) S.du v.dv
 e:Np S.en v.ue
def SAt(f:Fx)(Z:Ln Tag)(B H:Hp)(S:Sp.St):Prop:=∃v col,aI f Z B H S v col
section
variable{f:Fx}{Z:Ln Tag}{B H H':Hp}{S:Sp.St}{v:Vr}{col:Addr->Option Tag}
theorem aI.more(h:aI f Z B H S v col)(s:Same H H'):aI f Z B H' S v col:=⟨h.k.more s,h.d.mono (IsArr.keep (.of s)),h.e⟩
section
variable{β:Type}{d:List (Int×β)}{R:Int->Addr}{s:Int}
theorem ce:∀(d:List (Int×β))(R:Int->Addr)(s:Int),aL (b9 d R) (.inl s)=(Sp.get d s).map λ_=>.ref (R s)
 |[],_,_=>rfl
 |x::d,R,s=>by
  show aL ((.inl x.1,.ref (R x.1))::b9 d R) (.inl s)=_;rw[Sp.get_cons];by_cases e:x.1=s
  .rw[aW (by rw[e]),Ow e,e];rfl
  .rw[a_ (λz=>e (Sf z)),Ox e,ce d R s]
def lh:(b9 d R).length=d.length:=by unfold b9;simp
theorem hI:∀(l:List Int)(t:Int),(aL (kvB l) (.inl t)).isSome=decide (t∈l)
 |[],_=>rfl
 |x::l,t=>by
  show(aL ((.inl x,.bl true)::kvB l) (.inl t)).isSome=_;by_cases e:x=t
  .rw[aW (by rw[e])];simp[e]
  .rw[a_ (λz=>e (Sf z)),hI l t];simp[PV e]
def jk(h:t∉l):bp (kvB l) (.inl t) (.bl true)=kvB (l++[t]):=by rw[dH _ (by have:=hI l t;rw[Po h]at this;simpa using this)];unfold kvB;simp
def qg(h:t∈l):bp (kvB l) (.inl t) (.bl true)=kvB l:=by unfold bp;rw[gv,hI,OT h,Ow rfl];unfold kvB;rw[OP];refine O0 λx _=>?_;show(if(Sum.inl x:aG)=.inl t then((Sum.inl x:aG),V.bl true)else(.inl x,.bl true))=_;split<;>rfl
def cZ:(kvB l).length=l.length:=by unfold kvB;simp
def bH{κ β:Type}[DecidableEq κ]{d:List (κ×β)}{k:κ}(h:Sp.get d k=none)(x:β)(j:κ):Sp.get (d++[(k,x)]) j=if j=k then some x else Sp.get d j:=by
 rw[Sp.get_append,Sp.get_cons,Sp.get_nil];by_cases e:j=k
 .subst e;simp[h]
 .rw[Ox (λz=>e z.symm),Ox e];simp
def jl{κ β:Type}[DecidableEq κ]{d:List (κ×β)}{k:κ}(h:Sp.get d k=none)(x y:β):Sp.put (d++[(k,x)]) k y=Sp.put d k y:=by
 have hn:∀z∈d,¬z.1=k:=λz hz e=>Sp.get_none h (OB.mpr ⟨z,hz,e⟩);unfold Sp.put;rw[bH h,Ow rfl,h,Ow (by rfl),Ox (by simp),O8];congr 1
 .exact(O0 λz hz=>Ox (hn z hz)).trans (List.map_id d)
 .simp
def C5{κ β:Type}[DecidableEq κ](d:List (κ×β))(k:κ)(x y:β):Sp.put (Sp.put d k x) k y=Sp.put d k y:=by
 by_cases h:(Sp.get d k).isSome
 .have e:Sp.put d k x=d.map λz=>if z.1=k then(z.1,x)else z:=by unfold Sp.put;rw[Ow h]
  have e2:Sp.put d k y=d.map λz=>if z.1=k then(z.1,y)else z:=by unfold Sp.put;rw[Ow h]
  rw[e2];unfold Sp.put at e ⊢;rw[Ow h,Ow (by rw[Sp.get_repl,Ow rfl];simpa using h),OP];refine O0 λz _=>?_;show(if(if z.1=k then(z.1,x)else z).1=k then _ else _)=_;by_cases q:z.1=k
  .simp[q]
  .simp[q]
 .have h:Sp.get d k=none:=by simpa using h
  have e:Sp.put d k x=d++[(k,x)]:=by unfold Sp.put;rw[h];rfl
  rw[e,jl h]
def lj(h:(Sp.get d s).isSome):b9 (Sp.put d s x) R=b9 d R:=by unfold Sp.put;rw[Ow h];unfold b9;rw[OP];refine O0 λz _=>?_;show((.inl (if z.1=s then(z.1,x)else z).1,.ref (R (if z.1=s then(z.1,x)else z).1)):aG×V)=_;split<;>rfl
noncomputable def at1(R:Int->Addr)(s:Int)(p:Addr):Int->Addr:=λu=>if u=s then p else R u
def dR:at1 R s p s=p:=Ow rfl
def mI(h:u≠s):at1 R s p u=R u:=Ox h
def qh(h:Sp.get d s=none):b9 (d++[(s,x)]) (at1 R s p)=b9 d R++[(.inl s,.ref p)]:=by
 have hn:∀z∈d,¬z.1=s:=λz hz e=>Sp.get_none h (OB.mpr ⟨z,hz,e⟩);unfold b9;rw[O8];congr 1
 .exact O0 λz hz=>by rw[mI (hn z hz)]
 .simp[dR]
def Gs(h:Sp.get d s=none):b9 d (at1 R s p)=b9 d R:=by unfold b9;exact O0 λz hz=>by rw[mI λe=>Sp.get_none h (OB.mpr ⟨z,hz,e⟩)]
end
variable{s g t:Int}{r:List (Int×List Int)}{l:List Int}
theorem aI.row(h:aI f Z B H S v col)(z1:¬Z.z .ta)(z2:¬Z.z (.row s))(e:Sp.get S.tb s=none)(hp:H p=none) :
 ∃col',aI f Z B (upd (upd H p (.dK [])) f.A.ta (.dK (b9 S.tb v.R++[(.inl s,.ref p)]))) {S with tb:=S.tb++[(s,[])]} {v with R:=at1 v.R s p} col':=by
 have h1:cells f S {v with R:=at1 v.R s p} .ta=some (f.A.ta,.dK (b9 S.tb v.R)):=by show some (_,HO.dK (b9 S.tb (at1 v.R s p)))=_;rw[Gs e]
 obtain⟨col',c1⟩:=h.k.new (t:=.row s) (u':=.dK []) (a:=p) hp z2 (cs':=λq=>match q with
  |.row u=>if u=s then some (p,.dK [])else cells f S v (.row u)
  |q=>cells f S v q) (Ow rfl) (λq hq=>by
   cases q with
   |row u=>exact Ox λz=>hq (by rw[z])
   |_=>rfl)
 have c2:=c1.put (t:=.ta) (a:=f.A.ta) (u:=.dK (b9 S.tb v.R)) (u':=.dK (b9 S.tb v.R++[(.inl s,.ref p)])) (cs':=cells f {S with tb:=S.tb++[(s,[])]} {v with R:=at1 v.R s p}) rfl z1 (by show some (_,HO.dK (b9 (S.tb++[(s,[])]) (at1 v.R s p)))=_;rw[qh e]) (λq hq=>by
  cases q with
  |ta=>exact(hq rfl).elim
  |row u=>
   show(Sp.get (S.tb++[(s,[])]) u).map _=_;rw[bH e];by_cases z:u=s
   .subst z;rw[Ow rfl];show some (at1 v.R u p u,HO.dK (b9 [] (v.L u)))=if u=u then some (p,.dK [])else _;rw[Ow rfl,dR];rfl
   .rw[Ox z];show(Sp.get S.tb u).map (λr=>(at1 v.R s p u,HO.dK (b9 r (v.L u))))=if u=s then some (p,.dK [])else _;rw[Ox z,mI z];rfl
  |lf u g=>
   show((Sp.get (S.tb++[(s,[])]) u).bind _).map _=((Sp.get S.tb u).bind _).map _;rw[bH e];by_cases z:u=s
   .subst z;rw[Ow rfl,e];rfl
   .rw[Ox z]
  |_=>rfl)
 have hta:=h.k.at (t:=.ta) rfl z1;have k2:KT H (upd (upd H p (.dK [])) f.A.ta (.dK (b9 S.tb v.R++[(.inl s,.ref p)]))):=(KT.of (ai hp)).trans (.upd (ai hp _ _ hta) λ_ z=>nomatch z);exact⟨col',c2,h.d.mono (IsArr.keep k2),h.e⟩
def aI.leaf(h:aI f Z B H S v col)(z1:¬Z.z (.row s))(z2:¬Z.z (.lf s g))(e:Sp.get S.tb s=some r)(eg:Sp.get r g=none)(hp:H p=none) :
 ∃col',aI f Z B (upd (upd H p (.dK [])) (v.R s) (.dK (b9 r (v.L s)++[(.inl g,.ref p)]))) {S with tb:=Sp.put S.tb s (r++[(g,[])])} {v with L:=λu=>if u=s then at1 (v.L s) g p else v.L u} col':=by
 obtain⟨col',c1⟩:=h.k.new (t:=.lf s g) (u':=.dK []) (a:=p) hp z2 (cs':=λq=>match q with
  |.lf u w=>if u=s/\w=g then some (p,.dK [])else cells f S v (.lf u w)
  |q=>cells f S v q) (Ow ⟨rfl,rfl⟩) (λq hq=>by
   cases q with
   |lf u w=>exact Ox λz=>hq (by rw[z.1,z.2])
   |_=>rfl)
 have hrow:cells f S v (.row s)=some (v.R s,.dK (b9 r (v.L s))):=by show(Sp.get S.tb s).map _=_;rw[e];rfl
 have c2:=c1.put (t:=.row s) (a:=v.R s) (u:=.dK (b9 r (v.L s))) (u':=.dK (b9 r (v.L s)++[(.inl g,.ref p)])) (cs':=cells f {S with tb:=Sp.put S.tb s (r++[(g,[])])} {v with L:=λu=>if u=s then at1 (v.L s) g p else v.L u}) hrow z1 (by
  show(Sp.get (Sp.put S.tb s (r++[(g,[])])) s).map _=_;rw[Sp.get_put,Ow rfl];show some (v.R s,HO.dK (b9 (r++[(g,[])]) (if s=s then at1 (v.L s) g p else v.L s)))=_;rw[Ow rfl,qh eg]) (λq hq=>by
  cases q with
  |ta=>show some (_,HO.dK (b9 (Sp.put S.tb s _) v.R))=some (_,HO.dK (b9 S.tb v.R));rw[lj (by rw[e];rfl)]
  |row u=>have z:u≠s:=λz=>hq (by rw[z]);show(Sp.get (Sp.put S.tb s (r++[(g,[])])) u).map (λq=>(v.R u,HO.dK (b9 q (if u=s then at1 (v.L s) g p else v.L u))))=(Sp.get S.tb u).map λq=>(v.R u,HO.dK (b9 q (v.L u)));rw[Sp.get_put,Ox z,Ox z]
  |lf u w=>
   show((Sp.get (Sp.put S.tb s (r++[(g,[])])) u).bind λq=>Sp.get q w).map (λl=>((if u=s then at1 (v.L s) g p else v.L u) w,HO.dK (kvB l)))=if u=s/\w=g then some (p,.dK [])else((Sp.get S.tb u).bind λq=>Sp.get q w).map λl=>(v.L u w,HO.dK (kvB l));rw[Sp.get_put];by_cases z:u=s
   .subst z;rw[Ow rfl,Ow rfl,e];show(Sp.get (r++[(g,[])]) w).map _=if u=u/\w=g then _ else(Sp.get r w).map _;rw[bH eg];by_cases y:w=g
    .subst y;rw[Ow rfl,Ow ⟨rfl,rfl⟩];show some (at1 (v.L u) w p w,_)=_;rw[dR];rfl
    .rw[Ox y,Ox λq=>y q.2,mI y]
   .rw[Ox z,Ox z,Ox λq=>z q.1]
  |_=>rfl)
 have hr:=h.k.at hrow z1;have k2:KT H (upd (upd H p (.dK [])) (v.R s) (.dK (b9 r (v.L s)++[(.inl g,.ref p)]))):=(KT.of (ai hp)).trans (.upd (ai hp _ _ hr) λ_ z=>nomatch z);exact⟨col',c2,h.d.mono (IsArr.keep k2),h.e⟩
def aI.grow(h:aI f Z B H S v col)(z:¬Z.z (.lf s g))(e:Sp.get S.tb s=some r)(eg:Sp.get r g=some l):aI f Z B (upd H (v.L s g) (.dK (kvB (l++[t])))) {S with tb:=Sp.put S.tb s (Sp.put r g (l++[t]))} v col:=by
 have hl:cells f S v (.lf s g)=some (v.L s g,.dK (kvB l)):=by show((Sp.get S.tb s).bind _).map _=_;rw[e];show(Sp.get r g).map _=_;rw[eg];rfl
 refine⟨h.k.put hl z (by show((Sp.get (Sp.put S.tb s _) s).bind λq=>Sp.get q g).map _=_;rw[Sp.get_put,Ow rfl];show(Sp.get (Sp.put r g _) g).map _=_;rw[Sp.get_put,Ow rfl];rfl) (λq hq=>?_),h.d.mono (IsArr.keep (.upd (h.k.at hl z) λ_ z=>nomatch z)),h.e⟩;cases q with
 |ta=>show some (_,HO.dK (b9 (Sp.put S.tb s _) v.R))=some (_,HO.dK (b9 S.tb v.R));rw[lj (by rw[e];rfl)]
 |row u=>
  show(Sp.get (Sp.put S.tb s _) u).map (λq=>(v.R u,HO.dK (b9 q (v.L u))))=(Sp.get S.tb u).map λq=>(v.R u,HO.dK (b9 q (v.L u)));rw[Sp.get_put];by_cases z:u=s
  .subst z;rw[Ow rfl,e];show some (_,HO.dK (b9 (Sp.put r g _) (v.L u)))=some (_,HO.dK (b9 r (v.L u)));rw[lj (by rw[eg];rfl)]
  .rw[Ox z]
 |lf u w=>
  show((Sp.get (Sp.put S.tb s _) u).bind λq=>Sp.get q w).map (λl=>(v.L u w,HO.dK (kvB l)))=((Sp.get S.tb u).bind λq=>Sp.get q w).map λl=>(v.L u w,HO.dK (kvB l));rw[Sp.get_put];by_cases z:u=s
  .subst z;rw[Ow rfl,e];show(Sp.get (Sp.put r g _) w).map _=(Sp.get r w).map _;rw[Sp.get_put,Ox λy=>hq (by rw[y])]
  .rw[Ox z]
 |_=>rfl
def aI.Oo(h:aI f Z B H S v col)(z:¬Z.z .du)(hp:H p=some (.tup (sr a))):aI f Z B (upd H f.A.du (.lst (v.dv++[.ref p]))) {S with du:=S.du++[a]} {v with dv:=v.dv++[.ref p]} col:=by have hd:cells f S v .du=some (f.A.du,.lst v.dv):=rfl;have k1:KT H (upd H f.A.du (.lst (v.dv++[.ref p]))):=.upd (h.k.at hd z) λ_ z=>nomatch z;exact⟨h.k.put hd z rfl (λq hq=>by cases q<;>first|rfl|exact(hq rfl).elim),(h.d.mono (IsArr.keep k1)).snoc ⟨p,rfl,k1 _ _ hp⟩,h.e⟩
end
structure gW(K:SB) (C:Addr):Prop where
 cl:tJ K C
 n1:NoAttr K C "rules"
 n2:NoAttr K C "states"
 n3:NoAttr K C "table"
 n4:NoAttr K C "ends"
 n5:NoAttr K C "followers"
 n6:NoAttr K C "mids"
 n7:NoAttr K C "due"
structure iS(Z:Ln Tag) (s:Int):Prop where
 o:¬Z.z .o
 ta:¬Z.z .ta
 du:¬Z.z .du
 row:¬Z.z (.row s)
 lf:∀g,¬Z.z (.lf s g)
section
variable{K:SB}{C:Addr}{f:Fx}{Z:Ln Tag}{B H:Hp}{S:Sp.St}{v:Vr}{col:Addr->Option Tag}{s g t:Int}{r:List (Int×List Int)}{l:List Int}{D:Ends}{σ:L2.St}{Q:VK}{E:XK}
theorem aI.ins(h:aI f Z B H S v col)(z:¬Z.z .o):∃dx,H f.A.o=some (.ins f.C dx (Ju f)):=⟨f.dx,h.k.at (t:=.o) rfl z⟩
theorem SAt.ins(h:SAt f Z B H S)(z:¬Z.z .o):∃dx,H f.A.o=some (.ins f.C dx (Ju f)):=let ⟨_,_,h⟩:=h;h.ins z
theorem aI.fld(h:aI f Z B H S v col)(z:¬Z.z .o)(cl:tJ K f.C)(n:NoAttr K f.C m)(hl:(Ju f).lookup m=some x)(h0:σ[i]?=some (some (.ref f.A.o))):Reads (fm K (tVar i) m) σ H x:=.fld (.va h0) (h.ins z) cl n hl
inductive d3(C:Addr):Sp
 |mk {f:Fx} {Z:Ln Tag} {B H:Hp} {S:Sp.St} {s g t:Int} {Q:VK} {E:XK} (hC:f.C=C) (P:SAt f Z B H S) (z:iS Z s) (fit:Sp.nh (Sp.lead S s g t)) (k:∀H',KT H H'->SAt f Z B H' (Sp.lead S s g t)->Q .ba H'):d3 C [.ref f.A.o,.int s,.int g,.int t] H Q E
def L9(K:SB):TS:=bn (nZ (tVar 4) (tVar 3) (tC (.bl true))) (cJ (qJ K "list" g7 (fm K (tVar 0) "due") (tCons (ib (tCons (tVar 1) (tCons (tVar 2) (tCons (tVar 3) tNil)))) tNil)))
def Gu(K:SB):TS:=tM (lD (nT (xF true) (tVar 3) (tVar 4))) (L9 K) vj
def Ey(K:SB):TS:=bn (tAsg (qJ K "dict" il (qJ K "dict" il (fm K (tVar 0) "table") (tCons (tVar 1) (tCons ci tNil))) (tCons (tVar 2) (tCons ci tNil))) (gName 4)) (Gu K)
def uR(h:d3 C vs H Q E):vs.length=4:=by cases h;rfl
def oN(h:n<15000000):n<sizeLine:=by rw[Pg];lia
def v7(ha:H a=some (.dK kvs))(hz:kvs.length<15000000)(hi:σ[i]?=some (some (.int s)))(h1:∀x p,aL kvs (.inl s)=some x->H p=none->Q x (upd H p (.dK [])))
 (h2:∀p,aL kvs (.inl s)=none->H p=none->Q (.ref p) (upd (upd H p (.dK [])) a (.dK (kvs++[(.inl s,.ref p)])))):B3 K "dict" (.ref a) H/\tCons (tVar i) (tCons ci tNil) σ H λxs H2=>il (.ref a) xs H2 Q:=by
 refine⟨.inr (.inr (.inl ⟨rfl,.inl ⟨_,ha⟩⟩)),_,hi,λp hp=>⟨a,.inl s,.ref p,kvs,rfl,rfl,.inl (by rw[ah (ak ha hp)];exact ha),oN hz,?_⟩⟩;cases e:aL kvs (.inl s)with
 |some x=>exact .inl ⟨x,rfl,h1 x p e hp⟩
 |none=>exact .inr ⟨rfl,by rw[dH _ e];exact h2 p e hp⟩
theorem DGetX.k{kvs:List (aG×V)}{k:aG}(e:H a=some (.dK kvs)):DGetX H a (kV k) (aL kvs k):=.inl (.k e)
noncomputable def NO(f:Fx)(s g t:Int)(a:Addr):L2.St:=[some (.ref f.A.o),some (.int s),some (.int g),some (.int t),some (.ref a)]
def Nq(T:gW K f.C)(P:aI f Z B H S v col)(z:iS Z s)(e:Sp.get S.tb s=some r)(eg:Sp.get r g=some l)(fit:Sp.nh (Sp.lead S s g t))(k:∀σ' H',KT H H'->SAt f Z B H' (Sp.lead S s g t)->D.nx σ' H'):Gu K D (NO f s g t (v.L s g)) H:=by
 have hc:cells f S v (.lf s g)=some (v.L s g,.dK (kvB l)):=by show((Sp.get S.tb s).bind _).map _=_;rw[e];show(Sp.get r g).map _=_;rw[eg];rfl
 have hl:=P.k.at hc (z.lf g);have el:Sp.leaf S.tb s g=l:=by unfold Sp.leaf Sp.row;rw[e];show(Sp.get r g).getD []=l;rw[eg];rfl
 have er:Sp.row S.tb s=r:=by unfold Sp.row;rw[e];rfl
 have fS:=(Sp.lead_grow S s g t).fit fit;refine sq (c:=!decide (t∈l)) (.op (.va rfl) (.va rfl) λQ q=>⟨v.L s g,_,rfl,DGetX.k (k:=.inl t) hl,by rw[Ow rfl,hI];exact q⟩) (λh=>?_) λh=>?_
 .have hn:t∉l:=by simpa using h
  have ed:Sp.lead S s g t={S with tb:=Sp.put S.tb s (Sp.put r g (l++[t])),du:=S.du++[(s,g,t)]}:=by unfold Sp.lead;rw[el,er,Ox hn]
  rw[ed]at k;refine⟨_,rfl,_,rfl,v.L s g,_,rfl,DPut.k (k:=.inl t) hl (oN (by rw[cZ,<- el];exact fS.l s g)),?_⟩;rw[jk hn];have P1:=P.grow (t:=t) (z.lf g) e eg;have k1:KT H (upd H (v.L s g) (.dK (kvB (l++[t])))):=.upd hl λ_ z=>nomatch z;generalize upd H (v.L s g) (.dK (kvB (l++[t])))=H1 at P1 k1;have hd:=P1.k.at (t:=.du) rfl z.du;unfold cJ qJ;dsimp only;refine P1.fld z.o T.cl T.n7 (x:=.ref f.A.du) rfl rfl _ ⟨.inl ⟨rfl,_,SqL.of hd⟩,?_⟩;refine uN (.c (.va rfl) (.c (.va rfl) (.c (.va rfl) .ni))) rfl λp hp=>?_;have s2:Same H1 (upd H1 p (.tup (sr (s,g,t)))):=ai hp;refine⟨f.A.du,v.dv,.ref p,rfl,rfl,s2 _ _ hd,oN (by rw[<- P.d.len];exact fS.d),?_⟩;exact k _ _ (k1.trans ((KT.of s2).trans (.upd (s2 _ _ hd) λ_ z=>nomatch z))) ⟨_,_,(P1.more s2).Oo z.du ac⟩
 .have hn:t∈l:=by simpa using h
  have ed:Sp.lead S s g t=S:=by unfold Sp.lead;rw[el,Ow hn]
  rw[ed]at k;exact k _ _ KT.M9 ⟨_,_,P⟩
def Nr(T:gW K f.C)(P:aI f Z B H S v col)(z:iS Z s)(e:Sp.get S.tb s=some r)(fit:Sp.nh (Sp.lead S s g t))(k:∀σ' H',KT H H'->SAt f Z B H' (Sp.lead S s g t)->D.nx σ' H')(hs:σ=[some (.ref f.A.o),some (.int s),some (.int g),some (.int t),none]) :
 B3 K "dict" (.ref (v.R s)) H/\tCons (tVar 2) (tCons ci tNil) σ H λxs H2=>il (.ref (v.R s)) xs H2 λx H'=>Gu K D (σ.set 4 (some x)) H':=by
 subst hs;have hc:cells f S v (.row s)=some (v.R s,.dK (b9 r (v.L s))):=by show(Sp.get S.tb s).map _=_;rw[e];rfl
 have er:Sp.row S.tb s=r:=by unfold Sp.row;rw[e];rfl
 have fS:=(Sp.lead_grow S s g t).fit fit;refine v7 (P.k.at hc z.row) (by rw[lh,<- er];exact fS.r s) rfl (λx p hv hp=>?_) λp hv hp=>?_
 .rw[ce]at hv;obtain⟨l,el,ex⟩:=OY.mp hv;subst ex;have s1:=ai (o:=.dK []) hp;exact Nq T (P.more s1) z e el fit λσ' H' k1=>k σ' H' ((KT.of s1).trans k1)
 .rw[ce]at hv;have el:Sp.get r g=none:=RG.mp hv;obtain⟨col',P1⟩:=P.leaf z.row (z.lf g) e el hp;have kt1:KT H (upd (upd H p (.dK [])) (v.R s) (.dK (b9 r (v.L s)++[(.inl g,.ref p)]))):=(KT.of (ai hp)).trans (.upd (ai hp _ _ (P.k.at hc z.row)) λ_ z=>nomatch z);have e1:Sp.lead {S with tb:=Sp.put S.tb s (r++[(g,[])])} s g t=Sp.lead S s g t:=by
   have l0:Sp.leaf S.tb s g=[]:=by unfold Sp.leaf;rw[er,el];rfl
   have r1:Sp.row (Sp.put S.tb s (r++[(g,[])])) s=r++[(g,[])]:=by rw[Sp.row_put,Ow rfl]
   have l1:Sp.leaf (Sp.put S.tb s (r++[(g,[])])) s g=[]:=by unfold Sp.leaf;rw[r1,bH el,Ow rfl];rfl
   unfold Sp.lead;rw[l0];dsimp only;rw[l1,Ox (by simp),Ox (by simp),r1,C5,jl el,er]
  have:=Nq (t:=t) (D:=D) T P1 z (Sp.get_put .. |>.trans (Ow rfl)) (g:=g) (l:=[]) ((bH el _ _).trans (Ow rfl)) (by rw[e1];exact fit) λσ' H' k1=>by rw[e1];exact k σ' H' (kt1.trans k1)
  dsimp only at this;rw[Ow rfl,dR]at this;exact this
def xS(T:gW K C)(h:d3 C vs H Q E):Ey K {nx:=λ_ H'=>Q .ba H',rt:=Q} (start ["self","start","sign","to","there"] vs) H:=by
 obtain⟨rfl,⟨v,col,P⟩,z,fit,k⟩:=h;rename_i f Z B S s g t;have fS:=(Sp.lead_grow S s g t).fit fit;have hta:=P.k.at (t:=.ta) rfl z.ta
 delta Ey bn tAsg qJ
 refine P.fld z.o T.cl T.n3 (x:=.ref f.A.ta) rfl rfl _ (v7 hta (by rw[lh];exact fS.t) rfl (λx p hv hp=>?_) λp hv hp=>?_)
 .rw[ce]at hv;obtain⟨r,er,ex⟩:=OY.mp hv;subst ex;have s1:=ai (o:=.dK []) hp;exact Nr T (P.more s1) z er fit (λ_ H' k1=>k H' ((KT.of s1).trans k1)) rfl
 .rw[ce]at hv;have er:Sp.get S.tb s=none:=RG.mp hv;obtain⟨col',P1⟩:=P.row z.ta z.row er hp;have kt1:KT H (upd (upd H p (.dK [])) f.A.ta (.dK (b9 S.tb v.R++[(.inl s,.ref p)]))):=(KT.of (ai hp)).trans (.upd (ai hp _ _ hta) λ_ z=>nomatch z);have e1:Sp.lead {S with tb:=S.tb++[(s,[])]} s g t=Sp.lead S s g t:=by
   have r0:Sp.row S.tb s=[]:=by unfold Sp.row;rw[er];rfl
   have r1:Sp.row (S.tb++[(s,[])]) s=[]:=by unfold Sp.row;rw[bH er,Ow rfl];rfl
   unfold Sp.lead Sp.leaf;dsimp only;rw[r0,r1,jl er,Ox (by simp[Sp.get]),Ox (by simp[Sp.get])]
  have:=Nr (t:=t) (g:=g) (D:={nx:=λ_ H'=>Q .ba H',rt:=Q}) T P1 z ((bH er _ _).trans (Ow rfl)) (by rw[e1];exact fit) (λ_ H' k1=>by rw[e1];exact k H' (kt1.trans k1)) rfl;dsimp only at this;rw[dR]at this;exact this
def hJ(P:SAt f Z B H S)(z:iS Z s)(fit:Sp.nh (Sp.lead S s g t)) (h:Reads ta σ H (.ref f.A.o)) (hr:ReadsA tr σ H [.int s,.int g,.int t]) (k:∀H',KT H H'->SAt f Z B H' (Sp.lead S s g t)->D.nx σ H'):cJ (dF f.C "lead" (d3 f.C) [] E0 ta tr) D σ H:=by have ins:=P.ins z.o;exact xK h ins rfl hr (.mk rfl P z fit k)
end
def gQ{J:L2.It}{n:Nat}{g:TG}{tb:TS}{D:Ends}{σ:L2.St}{H:Hp}(P:Nat->L2.St->Hp->Prop)(p0:P 0 σ H)(hgo:∀i σ H,P i σ H->i<n->J.go i H)(hst:∀σ H,P n σ H->J.stop n H)
 (hb:∀i σ H x H' (D':Ends),i<n->P i σ H->J.yx i H x H'->(∀σ' H',P (i+1) σ' H'->D'.nx σ' H')->g x σ H' λσ2 H2=>tb D' σ2 H2) (he:∀σ H,P n σ H->D.nx σ H):∃W:Nat->Nat->L2.St->Hp->Prop,(∃m,W 0 m σ H)/\∀i m σ H,W i m σ H->
 (J.stop i H/\D.nx σ H)\/(J.go i H/\∃N:L2.St->Hp->Prop,(∀σ' H',N σ' H'->∃m',m'<m/\W (i+1) m' σ' H')/\∀x H',J.yx i H x H'->g x σ H' λσ2 H2=>tb {D with nx:=N,ct:=N,bk:=D.nx} σ2 H2):=by
 refine⟨λi m σ H=>m=n-i/\i<=n/\P i σ H,⟨n,by simp,OR _,p0⟩,?_⟩;rintro i m σ H ⟨rfl,hi,p⟩;by_cases h:i<n
 .exact .inr ⟨hgo i σ H p h,P (i+1),λσ' H' q=>⟨n-(i+1),by lia,rfl,h,q⟩,λx H' y=>hb i σ H x H' _ h p y λ_ _=>id⟩
 .have e:i=n:=by lia
  subst e;exact .inl ⟨hst σ H p,he σ H p⟩
section
variable{f:Fx}{Z:Ln Tag}{B H:Hp}{S:Sp.St}{v:Vr}{col:Addr->Option Tag}{s g t:Int}{l:List Int}{a:Addr}{u u':HO}{q:Tag}
theorem aI.lend(h:aI f Z B H S v col)(e:cells f S v q=some (a,u))(z:¬Z.z q)(hu:∀ws,u≠.tup ws)(u':HO):aI f ⟨λs=>Z.z s\/s=q,cells f S v⟩ (upd B a u') (upd H a u') S v col:=⟨h.k.lend e z u',h.d.mono (IsArr.keep (.upd (h.k.at e z) hu)),h.e⟩
theorem SAt.back(h:SAt f ⟨λs=>Z.z s\/s=q,cs⟩ (upd B a u') H S)(e:cs q=some (a,u))(n:B a=none)(z:¬Z.z q)(hl:∀s,Z.z s->cs s=Z.c s)(hu:∀ws,u'≠.tup ws):SAt f Z B (upd H a u) S:=
 let ⟨v,col,h⟩:=h
 ⟨v,col,h.k.back e n z hl,h.d.mono (IsArr.keep (.upd h.k.gr hu)),h.e⟩
theorem SAt.gr(h:SAt f Z (upd B a u') H S):H a=some u':=let ⟨_,_,h⟩:=h;h.k.gr
def fH{α:Type}{step:Sp.St->α->Sp.St}(hg:∀S x,Sp.fJ S (step S x)){its:List α}{S0:Sp.St}(h:Sp.nh (its.foldl step S0)){i:Nat}{x:α}(hx:its[i]?=some x):Sp.nh (step ((its.take i).foldl step S0) x):=by
 have e:(its.take (i+1)).foldl step S0=step ((its.take i).foldl step S0) x:=by rw[Pj,hx,Q3];rfl
 rw[<- e];refine Sp.fJ.fit (Sp.foldl_grow step hg (its.drop (i+1)) _) ?_;rw[<- Q3,Ql];exact h
def dS{α:Type}{step:Sp.St->α->Sp.St}{its:List α}{S0:Sp.St}{i:Nat}{x:α}(hx:its[i]?=some x):(its.take (i+1)).foldl step S0=step ((its.take i).foldl step S0) x:=by rw[Pj,hx,Q3];rfl
def Aj(h:r≠s):Sp.get (Sp.lead S r g t).tb s=Sp.get S.tb s:=by
 unfold Sp.lead;split
 .rfl
 .show Sp.get (Sp.put S.tb r _) s=_;rw[Sp.get_put,Ox (PV h)]
theorem oO(h:r≠s):∀(l:List Int)(S:Sp.St),Sp.get (l.foldl (λS t=>Sp.lead S r g t) S).tb s=Sp.get S.tb s
 |[],_=>rfl
 |x::l,S=>(oO h l _).trans (Aj h)
theorem sC(h:r≠s):∀(l:List (Int×List Int))(S:Sp.St),Sp.get (l.foldl (Sp.copyRow r) S).tb s=Sp.get S.tb s
 |[],_=>rfl
 |x::l,S=>(sC h l _).trans (oO h x.2 S)
def aI.MZ(h:aI f Z B H S v col)(z1:¬Z.z .fo)(z2:¬Z.z (.fl s))(e:Sp.get S.fo s=none)(hp:H p=none) :
 ∃col',aI f Z B (upd (upd H p (.dK [])) f.A.fo (.dK (b9 S.fo v.F++[(.inl s,.ref p)]))) {S with fo:=S.fo++[(s,[])]} {v with F:=at1 v.F s p} col':=by
 obtain⟨col',c1⟩:=h.k.new (t:=.fl s) (u':=.dK []) (a:=p) hp z2 (cs':=λq=>match q with
  |.fl u=>if u=s then some (p,.dK [])else cells f S v (.fl u)
  |q=>cells f S v q) (Ow rfl) (λq hq=>by
   cases q with
   |fl u=>exact Ox λz=>hq (by rw[z])
   |_=>rfl)
 have c2:=c1.put (t:=.fo) (a:=f.A.fo) (u:=.dK (b9 S.fo v.F)) (u':=.dK (b9 S.fo v.F++[(.inl s,.ref p)])) (cs':=cells f {S with fo:=S.fo++[(s,[])]} {v with F:=at1 v.F s p}) rfl z1 (by show some (_,HO.dK (b9 (S.fo++[(s,[])]) (at1 v.F s p)))=_;rw[qh e]) (λq hq=>by
  cases q with
  |fo=>exact(hq rfl).elim
  |fl u=>
   show(Sp.get (S.fo++[(s,[])]) u).map _=if u=s then some (p,.dK [])else(Sp.get S.fo u).map λl=>(v.F u,HO.dK (kvB l));rw[bH e];by_cases z:u=s
   .subst z;rw[Ow rfl,Ow rfl];show some (at1 v.F u p u,HO.dK (kvB []))=_;rw[dR];rfl
   .rw[Ox z,Ox z];show(Sp.get S.fo u).map (λl=>(at1 v.F s p u,HO.dK (kvB l)))=_;rw[mI z]
  |_=>rfl)
 have hta:=h.k.at (t:=.fo) rfl z1;have k2:KT H (upd (upd H p (.dK [])) f.A.fo (.dK (b9 S.fo v.F++[(.inl s,.ref p)]))):=(KT.of (ai hp)).trans (.upd (ai hp _ _ hta) λ_ z=>nomatch z);exact⟨col',c2,h.d.mono (IsArr.keep k2),h.e⟩
def aI.MY(h:aI f Z B H S v col)(z:¬Z.z (.fl s))(e:Sp.get S.fo s=some l):aI f Z B (upd H (v.F s) (.dK (kvB (l++[r])))) {S with fo:=Sp.put S.fo s (l++[r])} v col:=by
 have hl:cells f S v (.fl s)=some (v.F s,.dK (kvB l)):=by show(Sp.get S.fo s).map _=_;rw[e];rfl
 refine⟨h.k.put hl z (by show(Sp.get (Sp.put S.fo s _) s).map _=_;rw[Sp.get_put,Ow rfl];rfl) (λq hq=>?_),h.d.mono (IsArr.keep (.upd (h.k.at hl z) λ_ z=>nomatch z)),h.e⟩;cases q with
 |fo=>show some (_,HO.dK (b9 (Sp.put S.fo s _) v.F))=some (_,HO.dK (b9 S.fo v.F));rw[lj (by rw[e];rfl)]
 |fl u=>show(Sp.get (Sp.put S.fo s _) u).map _=(Sp.get S.fo u).map _;rw[Sp.get_put,Ox λz=>hq (by rw[z])]
 |_=>rfl
def aI.Nb(h:aI f Z B H S v col)(z:¬Z.z .en)(en:List Int):aI f Z B (upd H f.A.en (.dK (kvB en))) {S with en:=en} {v with ue:=.dK (kvB en)} col:=by
 have hd:cells f S v .en=some (f.A.en,v.ue):=rfl;have k1:KT H (upd H f.A.en (.dK (kvB en))):=.upd (h.k.at hd z) λws y=>by rcases h.e with q|⟨_,q⟩<;>(rw[q]at y;cases y)
 exact⟨h.k.put hd z rfl (λq hq=>by cases q<;>first|rfl|exact(hq rfl).elim),h.d.mono (IsArr.keep k1),.inl rfl⟩
end
def OnlyR(Z:Ln Tag):Prop:=∀t,Z.z t->∃k,t=.rl k
def OnlyR.no(h:OnlyR Z)(n:∀k,t≠.rl k):¬Z.z t:=λz=>let ⟨k,e⟩:=h t z;n k e
def OnlyR.free(h:OnlyR Z)(s:Int):iS Z s:=⟨h.no λ_ e=>(nomatch e),h.no λ_ e=>(nomatch e),h.no λ_ e=>(nomatch e),h.no λ_ e=>(nomatch e),λ_=>h.no λ_ e=>(nomatch e)⟩
def iS.Nf(h:iS Z r)(n:r≠s):iS ⟨λq=>Z.z q\/q=.row s,c⟩ r:=⟨λz=>z.elim h.o λe=>(nomatch e),λz=>z.elim h.ta λe=>(nomatch e),λz=>z.elim h.du λe=>(nomatch e),λz=>z.elim h.row λe=>n (by injection e),λg z=>z.elim (h.lf g) λe=>(nomatch e)⟩
def iS.On(h:iS Z r)(n:r≠s):iS ⟨λq=>Z.z q\/q=.lf s g,c⟩ r:=⟨λz=>z.elim h.o λe=>(nomatch e),λz=>z.elim h.ta λe=>(nomatch e),λz=>z.elim h.du λe=>(nomatch e),λz=>z.elim h.row λe=>(nomatch e),λg z=>z.elim (h.lf g) λe=>n (by injection e)⟩
def L_(C:Addr):TS:=cJ (dF C "lead" (d3 C) [] E0 (tVar 0) (tCons (tVar 1) (tCons (tVar 4) (tCons (tVar 6) tNil))))
def Jv(X:Cx)(C:Addr):TS:=λD σ H=>dD (yS X (tVar 5)) (gName 6) (L_ C) (IU X D) σ H
def Gv(X:Cx)(C:Addr):TS:=λD σ H=>dD (FM X (dI (fm X.K (tVar 0) "table") (tVar 2) ci)) (tP X.K 2 (c_ (gName 4) (c_ (gName 5) tO))) (Jv X C) (IU X D) σ H
def Mb(X:Cx)(C:Addr):TS:=bn (tM (lD (nT (xF false) (tVar 2) (fm X.K (tVar 0) "ends"))) (nZ (fm X.K (tVar 0) "ends") (tVar 1) (tC (.bl true))) vj) (Gv X C)
def Md(X:Cx)(C:Addr):TS:=bn (nZ (tVar 3) (tVar 1) (tC (.bl true))) (Mb X C)
def Jw(X:Cx)(C:Addr):TS:=bn (tM (lD (nT (xF false) (tVar 1) (tVar 3))) D8 vj) (Md X C)
def v8(X:Cx)(C:Addr):TS:=bn (tAsg (qJ X.K "dict" il (fm X.K (tVar 0) "followers") (tCons (tVar 2) (tCons ci tNil))) (gName 3)) (Jw X C)
section
variable{X:Cx}{C:Addr}{f:Fx}{Z:Ln Tag}{B H:Hp}{S:Sp.St}{v:Vr}{col:Addr->Option Tag}{r s g t:Int}{w:List (Int×List Int)}{l:List Int}{D:Ends}{σ:L2.St}{Q:VK}{E:XK}{a d:Addr}
inductive gY(C:Addr):Sp
 |mk {f:Fx} {Z:Ln Tag} {B H:Hp} {S:Sp.St} {r s:Int} {Q:VK} {E:XK} (hC:f.C=C) (P:SAt f Z B H S) (z:OnlyR Z) (ne:r≠s) (kt:Sp.KT S) (fit:Sp.nh (Sp.aU S r s)) (k:∀H',KT H H'->SAt f Z B H' (Sp.aU S r s)->Q .ba H'):gY C [.ref f.A.o,.int r,.int s] H Q E
def qj(h:gY C vs H Q E):vs.length=3:=by cases h;rfl
def Lq(f:Fx)(r s:Int)(a:Addr)(σ:L2.St):Prop:=∃x y z,σ=[some (.ref f.A.o),some (.int r),some (.int s),some (.ref a),x,y,z]
def Nt(f:Fx)(r s:Int)(a:Addr)(g:Int)(d:Addr)(σ:L2.St):Prop:=∃z,σ=[some (.ref f.A.o),some (.int r),some (.int s),some (.ref a),some (.int g),some (.ref d),z]
def uS{l:List Int}{i:Nat}(h:(kvB l)[i]?=some (k,x)):∃t,l[i]?=some t/\k=.inl t:=by unfold kvB at h;rw[OI]at h;obtain⟨t,h1,h2⟩:=OY.mp h;cases h2;exact⟨t,h1,rfl⟩
def NP(T:gW X.K f.C)(P:aI f Z B H S v col)(hd:cells f S v (.lf s g)=some (d,.dK (kvB l)))(zf:iS Z r)(zl:¬Z.z (.lf s g))(ne:r≠s)(fit:Sp.nh (Sp.copyRow r S (g,l)))(hs:Nt f r s a g d σ)
 (k:∀σ' H',Lq f r s a σ'->KT H H'->SAt f Z B H' (Sp.copyRow r S (g,l))->D.nx σ' H'):Jv X f.C D σ H:=by
 have h5:σ[5]?=some (some (.ref d)):=by obtain⟨_,rfl⟩:=hs;rfl
 have hH:=P.k.at hd zl;refine⟨_,h5,d,kvB l,.dK (kvB l),rfl,.inl rfl,.inr ⟨hH,λo ho=>?_⟩⟩;have P1:=P.lend hd zl (λ_ z=>(nomatch z)) (.aV o (.dK (kvB l)));refine gQ (n:=(kvB l).length) (λi σ' H'=>Nt f r s a g d σ'/\KT H H'/\SAt f ⟨λq=>Z.z q\/q=.lf s g,cells f S v⟩ (upd B d (.aV o (.dK (kvB l)))) H' ((l.take i).foldl (λS t=>Sp.lead S r g t) S)) ⟨hs,.upd hH λ_ z=>(nomatch z),_,_,P1⟩ (λi σ' H' p hi=>⟨p.2.2.gr,hi⟩) (λσ' H' p=>⟨p.2.2.gr,Ou _⟩) (λi σ' H' x H'' D' hi p y k'=>?_) λσ' H' p=>?_
 .obtain⟨⟨z6,rfl⟩,kt,P2⟩:=p;obtain⟨rfl,kk,xx,e1,rfl⟩:=y;obtain⟨t,e2,rfl⟩:=uS e1;rw[dS e2]at k';exact hJ P2 (zf.On ne) (fH (step:=λS t=>Sp.lead S r g t) (λS x=>Sp.lead_grow S r g x) fit e2) (.va rfl) (.c (.va rfl) (.c (.va rfl) (.c (.va rfl) .ni))) λH3 k3 P3=>k' _ H3 ⟨⟨_,rfl⟩,kt.trans k3,P3⟩
 .obtain⟨⟨z6,rfl⟩,kt,P2⟩:=p;rw[cZ,Pb]at P2;exact .inr ⟨d,o,_,P2.gr,True.intro,ho,k _ _ ⟨_,_,_,rfl⟩ (kt.trans (.upd P2.gr λ_ z=>(nomatch z))) (P2.back hd (P.k.fr hd zl) zl P.k.l λ_ z=>(nomatch z))⟩
def C6{w:List (Int×List Int)}{R:Int->Addr}{i:Nat}(h:(b9 w R)[i]?=some (k,x)):∃y,w[i]?=some y/\k=.inl y.1/\x=.ref (R y.1):=by unfold b9 at h;rw[OI]at h;obtain⟨t,h1,h2⟩:=OY.mp h;cases h2;exact⟨t,h1,rfl,rfl⟩
def Nu(T:gW X.K f.C)(P:aI f Z B H S v col)(zo:OnlyR Z)(ne:r≠s)(kt:Sp.KT S)(fit:Sp.nh ((Sp.row S.tb s).foldl (Sp.copyRow r) S))(hs:Lq f r s a σ)
 (k:∀σ' H',KT H H'->SAt f Z B H' ((Sp.row S.tb s).foldl (Sp.copyRow r) S)->D.nx σ' H'):Gv X f.C D σ H:=by
 have zf:=zo.free;have hta:=P.k.at (t:=.ta) rfl (zf r).ta;have h0:σ[0]?=some (some (.ref f.A.o)):=by obtain⟨_,_,_,rfl⟩:=hs;rfl
 have h2:σ[2]?=some (some (.int s)):=by obtain⟨_,_,_,rfl⟩:=hs;rfl
 delta Gv dD FM dI
 refine P.fld (zf r).o T.cl T.n3 (x:=.ref f.A.ta) rfl h0 _ ⟨f.A.ta,rfl,.inl ⟨_,.inl hta⟩,_,h2,λp hp=>?_⟩;have s1:Same H (upd H p (.dK [])):=ai hp;refine⟨_,DGet.k (k:=.inl s) (s1 _ _ hta),?_⟩;rw[ce];cases e:Sp.get S.tb s with
 |none=>
  have er:Sp.row S.tb s=[]:=by unfold Sp.row;rw[e];rfl
  rw[er]at k;refine⟨p,[],.dK [],rfl,.inl rfl,.inr ⟨ac,λo ho=>?_⟩⟩;refine gQ (n:=0) (λi σ' H'=>H'=upd (upd H p (.dK [])) p (.aV o (.dK []))) rfl (λ_ _ _ _ hi=>absurd hi (QZ _)) (λσ' H' q=>⟨by rw[q,ac],Ou _⟩) (λ_ _ _ _ _ _ hi=>absurd hi (QZ _)) λσ' H' q=>?_;refine .inr ⟨p,o,.dK [],by rw[q,ac],True.intro,ho,?_⟩;have s2:Same H (upd H' p (.dK [])):=λc u ec=>by rw[q,ah (ak ec hp),ah (ak ec hp),ah (ak ec hp)];exact ec
  exact k _ _ (.of s2) ⟨_,_,P.more s2⟩
 |some w=>
  have er:Sp.row S.tb s=w:=by unfold Sp.row;rw[e];rfl
  rw[er]at k fit;have P0:=P.more s1;have hc:cells f S v (.row s)=some (v.R s,.dK (b9 w (v.L s))):=by show(Sp.get S.tb s).map _=_;rw[e];rfl
  have zr:¬Z.z (.row s):=(zf s).row;have hH:=P0.k.at hc zr;refine⟨v.R s,b9 w (v.L s),.dK (b9 w (v.L s)),rfl,.inl rfl,.inr ⟨hH,λo ho=>?_⟩⟩;have P1:=P0.lend hc zr (λ_ z=>(nomatch z)) (.aV o (.dK (b9 w (v.L s))));refine gQ (n:=(b9 w (v.L s)).length) (λi σ' H'=>Lq f r s a σ'/\KT H H'/\SAt f ⟨λq=>Z.z q\/q=.row s,cells f S v⟩ (upd B (v.R s) (.aV o (.dK (b9 w (v.L s))))) H' ((w.take i).foldl (Sp.copyRow r) S)) ⟨hs,(KT.of s1).trans (.upd hH λ_ z=>(nomatch z)),_,_,P1⟩ (λi σ' H' p hi=>⟨p.2.2.gr,hi⟩) (λσ' H' p=>⟨p.2.2.gr,Ou _⟩) (λi σ' H' x H'' D' hi p y k'=>?_) λσ' H' p=>?_
  .obtain⟨hs',kt',v2,col2,P2⟩:=p;obtain⟨q,kk,xx,hq,rfl,rfl,e1⟩:=y;obtain⟨x,e2,rfl,rfl⟩:=C6 e1;rw[dS e2]at k';have s2:Same H' (upd H' q (.tup [.int x.1,.ref (v.L s x.1)])):=ai hq;have lr:=P2.k.l (.row s) (.inr rfl);have g2:Sp.get ((w.take i).foldl (Sp.copyRow r) S).tb s=some w:=(sC ne _ _).trans e;have lx:v2.L s x.1=v.L s x.1:=by
    have l2:cells f ((w.take i).foldl (Sp.copyRow r) S) v2 (.row s)=some (v2.R s,.dK (b9 w (v2.L s))):=by show(Sp.get _ s).map _=_;rw[g2];rfl
    rw[l2,show(Ln.c ⟨λq=>Z.z q\/q=.row s,cells f S v⟩ (.row s))=_ from hc]at lr;have e3:b9 w (v2.L s)=b9 w (v.L s):=by injection lr with lr;injection lr with _ lr;injection lr
    have e4:=Qn (·[i]?) e3;unfold b9 at e4;simp only[OI,e2,Option.map_some,Ss,Prod.mk.injEq,V.ref.injEq]at e4;exact e4.2
   have gx:Sp.get w x.1=some x.2:=Sp.get_of (er▸kt.k2 s) (Pn e2);obtain⟨y4,y5,y6,rfl⟩:=hs';have hl:cells f ((w.take i).foldl (Sp.copyRow r) S) v2 (.lf s x.1)=some (v.L s x.1,.dK (kvB x.2)):=by show((Sp.get _ s).bind _).map _=_;rw[g2];show(Sp.get w x.1).map _=_;rw[gx,<- lx];rfl
   exact NM ac (NP T (P2.more s2) hl ((zf r).Nf ne) (λz=>z.elim ((zf s).lf _) λe=>(nomatch e)) ne (fH (step:=Sp.copyRow r) (Sp.copy_grow r) fit e2) ⟨_,rfl⟩ λσ3 H3 h3 k3 P3=>k' σ3 H3 ⟨h3,kt'.trans ((KT.of s2).trans k3),P3⟩)
  .obtain⟨hs',kt',P2⟩:=p;rw[lh,Pb]at P2;exact .inr ⟨v.R s,o,_,P2.gr,True.intro,ho,k _ _ (kt'.trans (.upd P2.gr λ_ z=>(nomatch z))) (P2.back hc (P0.k.fr hc zr) zr P0.k.l λ_ z=>(nomatch z))⟩
def Nv(T:gW X.K f.C)(P:aI f Z B H S v col)(zo:OnlyR Z)(ne:r≠s)(kt:Sp.KT S)(e:Sp.get S.fo s=some l)(fit:Sp.nh (Sp.aU S r s))(hs:Lq f r s (v.F s) σ)
 (k:∀σ' H',KT H H'->SAt f Z B H' (Sp.aU S r s)->D.nx σ' H') (k0:r∈l->D.rt .ba H):Jw X f.C D σ H:=by
 have zf:=zo.free;have zl:¬Z.z (.fl s):=zo.no λ_ e=>(nomatch e);have ze:¬Z.z .en:=zo.no λ_ e=>(nomatch e);have hc:cells f S v (.fl s)=some (v.F s,.dK (kvB l)):=by show(Sp.get S.fo s).map _=_;rw[e];rfl
 have hl:=P.k.at hc zl;have el:Sp.fol S s=l:=by unfold Sp.fol;rw[e];rfl
 have fS:=(Sp.follow_grow S r s).fit fit;have h0:σ[0]?=some (some (.ref f.A.o)):=by obtain⟨_,_,_,rfl⟩:=hs;rfl
 have h1:σ[1]?=some (some (.int r)):=by obtain⟨_,_,_,rfl⟩:=hs;rfl
 have h2:σ[2]?=some (some (.int s)):=by obtain⟨_,_,_,rfl⟩:=hs;rfl
 have h3:σ[3]?=some (some (.ref (v.F s))):=by obtain⟨_,_,_,rfl⟩:=hs;rfl
 refine sq (c:=decide (r∈l)) (.op (.va h1) (.va h3) λQ q=>⟨v.F s,_,rfl,DGetX.k (k:=.inl r) hl,by rw[Ox (by decide),hI];exact q⟩) (λh=>k0 (P7 h)) λh=>?_;have hn:r∉l:=λz=>h (OT z);have ef:Sp.aU S r s=(Sp.row S.tb s).foldl (Sp.copyRow r) (Sp.begF0 S r s):=by unfold Sp.aU;rw[el,Ox hn];unfold Sp.begF0;rw[el]
 rw[ef]at k fit;have fb:=Sp.fJ.fit (Sp.foldl_grow _ (Sp.copy_grow r) _ _) fit;refine⟨_,h3,_,h1,v.F s,_,rfl,DPut.k (k:=.inl r) hl (oN (by rw[cZ,<- el];exact fS.g s)),?_⟩;rw[jk hn];have P1:=P.MY (r:=r) zl e;have k1:KT H (upd H (v.F s) (.dK (kvB (l++[r])))):=.upd hl λ_ z=>(nomatch z);generalize upd H (v.F s) (.dK (kvB (l++[r])))=H1 at P1 k1;have en:=P1.k.at (t:=.en) rfl ze;have eg:∀x:Int,DGetX H1 f.A.en (.int x) (if x∈S.en then some (.bl true)else none):=λx=>by
  rcases P1.e with q|⟨q,q2⟩
  .have:=DGetX.k (k:=.inl x) (en.trans (Qn some q));have hv:aL (kvB S.en) (.inl x)=if x∈S.en then some (.bl true)else none:=by
    induction S.en with
    |nil=>rfl
    |cons y m ih=>
     show aL ((.inl y,.bl true)::kvB m) (.inl x)=_;by_cases e:y=x
     .rw[aW (by rw[e]),Ow (by simp[e])]
     .rw[a_ (λz=>e (Sf z)),ih];simp[PV e]
   rw[<- hv];exact this
  .rw[show S.en=[]from q];exact .inr (.inl ⟨.inl (en.trans (Qn some q2)),⟨.inl x,rfl⟩,rfl⟩)
 refine sq (c:=decide (s∈S.en)) (.op (.va h2) (P1.fld (zf s).o T.cl T.n4 (x:=.ref f.A.en) rfl h0) λQ q=>⟨f.A.en,_,rfl,eg s,by rw[Ox (by decide)];by_cases z:s∈S.en<;>simpa[z]using q⟩) (λh=>?_) λh=>?_
 .have hm:s∈S.en:=P7 h;have eu:v.ue=.dK (kvB S.en):=P1.e.resolve_right λq=>by rw[show S.en=[]from q.1]at hm;cases hm
  rw[eu]at en;unfold nZ tC;dsimp only;refine P1.fld (zf s).o T.cl T.n4 (x:=.ref f.A.en) rfl h0 _ ⟨_,h1,f.A.en,_,rfl,DPut.k (k:=.inl r) en (oN (by rw[cZ];exact fS.e)),?_⟩;have ea:bp (kvB S.en) (.inl r) (.bl true)=kvB (Sp.add S.en r):=by
   unfold Sp.add;by_cases z:r∈S.en
   .rw[Ow z,qg z]
   .rw[Ox z,jk z]
  rw[ea];have P2:=P1.Nb ze (Sp.add S.en r);have eb:({S with fo:=Sp.put S.fo s (l++[r]),en:=Sp.add S.en r}:Sp.St)=Sp.begF0 S r s:=by unfold Sp.begF0;rw[el,Ow hm]
  have P2:aI f Z B _ (Sp.begF0 S r s) _ col:=eb▸P2;exact Nu T P2 zo ne ⟨kt.k1,kt.k2⟩ fit hs λσ' H' k2=>k σ' H' (k1.trans (KT.trans (.upd en λ_ z=>(nomatch z)) k2))
 .have hm:¬s∈S.en:=λz=>h (OT z);have eb:({S with fo:=Sp.put S.fo s (l++[r])}:Sp.St)=Sp.begF0 S r s:=by unfold Sp.begF0;rw[el,Ox hm]
  have P2:aI f Z B H1 (Sp.begF0 S r s) v col:=eb▸P1;exact Nu T P2 zo ne ⟨kt.k1,kt.k2⟩ fit hs λσ' H' k2=>k σ' H' (k1.trans k2)
def sD(T:gW X.K C)(h:gY C vs H Q E):v8 X C {nx:=λ_ H'=>Q .ba H',rt:=Q} (start ["self","room","state","rooms","sign","there","to"] vs) H:=by
 obtain⟨rfl,⟨v,col,P⟩,zo,ne,kt,fit,k⟩:=h;rename_i f Z B S r s;have zf:=zo.free;have zfo:¬Z.z .fo:=zo.no λ_ e=>(nomatch e);have hfo:=P.k.at (t:=.fo) rfl zfo;have fS:=(Sp.follow_grow S r s).fit fit
 delta v8 bn tAsg qJ
 refine P.fld (zf s).o T.cl T.n5 (x:=.ref f.A.fo) rfl rfl _ (v7 hfo (by rw[lh];exact fS.f) rfl (λx p hv hp=>?_) λp hv hp=>?_)
 .rw[ce]at hv;obtain⟨l,el,ex⟩:=OY.mp hv;subst ex;have s1:=ai (o:=.dK []) hp;have P1:=P.more s1;refine Nv T P1 zo ne kt el fit ⟨_,_,_,rfl⟩ (λ_ H' k1=>k H' ((KT.of s1).trans k1)) λhr=>k _ (.of s1) ?_;have ef:Sp.aU S r s=S:=by unfold Sp.aU Sp.fol;rw[el,Ow (by simpa using hr)]
  rw[ef];exact⟨_,_,P1⟩
 .rw[ce]at hv;have er:Sp.get S.fo s=none:=RG.mp hv;obtain⟨col',P1⟩:=P.MZ zfo (zo.no λ_ e=>(nomatch e)) er hp;have kt1:KT H (upd (upd H p (.dK [])) f.A.fo (.dK (b9 S.fo v.F++[(.inl s,.ref p)]))):=(KT.of (ai hp)).trans (.upd (ai hp _ _ hfo) λ_ z=>(nomatch z));have e1:Sp.aU {S with fo:=S.fo++[(s,[])]} r s=Sp.aU S r s:=by
   have r0:Sp.fol S s=[]:=by unfold Sp.fol;rw[er];rfl
   have r1:Sp.fol {S with fo:=S.fo++[(s,[])]} s=[]:=by unfold Sp.fol;show(Sp.get (S.fo++[(s,[])]) s).getD []=[];rw[bH er,Ow rfl];rfl
   unfold Sp.aU;rw[r0,r1];simp only[PF,Pk];rw[jl er]
  have:=Nv (X:=X) (r:=r) (D:={nx:=λ_ H'=>Q .ba H',rt:=Q}) (σ:=[some (.ref f.A.o),some (.int r),some (.int s),some (.ref p),none,none,none]) T P1 zo ne ⟨kt.k1,kt.k2⟩ (s:=s) (l:=[]) ((bH er _ _).trans (Ow rfl)) (by rw[e1];exact fit) ⟨none,none,none,by show _=[_,_,_,some (V.ref (at1 v.F s p s)),_,_,_];rw[dR]⟩ (λ_ H' k1=>by rw[e1];exact k H' (kt1.trans k1)) λh=>by cases h
  exact this
end
end L4
namespace Sp
theorem KT.aU(k:KT S)(r s:Int):KT (aU S r s):=by
 unfold Sp.aU;split
 .exact k
 .exact KT.copy (row S.tb s) (S:=begF0 S r s) ⟨k.k1,k.k2⟩
def KT.mid(k:KT S)(n r g:Int):KT (midM n S r g):=by
 unfold Sp.midM;split
 .exact k
 .exact⟨k.k1,k.k2⟩
theorem KT.bB(k:KT S)(n t:Int)(r:Rule):KT (bB n t S r):=by
 unfold Sp.bB;split
 .exact k.aU ..
 .exact k.lead ..
 .exact((k.mid n _ _).lead ..).lead ..
end Sp
namespace L4
open PySem PySem.Spec PyProof.Rows L2 L3
section
variable{K:SB}{C:Addr}{f:Fx}{Z:Ln Tag}{B H:Hp}{S:Sp.St}{v:Vr}{col:Addr->Option Tag}{s g t:Int}{Q:VK}{E:XK}{c q:Addr}{r:Sp.Rule}
inductive tF(C:Addr):Sp
 |mk {f:Fx} {Z:Ln Tag} {B H:Hp} {S:Sp.St} {s g:Int} {Q:VK} {E:XK} (hC:f.C=C) (P:SAt f Z B H S) (z:OnlyR Z) (fit:Sp.nh (Sp.midM f.n S s g)) (k:∀H',KT H H'->SAt f Z B H' (Sp.midM f.n S s g)->Q (.int (Sp.midS f.n S s g)) H'):tF C [.ref f.A.o,.int s,.int g] H Q E
def xT(h:tF C vs H Q E):vs.length=3:=by cases h;rfl
def Jx(K:SB):TS:=kr (qJ K "dict" pL (fm K (tVar 0) "mids") (tCons (ib (tCons (tVar 1) (tCons (tVar 2) tNil))) (tCons (nT Ad (fm K (tVar 0) "states") (tCB Ae (tCons (fm K (tVar 0) "mids") tNil))) tNil)))
theorem qk:∀(m:List ((Int×Int)×Int))(k:Int×Int),aL (ng m) (k2 k)=(Sp.get m k).map .int
 |[],_=>rfl
 |x::m,k=>by
  show aL ((k2 x.1,.int x.2)::ng m) (k2 k)=_;rw[Sp.get_cons];by_cases e:x.1=k
  .rw[aW (by rw[e]),Ow e];rfl
  .rw[a_ (λz=>e (uO _ _ z)),Ox e,qk m k]
def aI.MW(h:aI f Z B H S v col)(z:¬Z.z .mi)(m:List ((Int×Int)×Int)):aI f Z B (upd H f.A.mi (.dT (ng m))) {S with mi:=m} v col:=by have hd:cells f S v .mi=some (f.A.mi,.dT (ng S.mi)):=rfl;have k1:KT H (upd H f.A.mi (.dT (ng m))):=.upd (h.k.at hd z) λws y=>(nomatch y);exact⟨h.k.put hd z rfl (λq hq=>by cases q<;>first|rfl|exact(hq rfl).elim),h.d.mono (IsArr.keep k1),h.e⟩
def Ak(T:gW K C)(h:tF C vs H Q E):Jx K {nx:=λ_ H'=>Q .ba H',rt:=Q} (start ["self","room","sign"] vs) H:=by
 obtain⟨rfl,⟨v,col,P⟩,zo,fit,k⟩:=h;rename_i f Z B S s g;have zf:=zo.free;have zm:¬Z.z .mi:=zo.no λ_ e=>(nomatch e);have hm:=P.k.at (t:=.mi) rfl zm;have fS:=(Sp.midM_grow f.n S s g).fit fit;unfold Jx kr qJ;refine P.fld (zf s).o T.cl T.n6 (x:=.ref f.A.mi) rfl rfl _ ⟨.inr (.inr (.inl ⟨rfl,.inr ⟨_,hm⟩⟩)),?_⟩;refine uN (ws:=[.int s,.int g]) (.c (.va rfl) (.c (.va rfl) .ni)) rfl λp hp=>?_;have s1:Same H (upd H p (.tup [.int s,.int g])):=ai hp;have P1:=P.more s1;have hm1:=s1 _ _ hm;have hp1:upd H p (.tup [.int s,.int g]) p=some (.tup ((k2 (s,g)).map kV)):=ac;generalize upd H p (.tup [.int s,.int g])=H1 at s1 P1 hm1 hp1;refine Reads.add (P1.fld (zf s).o T.cl T.n2 (x:=.int f.n) rfl rfl) (j:=(ng S.mi).length) (λQ q=>?_) _ ?_
 .exact P1.fld (zf s).o T.cl T.n6 (x:=.ref f.A.mi) rfl rfl _ ⟨f.A.mi,ng S.mi,rfl,.inl (.inl hm1),q⟩
 .refine⟨f.A.mi,p,k2 (s,g),_,ng S.mi,rfl,rfl,hp1,.inl hm1,oN (by unfold ng;rw[Ov];exact fS.m),?_⟩;rw[qk];unfold Sp.midM Sp.midS at k;cases e:Sp.get S.mi (s,g)with
  |some x=>rw[e]at k;exact .inl ⟨_,rfl,k _ (.of s1) ⟨_,_,P1⟩⟩
  |none=>
   rw[e]at k;refine .inr ⟨rfl,?_⟩;have ev:bp (ng S.mi) (k2 (s,g)) (.int (f.n+(ng S.mi).length))=ng (S.mi++[((s,g),f.n+S.mi.length)]):=by rw[dH _ (by rw[qk,e];rfl)];unfold ng;simp
   rw[ev];have P2:=P1.MW zm (S.mi++[((s,g),f.n+S.mi.length)]);have:=k _ ((KT.of s1).trans (.upd hm1 λ_ y=>(nomatch y))) ⟨_,_,P2⟩;show Q (.int (f.n+(ng S.mi).length)) _;have el:(ng S.mi).length=S.mi.length:=by unfold ng;simp
   rw[el];exact this
inductive Bo(C:Addr):Sp
 |mk {f:Fx} {Z:Ln Tag} {B H:Hp} {S:Sp.St} {r:Sp.Rule} {t:Int} {c:Addr} {Q:VK} {E:XK} (hC:f.C=C) (P:SAt f Z B H S) (z:OnlyR Z) (hr:IsRule H r (.ref c)) (ne:r.2.2.1≠t) (kt:Sp.KT S) (fit:Sp.nh (Sp.bB f.n t S r)) (k:∀H',KT H H'->SAt f Z B H' (Sp.bB f.n t S r)->Q .ba H'):Bo C [.ref f.A.o,.ref c,.int t] H Q E
def Al(h:Bo C vs H Q E):vs.length=3:=by cases h;rfl
def Me(K:SB)(C:Addr):TS:=bn (tAsg (dF C "mid_for" (tF C) [] E0 (tVar 0) (tCons (tI K 1 2) (tCons (tI K 3 0) tNil))) (gName 4))
 (bn (cJ (dF C "lead" (d3 C) [] E0 (tVar 0) (tCons (tI K 1 2) (tCons (tI K 3 0) (tCons (tVar 4) tNil)))))
   (cJ (dF C "lead" (d3 C) [] E0 (tVar 0) (tCons (tVar 4) (tCons (tI K 3 1) (tCons (tVar 2) tNil))))))
def Mg(K:SB)(C:Addr):TS:=tM (lD (nT Lb (tCB (vW K) (tCons (tVar 3) tNil)) (tC (.int 1)))) (cJ (dF C "lead" (d3 C) [] E0 (tVar 0) (tCons (tI K 1 2) (tCons (tI K 3 0) (tCons (tVar 2) tNil))))) (Me K C)
def Mh(K:SB)(C:Addr):TS:=tM (lD (nT Lb (tCB (vW K) (tCons (tVar 3) tNil)) (tC (.int 0)))) (cJ (dF C "follow" (gY C) [] E0 (tVar 0) (tCons (tI K 1 2) (tCons (tVar 2) tNil)))) (Mg K C)
def Am(K:SB)(C:Addr):TS:=bn (tAsg (tI K 1 3) (gName 3)) (Mh K C)
def C7(h:Bo C vs H Q E):Am K C {nx:=λ_ H'=>Q .ba H',rt:=Q} (start ["self","rule","state","put","mid"] vs) H:=by
 obtain @⟨f,Z,B,H,S,r,t,c,Q,E,rfl,P,zo,⟨_,q,ec,hr,hq⟩,ne,kt,fit,k⟩:=h;cases ec;have zf:=zo.free
 delta Am bn tAsg
 refine Reads.ix (.va rfl) hr (v:=.ref q) rfl _ ?_;have ins:=P.ins (zf 0).o;obtain⟨r0,r1,r2,w⟩:=r;dsimp only at hr hq ne;have hl:(((w.map V.int).length:Nat):Int)=w.length:=by simp
 refine sq (.NB (.len (.va rfl) hq) .k) (λh=>?_) λh=>sq (.NB (.len (.va rfl) hq) .k) (λh1=>?_) λh1=>?_
 .have e0:w=[]:=by have:=P7 h;rw[hl]at this;exact Rw.mp (by lia)
  subst e0;exact xK (.va rfl) ins rfl (.c (.ix (.va rfl) hr rfl) (.c (.va rfl) .ni)) (.mk rfl P zo ne kt fit k)
 .have e1:w.length=1:=by have:=P7 h1;rw[hl]at this;lia
  obtain⟨x,rfl⟩:=RH.mp e1;exact hJ P (zf r2) fit (.va rfl) (.c (.ix (.va rfl) hr rfl) (.c (.ix (.va rfl) hq rfl) (.c (.va rfl) .ni))) k
 .have n0:¬w.length=0:=λz=>h (OT (by rw[hl,z];rfl));have n1:¬w.length=1:=λz=>h1 (OT (by rw[hl,z];rfl));obtain⟨x,y,w,rfl⟩ : ∃x y u,w=x::y::u:=by
   rcases w with _|⟨x,_|⟨y,w⟩⟩
   .exact(n0 rfl).elim
   .exact(n1 rfl).elim
   .exact⟨x,y,w,rfl⟩
  have f2:=(Sp.lead_grow ..).fit fit;have f1:=(Sp.lead_grow ..).fit f2;refine xK (.va rfl) ins rfl (.c (.ix (.va rfl) hr rfl) (.c (.ix (.va rfl) hq (o8 (j:=0) rfl)) .ni)) (.mk rfl P zo f1 λH1 k1 P1=>?_);refine hJ P1 (zf r2) f2 (.va rfl) (.c (.ix (.va rfl) (k1 _ _ hr) rfl) (.c (.ix (.va rfl) (k1 _ _ hq) (o8 (j:=0) rfl)) (.c (.va rfl) .ni))) λH2 k2' P2=>?_;exact hJ P2 (zf _) fit (.va rfl) (.c (.va rfl) (.c (.ix (.va rfl) (k2' _ _ (k1 _ _ hq)) (o8 (j:=1) rfl)) (.c (.va rfl) .ni))) λH3 k3 P3=>k H3 (k1.trans (k2'.trans k3)) P3
end
end L4
namespace Sp
theorem KT.Bg{a:Arr}:∀(l:List Int){S:St},KT S->KT (l.foldl (λS r=>Sp.lead S r a.2.1 a.2.2) S)
 |[],_,k=>k
 |x::l,_,k=>KT.Bg l (k.lead ..)
theorem KT.takes:∀(l:List Rule){S:St},KT S->KT (l.foldl (Sp.bB n t) S)
 |[],_,k=>k
 |x::l,_,k=>KT.takes l (k.bB ..)
theorem KT.turn(k:KT S)(n:Int)(rs:RS)(a:Arr):KT (turn n rs a (bj S)):=KT.takes _ (KT.Bg _ (S:=bj S) ⟨k.k1,k.k2⟩)
end Sp
namespace L4
open PySem PySem.Spec PyProof.Rows L2 L3
def bV.Ik{α β:Type}{R:α->β->Prop}{xs:List α}{x:α}{ys:List β}(h:bV R (xs++[x]) ys):∃zs y,ys=zs++[y]/\bV R xs zs/\R x y:=by
 induction xs generalizing ys with
 |nil=>
  cases h with
  |cons a b=>cases b;exact⟨[],_,rfl,.nil,a⟩
 |cons w xs ih=>
  cases h with
  |cons a b=>obtain⟨zs,y,e,h1,h2⟩:=ih b;exact⟨_::zs,y,by rw[e];rfl,.cons a h1,h2⟩
def An(f:Fx)(B:Hp):Prop:=∀k rl,Sp.get f.rs k=some rl->(f.RA k==sysModules)=false/\bV (λr x=>IsRule B r (.ref x.2.1)) rl (f.xs k)
section
variable{X:Cx}{C:Addr}{f:Fx}{Z:Ln Tag}{B H:Hp}{S:Sp.St}{v:Vr}{col:Addr->Option Tag}{s g t:Int}{D:Ends}{σ:L2.St}{Q:VK}{E:XK}{b:Addr}{a:Sp.Arr}
def aI.Ni(h:aI f Z B H S v col)(z:¬Z.z .du)(hd:bV (IsArr H) du dv):aI f Z B (upd H f.A.du (.lst dv)) {S with du:=du} {v with dv:=dv} col:=by have e:cells f S v .du=some (f.A.du,.lst v.dv):=rfl;have k1:KT H (upd H f.A.du (.lst dv)):=.upd (h.k.at e z) λws y=>(nomatch y);exact⟨h.k.put e z rfl (λq hq=>by cases q<;>first|rfl|exact(hq rfl).elim),hd.mono (IsArr.keep k1),h.e⟩
inductive gV(C:Addr):Sp
 |mk {f:Fx} {Z:Ln Tag} {B H:Hp} {S T:Sp.St} {m:Nat} {Q:VK} {E:XK} (hC:f.C=C) (ok:An f B) (P:SAt f Z B H S) (z:∀t,¬Z.z t) (kt:Sp.KT S) (lp:Sp.Loop f.n f.rs m S T) (k:∀H',SAt f Z B H' T->Q .ba H'):gV C [.ref f.A.o] H Q E
def ql(h:gV C vs H Q E):vs.length=1:=by cases h;rfl
def Mi(K:SB)(C:Addr):TS:=cJ (dF C "take_rule" (Bo C) [] E0 (tVar 0) (tCons (tVar 3) (tCons (tI K 1 2) tNil)))
def C8(X:Cx)(C:Addr):TS:=λD σ H=>dD (Gq (dI (fm X.K (tVar 0) "rules") (ib (tCons (tI X.K 1 0) (tCons (tI X.K 1 1) tNil))) uA)) (gName 3) (Mi X.K C) (Nn D) σ H
def Mj(K:SB)(C:Addr):TS:=cJ (dF C "lead" (d3 C) [] E0 (tVar 0) (tCons (tVar 2) (tCons (tI K 1 1) (tCons (tI K 1 2) tNil))))
def Gw(X:Cx)(C:Addr):TS:=bn (λD σ H=>dD (yS X (dI (fm X.K (tVar 0) "followers") (tI X.K 1 0) ci)) (gName 2) (Mj X.K C) (IU X D) σ H) (C8 X C)
def Jy(X:Cx)(C:Addr):TS:=bn (tAsg (Fu X.K "list" IR (fm X.K (tVar 0) "due")) (gName 1)) (Gw X C)
def C9(X:Cx)(C:Addr):TS:=yA (λσ H Q=>fm X.K (tVar 0) "due" σ H λx H'=>∃k,BQ X.K x H' k/\Q k H') (Jy X C)
def uT(f:Fx)(b:Addr)(σ:L2.St):Prop:=∃x y,σ=[some (.ref f.A.o),some (.ref b),x,y]
def Ao(z:∀t,¬Z.z t):OnlyR Z:=λt h=>(z t h).elim
def iS.Om(h:iS Z r):iS ⟨λq=>Z.z q\/q=.fl s,c⟩ r:=⟨λz=>z.elim h.o λe=>(nomatch e),λz=>z.elim h.ta λe=>(nomatch e),λz=>z.elim h.du λe=>(nomatch e),λz=>z.elim h.row λe=>(nomatch e),λg z=>z.elim (h.lf g) λe=>(nomatch e)⟩
def v9(hp:H p=none):Same H (upd (upd (upd H p u) p (.aV o u)) p u):=λc w ec=>by rw[ah (ak ec hp),ah (ak ec hp),ah (ak ec hp)];exact ec
def qo(rs:Sp.RS)(RA:Int×Int->Addr)(k:Int×Int):aL (sB rs RA) (k2 k)=(Sp.get rs k).map λ_=>.ref (RA k):=by
 induction rs with
 |nil=>rfl
 |cons x m ih=>
  show aL ((k2 x.1,.ref (RA x.1))::sB m RA) (k2 k)=_;rw[Sp.get_cons];by_cases e:x.1=k
  .rw[aW (by rw[e]),Ow e,e];rfl
  .rw[a_ (λz=>e (uO _ _ z)),Ox e,ih]
def NQ(T:gW X.K f.C)(ok:An f B)(P:aI f Z B H S v col)(z:∀t,¬Z.z t)(kt:Sp.KT S)(ha:H b=some (.tup (sr a)))(ne:∀r∈(Sp.get f.rs (a.1,a.2.1)).getD [],r.2.2.1≠a.2.2)(fit:Sp.nh (((Sp.get f.rs (a.1,a.2.1)).getD []).foldl (Sp.bB f.n a.2.2) S))(hs:uT f b σ)
 (k:∀σ' H',uT f b σ'->SAt f Z B H' (((Sp.get f.rs (a.1,a.2.1)).getD []).foldl (Sp.bB f.n a.2.2) S)->D.nx σ' H'):C8 X f.C D σ H:=by
 have hru:=P.k.at (t:=.ru) rfl (z _);have h0:σ[0]?=some (some (.ref f.A.o)):=by obtain⟨_,_,rfl⟩:=hs;rfl
 have h1:σ[1]?=some (some (.ref b)):=by obtain⟨_,_,rfl⟩:=hs;rfl
 delta C8 dD Gq dI
 refine P.fld (z _) T.cl T.n1 (x:=.ref f.A.ru) rfl h0 _ ⟨f.A.ru,rfl,.inr ⟨_,.inl hru⟩,?_⟩;refine uN (ws:=[.int a.1,.int a.2.1]) (.c (.ix (.va h1) ha rfl) (.c (.ix (.va h1) ha rfl) .ni)) rfl λp hp p2 hp2 hne=>?_;have s1:Same H (upd H p (.tup [.int a.1,.int a.2.1])):=ai hp;have s2:=s1.trans (ai (o:=.ext (gs p2 [])) hp2);refine⟨_,DGet.t (k:=k2 (a.1,a.2.1)) (s2 _ _ hru) (ai hp2 _ _ ac),?_⟩;rw[qo];cases e:Sp.get f.rs (a.1,a.2.1)with
 |none=>rw[e]at k;refine⟨p2,[],rfl,hne,ac,λo=>?_⟩;refine gQ (n:=0) (λi σ' H'=>σ'=σ/\H'=upd (upd (upd H p (.tup [.int a.1,.int a.2.1])) p2 (.ext (gs p2 []))) p2 (.ext (xQ p2 o []))) ⟨rfl,rfl⟩ (λ_ _ _ _ hi=>absurd hi (QZ _)) (λσ' H' q=>⟨by rw[q.2,ac],Ou _⟩) (λ_ _ _ _ _ _ hi=>absurd hi (QZ _)) λσ' H' q=>?_;obtain⟨rfl,rfl⟩:=q;refine⟨p2,o,[],ac,k _ _ hs ⟨_,_,P.more λc w ec=>?_⟩⟩;have np:=ak (s1 _ _ ec) hp2;rw[ah np,ah np,ah np];exact s1 _ _ ec
 |some rl=>
  rw[e]at k fit ne;obtain⟨hsys,all⟩:=ok _ _ e;have P0:=P.more s2;have hc:cells f S v (.rl (a.1,a.2.1))=some (f.RA (a.1,a.2.1),.ext (gs (f.RA (a.1,a.2.1)) (f.xs (a.1,a.2.1)))):=by show(Sp.get f.rs _).map _=_;rw[e];rfl
  have hH:=P0.k.at hc (z _);refine⟨f.RA (a.1,a.2.1),f.xs (a.1,a.2.1),rfl,hsys,hH,λo=>?_⟩;generalize hd:f.RA (a.1,a.2.1)=d at hc hH;generalize hx:f.xs (a.1,a.2.1)=xs at hc hH all;have P1:=P0.lend hc (z _) (λ_ z=>(nomatch z)) (.ext (xQ d o xs));have zo:OnlyR ⟨λq=>Z.z q\/q=.rl (a.1,a.2.1),cells f S v⟩:=λt h=>h.elim (λh=>(z t h).elim) λh=>⟨_,h⟩;refine gQ (n:=xs.length) (λi σ' H'=>uT f b σ'/\KT H H'/\SAt f ⟨λq=>Z.z q\/q=.rl (a.1,a.2.1),cells f S v⟩ (upd B d (.ext (xQ d o xs))) H' ((rl.take i).foldl (Sp.bB f.n a.2.2) S)) ⟨hs,(KT.of s2).trans (.upd hH λ_ z=>(nomatch z)),_,_,P1⟩ (λi σ' H' p hi=>⟨p.2.2.gr,hi⟩) (λσ' H' p=>⟨p.2.2.gr,Ou _⟩) (λi σ' H' x H'' D' hi p y k'=>?_) λσ' H' p=>?_
  .obtain⟨⟨x2,x3,rfl⟩,kt',P2⟩:=p;obtain⟨rfl,kk,bb,vv,e1,rfl⟩:=y;obtain⟨r,e2,ir⟩:=all.get e1;rw[dS e2]at k';have ktB:KT B H:=.of P.k.same;have ins:=P2.ins (zo.free 0).o;exact xK (.va rfl) ins rfl (.c (.va rfl) (.c (.ix (.va rfl) (kt' _ _ ha) rfl) .ni)) (.mk rfl P2 zo (IsRule.keep (ktB.trans kt') _ _ ir) (ne r (Pn e2)) (Sp.KT.takes _ kt) (fH (step:=Sp.bB f.n a.2.2) (Sp.takeR_grow f.n a.2.2) fit e2) λH3 k3 P3=>k' _ H3 ⟨⟨_,_,rfl⟩,kt'.trans k3,P3⟩)
  .obtain⟨hs',kt',P2⟩:=p;rw[<- all.len,Pb]at P2;exact⟨d,o,xs,P2.gr,k _ _ hs' (P2.back hc (P0.k.fr hc (z _)) (z _) P0.k.l λ_ z=>(nomatch z))⟩
def NR(T:gW X.K f.C)(ok:An f B)(P:aI f Z B H S v col)(z:∀t,¬Z.z t)(kt:Sp.KT S)(ha:H b=some (.tup (sr a)))(ne:∀r∈(Sp.get f.rs (a.1,a.2.1)).getD [],r.2.2.1≠a.2.2)(fit:Sp.nh (Sp.turn f.n f.rs a S))(hs:uT f b σ)
 (k:∀σ' H',uT f b σ'->SAt f Z B H' (Sp.turn f.n f.rs a S)->D.nx σ' H'):Gw X f.C D σ H:=by
 have zf:=(Ao z).free;have hfo:=P.k.at (t:=.fo) rfl (z _);have h0:σ[0]?=some (some (.ref f.A.o)):=by obtain⟨_,_,rfl⟩:=hs;rfl
 have h1:σ[1]?=some (some (.ref b)):=by obtain⟨_,_,rfl⟩:=hs;rfl
 have fitF:Sp.nh (Sp.iz a S):=Sp.fJ.fit (Sp.foldl_grow _ (Sp.takeR_grow f.n a.2.2) _ _) fit;have next:∀σ' H',uT f b σ'->KT H H'->SAt f Z B H' (Sp.iz a S)->C8 X f.C D σ' H':=λσ' H' hs' k1 ⟨v',col',P'⟩=>NQ T ok P' z (Sp.KT.Bg _ kt) (k1 _ _ ha) ne fit hs' k
 delta Gw bn dD yS dI
 dsimp only;refine P.fld (z _) T.cl T.n5 (x:=.ref f.A.fo) rfl h0 _ ⟨f.A.fo,rfl,.inl ⟨_,.inl hfo⟩,?_⟩;refine Reads.ix (.va h1) ha (v:=.int a.1) rfl _ λp hp=>?_;have s1:Same H (upd H p (.dK [])):=ai hp;refine⟨_,DGet.k (k:=.inl a.1) (s1 _ _ hfo),?_⟩;rw[ce];cases e:Sp.get S.fo a.1 with
 |none=>
  have er:Sp.iz a S=S:=by unfold Sp.iz Sp.fol;rw[e];rfl
  rw[er]at next;refine⟨p,[],.dK [],rfl,.inl rfl,.inr ⟨ac,λo ho=>?_⟩⟩;refine gQ (n:=0) (λi σ' H'=>σ'=σ/\H'=upd (upd H p (.dK [])) p (.aV o (.dK []))) ⟨rfl,rfl⟩ (λ_ _ _ _ hi=>absurd hi (QZ _)) (λσ' H' q=>⟨by rw[q.2,ac],Ou _⟩) (λ_ _ _ _ _ _ hi=>absurd hi (QZ _)) λσ' H' q=>?_;obtain⟨rfl,rfl⟩:=q;exact .inr ⟨p,o,.dK [],ac,True.intro,ho,next _ _ hs (.of (v9 hp)) ⟨_,_,P.more (v9 hp)⟩⟩
 |some l=>
  have er:Sp.iz a S=l.foldl (λS r=>Sp.lead S r a.2.1 a.2.2) S:=by unfold Sp.iz Sp.fol;rw[e];rfl
  rw[er]at next fitF;have P0:=P.more s1;have hc:cells f S v (.fl a.1)=some (v.F a.1,.dK (kvB l)):=by show(Sp.get S.fo a.1).map _=_;rw[e];rfl
  have hH:=P0.k.at hc (z _);refine⟨v.F a.1,kvB l,.dK (kvB l),rfl,.inl rfl,.inr ⟨hH,λo ho=>?_⟩⟩;have P1:=P0.lend hc (z _) (λ_ z=>(nomatch z)) (.aV o (.dK (kvB l)));refine gQ (n:=(kvB l).length) (λi σ' H'=>uT f b σ'/\KT H H'/\SAt f ⟨λq=>Z.z q\/q=.fl a.1,cells f S v⟩ (upd B (v.F a.1) (.aV o (.dK (kvB l)))) H' ((l.take i).foldl (λS r=>Sp.lead S r a.2.1 a.2.2) S)) ⟨hs,(KT.of s1).trans (.upd hH λ_ z=>(nomatch z)),_,_,P1⟩ (λi σ' H' p hi=>⟨p.2.2.gr,hi⟩) (λσ' H' p=>⟨p.2.2.gr,Ou _⟩) (λi σ' H' x H'' D' hi p y k'=>?_) λσ' H' p=>?_
  .obtain⟨⟨x2,x3,rfl⟩,kt',P2⟩:=p;obtain⟨rfl,kk,xx,e1,rfl⟩:=y;obtain⟨r,e2,rfl⟩:=uS e1;rw[dS e2]at k';exact hJ P2 (zf r).Om (fH (step:=λS r=>Sp.lead S r a.2.1 a.2.2) (λS x=>Sp.lead_grow S x _ _) fitF e2) (.va rfl) (.c (.va rfl) (.c (.ix (.va rfl) (kt' _ _ ha) rfl) (.c (.ix (.va rfl) (kt' _ _ ha) rfl) .ni))) λH3 k3 P3=>k' _ H3 ⟨⟨_,_,rfl⟩,kt'.trans k3,P3⟩
  .obtain⟨hs',kt',P2⟩:=p;rw[cZ,Pb]at P2;exact .inr ⟨v.F a.1,o,_,P2.gr,True.intro,ho,next _ _ hs' (kt'.trans (.upd P2.gr λ_ z=>(nomatch z))) (P2.back hc (P0.k.fr hc (z _)) (z _) P0.k.l λ_ z=>(nomatch z))⟩
def wS(f:Fx)(Z:Ln Tag)(B:Hp)(T:Sp.St)(m:Nat)(σ:L2.St)(H:Hp):Prop:=(∃x y z,σ=[some (.ref f.A.o),x,y,z])/\∃S,SAt f Z B H S/\Sp.KT S/\Sp.Loop f.n f.rs m S T
def sF(T:gW X.K C)(h:gV C vs H Q E):C9 X C {nx:=λ_ H'=>Q .ba H',rt:=Q} (start ["self","arrow","room","rule"] vs) H:=by
 obtain @⟨f,Z,B,H,S,S',n,Q,E,rfl,ok,P,z,kt,lp,k⟩:=h;refine⟨wS f Z B S',⟨n,⟨none,none,none,rfl⟩,S,P,kt,lp⟩,?_⟩;clear P lp kt;rintro m σ H ⟨hs,S,⟨v,col,P⟩,kt,lp⟩;have h0:σ[0]?=some (some (.ref f.A.o)):=by obtain⟨_,_,_,rfl⟩:=hs;rfl
 have hdu:=P.k.at (t:=.du) rfl (z _);refine P.fld (z _) T.cl T.n7 (x:=.ref f.A.du) rfl h0 _ ⟨_,.inl ⟨_,SqL.of hdu,rfl⟩,?_⟩;cases lp with
 |done e=>
  have ev:v.dv=[]:=by have:=P.d.len;rw[e]at this;exact Rw.mp this.symm
  rw[ev];exact wZ (k H ⟨v,col,P⟩)
 |@step m _ _ a hd ne fit lp=>
  obtain⟨ys,e⟩:=Re.mp hd;obtain⟨zs,_,ev,all,b,rfl,hb⟩:=(e▸P.d).Ik;have hne:(!v.dv.isEmpty)=true:=by rw[ev];simp
  rw[hne];refine qY ⟨wS f Z B S' m,λσ' H' h'=>⟨m,Rf _,h'⟩,?_⟩;rw[ev]at hdu;unfold Jy bn tAsg Fu;dsimp only;refine P.fld (z _) T.cl T.n7 (x:=.ref f.A.du) rfl h0 _ ⟨.inl ⟨rfl,_,SqL.of hdu⟩,f.A.du,zs++[.ref b],.ref b,rfl,rfl,hdu,by simp,?_⟩;rw[List.dropLast_concat];have P1:=P.Ni (z _) all;have ed:({S with du:=ys}:Sp.St)=Sp.bj S:=by unfold Sp.bj;rw[e];simp
  have P1:aI f Z B _ (Sp.bj S) _ col:=ed▸P1;obtain⟨x,y,w,rfl⟩:=hs;exact NR T ok P1 z ⟨kt.k1,kt.k2⟩ (KT.upd hdu (λ_ y=>(nomatch y)) _ _ hb) ne fit ⟨_,_,rfl⟩ λσ' H' ⟨x,y,hs'⟩ P'=>⟨⟨_,_,_,hs'⟩,_,P',kt.turn ..,lp⟩
end
noncomputable abbrev yt:List Str:=["to"]
structure Small(S:Sp.St):Prop where
 t:S.tb.length<=63
 r:∀s,(Sp.row S.tb s).length<=63
 l:∀s g,(Sp.leaf S.tb s g).length<=63
 e:S.en.length<=63
def xU:List V->Hp->VK->Prop:=λxs H Q=>∃(d:Addr)(kvs:List (aG×V))(u:HO)(is:List Int),xs=[.ref d]/\(u=.dK kvs\/(u=.dT []/\kvs=[]))/\Rd H d u/\kvs.map (·.1)=is.map Sum.inl/\is.length<=63/\
 ∀(l:Addr)(ks:List Int),H l=none->(∀k,k∈ks↔k∈is)->ks.Pairwise (·< ·)->Q (.ref l) (upd H l (.lst (ks.map V.int)))
def jm(hc:X.calm=true):CallR X (.builtin "sorted") xU:=nC hc
section
variable{X:Cx}{K:SB}{C:Addr}{f:Fx}{Z:Ln Tag}{B H H0:Hp}{S:Sp.St}{v:Vr}{col:Addr->Option Tag}{s g:Int}{D:Ends}{σ:L2.St}{Q:VK}{E:XK}{la:Addr}{scope:Scope}{tg elt:Expr}{capN:List Str}{caps:List Nat}
def qp(h:Reads ta σ H (.ref d))(hu:u=.dK kvs\/(u=.dT []/\kvs=[]))(hd:H d=some u)(hk:kvs.map (·.1)=is.map Sum.inl)(hz:is.length<=63)(k:∀l,H l=none->Q (.ref l) (upd H l (.lst ((aD is).map .int)))):tCB xU (tCons ta tNil) σ H Q:=h _ ⟨d,kvs,u,is,rfl,hu,.inl hd,hk,hz,λl ks hl hm hp=>by rw[gO ks (aD is) hp (jf is) λx=>by rw[hm,cQ]];exact k l hl⟩
def sG{β:Type}(d:List (Int×β))(R:Int->Addr):(b9 d R).map (·.1)=(d.map (·.1)).map Sum.inl:=by unfold b9;simp
def sH(l:List Int):(kvB l).map (·.1)=l.map Sum.inl:=by unfold kvB;simp
def Gx{l:Addr}{ks:List Int}{Fin:Addr->List V->Hp->Prop}(hcap:iJ σ caps=[some (.int s),some (.int g)])(hg:∀cl C s3 H3 fp,PG (aT X scope (yt++capN) cl C s3 H3 fp) tg (gName 0))(he:∀cl C s3 H3 fp,PE (aT X scope (yt++capN) cl C s3 H3 fp) elt (ib (tCons (tVar 1) (tCons (tVar 2) (tCons (tVar 0) tNil)))))
 (hl:H1 l=some (.lst (ks.map .int))) (hz:ks.length<15000000) (k:∀Dl vs H',H1 Dl=none->Same H1 H'->H' Dl=some (.lst vs)->bV (IsArr H') (ks.map λt=>((s,g,t):Sp.Arr)) vs->Fin Dl vs H'):dO X scope tg yt capN caps elt [] σ Fin (Bq X.K l) H1:=by
 intro Dl hD cl C s3 fp;refine⟨_,_,_,λi m acc H'=>m=ks.length-i/\i<=ks.length/\bV (IsArr H') ((ks.take i).map λt=>((s,g,t):Sp.Arr)) acc/\Same H1 H'/\H' Dl=some (.lst acc),hg cl C s3 _ fp,pY,he cl C s3 _ fp,⟨ks.length,by simp,OR _,.nil,ai hD,ac⟩,?_⟩;rintro i m acc H' ⟨rfl,hi,a2,sm,hDl⟩;have hl':=sm _ _ hl;refine⟨hDl,?_⟩;by_cases hlt:i<ks.length
 .right;refine⟨⟨_,.int ks[i],SqL.of hl',by simp[hlt]⟩,λxv H'' o y ho=>?_⟩;obtain⟨rfl,y⟩:=y;have hx:=y _ (SqL.of hl');rw[OI,OL hlt]at hx;cases hx;obtain⟨u0,rfl⟩:=RH.mp ho;rw[hcap];refine⟨λj hj=>?_,?_⟩
  .obtain⟨j,rfl⟩:=Nat.exists_eq_add_of_le' (show 1<=j from hj);rfl
  .refine qY ?_;refine uN (ws:=sr (s,g,ks[i])) (.c (.va rfl) (.c (.va rfl) (.c (.va rfl) .ni))) rfl λp hp=>?_;have np:Dl≠p:=ak hDl hp;have s2:Same H'' (upd H'' p (.tup (sr (s,g,ks[i])))):=ai hp;have k3:KT H'' (upd (upd H'' p (.tup (sr (s,g,ks[i])))) Dl (.lst (acc++[.ref p]))):=(KT.of s2).trans (.upd (s2 _ _ hDl) λ_ z=>(nomatch z));refine⟨s2 _ _ hDl,oN ?_,ks.length-(i+1),by lia,rfl,hlt,?_,λc u e=>?_,ac⟩
   .rw[<- a2.len,Ov,PQ];lia
   .rw[Pj,OL hlt,O8];exact(a2.mono (IsArr.keep k3)).snoc ⟨p,rfl,by rw[ah (PV np),ac]⟩
   .rw[ah (ak e hD)];exact s2 _ _ (sm _ _ e)
 .left;have ei:i=ks.length:=by lia
  subst ei;rw[Pb]at a2;exact⟨⟨_,SqL.of hl',by simp⟩,k Dl acc H' hD sm hDl a2⟩
inductive mX(C:Addr):Sp
 |mk {f:Fx} {Z:Ln Tag} {B H:Hp} {S:Sp.St} {Q:VK} {E:XK} (hC:f.C=C) (P:SAt f Z B H S) (z:∀t,¬Z.z t) (sm:Small S) (ln:(Sp.outs aD S).length<15000000)
  (k:∀(a l e:Addr)(vs:List V)(H':Hp),Same H H'->H' a=some (.tup [.int (f.n+S.mi.length),.ref l,.ref e])->H l=none->H' l=some (.lst vs)->bV (IsArr H') (Sp.outs aD S) vs->H e=none->H' e=some (.lst ((aD S.en).map .int))->l≠e->Q (.ref a) H'):mX C [.ref f.A.o] H Q E
def uU(h:mX C vs H Q E):vs.length=1:=by cases h;rfl
def sI(K:SB):TE:=fm K (tVar 0) "table"
def Ap(X:Cx)(scope:Scope)(tg elt:Expr)(capN:List Str)(caps:List Nat):TE:=kh X scope tg yt capN caps elt [] (cu X.K (tCB xU (tCons (iW (iW (sI X.K) (tVar 2)) (tVar 3)) tNil)))
def Jz(K:SB)(tc:TE):TS:=cJ (qJ K "list" vn (tVar 1) (tCons tc tNil))
def Gy(K:SB)(tc:TE):TS:=dD (cu K (tCB xU (tCons (iW (sI K) (tVar 2)) tNil))) (gName 3) (Jz K tc)
def Gz(K:SB)(tc:TE):TS:=dD (cu K (tCB xU (tCons (sI K) tNil))) (gName 2) (Gy K tc)
def GA(K:SB):TS:=kr (ib (tCons (nT Ad (fm K (tVar 0) "states") (tCB Ae (tCons (fm K (tVar 0) "mids") tNil))) (tCons (tVar 1) (tCons (tCB xU (tCons (fm K (tVar 0) "ends") tNil)) tNil))))
def JA(X:Cx)(scope:Scope)(tg elt:Expr)(capN:List Str)(caps:List Nat):TS:=bn (tAsg (nq tNil) (gName 1)) (bn (Gz X.K (Ap X scope tg elt capN caps)) (GA X.K))
def Lr(f:Fx)(la:Addr)(σ:L2.St):Prop:=∃x y,σ=[some (.ref f.A.o),some (.ref la),x,y]
def Kp(la:Addr)(G H:Hp):Prop:=∀c u,G c=some u->c≠la->H c=some u
def Kp.trans(h:Kp la G H)(h':Kp la H H'):Kp la G H':=λc u e n=>h' c u (h c u e n) n
def Kp.of(s:Same G H):Kp la G H:=λc u e _=>s c u e
def Lst(la:Addr)(H:Hp)(ls:List Sp.Arr):Prop:=∃vs,H la=some (.lst vs)/\bV (IsArr H) ls vs
def Lst.more(h:Lst la H ls)(s:Same H H'):Lst la H' ls:=let ⟨vs,e,a⟩:=h;⟨vs,s _ _ e,a.mono (IsArr.keep (.of s))⟩
def v_{α β:Type}{l:List α}{h:α->List β}{i:Nat}{x:α}(e:l[i]?=some x):(l.take (i+1)).flatMap h=(l.take i).flatMap h++h x:=by rw[Pj,e,List.flatMap_append];simp
def Aq{α β:Type}{l:List α}{h:α->List β}(i:Nat):((l.take i).flatMap h).length<=(l.flatMap h).length:=by
 have:l.flatMap h=(l.take i).flatMap h++(l.drop i).flatMap h:=by rw[<- List.flatMap_append,Ql]
 rw[this,OC];lia
def NS{l:List Int}{pre:List Sp.Arr}(T:gW X.K f.C)(P:aI f Z B H0 S v col)(z:∀t,¬Z.z t)(hcap:caps=[2,3])(hg:∀cl C s3 H3 fp,PG (aT X scope (yt++capN) cl C s3 H3 fp) tg (gName 0))(he:∀cl C s3 H3 fp,PE (aT X scope (yt++capN) cl C s3 H3 fp) elt (ib (tCons (tVar 1) (tCons (tVar 2) (tCons (tVar 0) tNil)))))
 {r:List (Int×List Int)} (er:Sp.get S.tb s=some r) (eg:Sp.get r g=some l) (hz:l.length<=63) (n0:H0 la=none) (kp:Kp la H0 H) (L:Lst la H pre) (hln:pre.length+(aD l).length<15000000) (hs:σ=[some (.ref f.A.o),some (.ref la),some (.int s),some (.int g)])
 (k:∀H',Kp la H H'->Lst la H' (pre++(aD l).map λt=>((s,g,t):Sp.Arr))->D.nx σ H'):Jz X.K (Ap X scope tg elt capN caps) D σ H:=by
 subst hs;have ks:∀{c u},H0 c=some u->H c=some u:=λ{c u} e=>kp c u e (ak e n0);obtain⟨vs,hv,av⟩:=L;have ho:=ks (P.k.at (t:=.o) rfl (z _));have hta:=ks (P.k.at (t:=.ta) rfl (z _));have hrow:=ks (P.k.at (t:=.row s) (a:=v.R s) (u:=.dK (b9 r (v.L s))) (by show(Sp.get S.tb s).map _=_;rw[er];rfl) (z _));have hlf:=ks (P.k.at (t:=.lf s g) (a:=v.L s g) (u:=.dK (kvB l)) (by show((Sp.get S.tb s).bind _).map _=_;rw[er];show(Sp.get r g).map _=_;rw[eg];rfl) (z _));refine⟨_,rfl,.inl ⟨rfl,vs,SqL.of hv⟩,?_⟩
 delta Ap kh cu tCons
 dsimp only;refine qp (ta:=iW (iW (sI X.K) (tVar 2)) (tVar 3)) (d:=v.L s g) (λQ q=>?_) (.inl rfl) hlf (sH l) hz λl1 hl1=>?_
 .delta iW sI
  dsimp only;refine Reads.fld (.va rfl) ⟨f.dx,ho⟩ T.cl T.n3 (v:=.ref f.A.ta) rfl _ ⟨_,rfl,f.A.ta,.ref (v.R s),rfl,?_,_,rfl,v.R s,.ref (v.L s g),rfl,?_,q⟩
  .have:=DGet.k (k:=.inl s) hta;rw[ce,er]at this;exact this
  .have:=DGet.k (k:=.inl g) hrow;rw[ce,eg]at this;exact this
 .have s1:Same H (upd H l1 (.lst ((aD l).map .int))):=ai hl1;refine⟨l1,rfl,⟨_,SqL.of ac⟩,Gx (s:=s) (g:=g) (caps:=caps) (ks:=aD l) (σ:=[some (.ref f.A.o),some (.ref la),some (.int s),some (.int g)]) (by rw[hcap];rfl) hg he ac (by lia) λDl ws H2 hD s2 hD2 a2=>?_⟩;have s12:=s1.trans s2;refine⟨la,Dl,vs,ws,rfl,rfl,s12 _ _ hv,hD2,P_ (oN (by rw[<- av.len,<- a2.len,Ov];exact hln)),?_⟩;have k3:KT H2 (upd H2 la (.lst (vs++ws))):=.upd (s12 _ _ hv) λ_ z=>(nomatch z);refine k _ (λc u e n=>by rw[ah n];exact s12 _ _ e) ⟨_,ac,?_⟩;have a1:=av.mono (IsArr.keep ((KT.of s12).trans k3));have a3:=a2.mono (IsArr.keep k3);generalize upd H2 la (.lst (vs++ws))=H9 at a1 a3;clear av a2 hln k hv k3;induction a1 with
  |nil=>exact a3
  |cons h _ ih=>exact .cons h ih
def wa{β:Type}{d:List (Int×β)}{k:Int}(h:k∈aD (d.map (·.1))):∃x,Sp.get d k=some x:=by
 rw[cQ]at h;cases e:Sp.get d k with
 |none=>exact(Sp.get_none e h).elim
 |some x=>exact⟨x,rfl⟩
def NT(T:gW X.K f.C)(P:aI f Z B H0 S v col)(z:∀t,¬Z.z t)(sm:Small S)(hcap:caps=[2,3])(hg:∀cl C s3 H3 fp,PG (aT X scope (yt++capN) cl C s3 H3 fp) tg (gName 0))(he:∀cl C s3 H3 fp,PE (aT X scope (yt++capN) cl C s3 H3 fp) elt (ib (tCons (tVar 1) (tCons (tVar 2) (tCons (tVar 0) tNil)))))
 (er:Sp.get S.tb s=some r) (n0:H0 la=none) (kp:Kp la H0 H) (L:Lst la H pre) (hln:pre.length+((aD (r.map (·.1))).flatMap λg=>(aD (Sp.leaf S.tb s g)).map λt=>((s,g,t):Sp.Arr)).length<15000000) (hs:∃y,σ=[some (.ref f.A.o),some (.ref la),some (.int s),y])
   (k:∀σ' H',Lr f la σ'->Kp la H H'->Lst la H' (pre++(aD (r.map (·.1))).flatMap λg=>(aD (Sp.leaf S.tb s g)).map λt=>((s,g,t):Sp.Arr))->D.nx σ' H'):Gy X.K (Ap X scope tg elt capN caps) D σ H:=by
  have ks:∀{c u},H0 c=some u->H c=some u:=λ{c u} e=>kp c u e (ak e n0);have ho:=ks (P.k.at (t:=.o) rfl (z _));have hta:=ks (P.k.at (t:=.ta) rfl (z _));have hrow:=ks (P.k.at (t:=.row s) (a:=v.R s) (u:=.dK (b9 r (v.L s))) (by show(Sp.get S.tb s).map _=_;rw[er];rfl) (z _));have e0:Sp.row S.tb s=r:=by unfold Sp.row;rw[er];rfl
  delta Gy dD cu
  dsimp only;refine qp (ta:=iW (sI X.K) (tVar 2)) (d:=v.R s) (λQ q=>?_) (.inl rfl) hrow (sG r _) (by rw[Ov,<- e0];exact sm.r s) λl1 hl1=>?_
  .have h0:σ[0]?=some (some (.ref f.A.o)):=by obtain⟨_,rfl⟩:=hs;rfl
   have h2:σ[2]?=some (some (.int s)):=by obtain⟨_,rfl⟩:=hs;rfl
   delta iW sI
   refine Reads.fld (.va h0) ⟨f.dx,ho⟩ T.cl T.n3 (v:=.ref f.A.ta) rfl _ ⟨_,h2,f.A.ta,.ref (v.R s),rfl,?_,q⟩;have:=DGet.k (k:=.inl s) hta;rw[ce,er]at this;exact this
  .have s1:Same H (upd H l1 (.lst ((aD (r.map (·.1))).map .int))):=ai hl1;have nl:l1≠la:=λe=>by obtain⟨vs,hv,_⟩:=L;rw[<- e,hl1]at hv;cases hv
   refine⟨l1,rfl,⟨_,SqL.of ac⟩,cc (K:=X.K) (a:=l1) (xs:=(aD (r.map (·.1))).map .int) (λi σ' H'=>(∃y,σ'=[some (.ref f.A.o),some (.ref la),some (.int s),y])/\Kp la (upd H l1 (.lst ((aD (r.map (·.1))).map .int))) H'/\Lst la H' (pre++((aD (r.map (·.1))).take i).flatMap λg=>(aD (Sp.leaf S.tb s g)).map λt=>((s,g,t):Sp.Arr))) ⟨hs,λc u e _=>e,by simpa using L.more s1⟩ (λi σ' H' _ p=>SqL.of (p.2.1 _ _ ac nl)) (λi x σ' H' hi p=>?_) λσ' H' p=>?_⟩
   .obtain⟨⟨y,rfl⟩,kp',L'⟩:=p;rw[OI]at hi;obtain⟨g,hg',rfl⟩:=OY.mp hi;obtain⟨l,eg⟩:=wa (Pn hg');have el:Sp.leaf S.tb s g=l:=by unfold Sp.leaf;rw[e0,eg];rfl
    have ft:=v_ (h:=λg=>(aD (Sp.leaf S.tb s g)).map λt=>((s,g,t):Sp.Arr)) hg';have fl:=Aq (l:=aD (r.map (·.1))) (h:=λg=>(aD (Sp.leaf S.tb s g)).map λt=>((s,g,t):Sp.Arr)) (i+1);rw[ft,OC,Ov,el]at fl;refine NS (D:={D with nx:=_,ct:=_,bk:=_}) T P z hcap hg he er eg (by rw[<- el];exact sm.l s g) n0 (kp.trans ((Kp.of s1).trans kp')) L' (by rw[OC];lia) rfl λH2 k2' L2=>?_;refine⟨⟨_,rfl⟩,kp'.trans k2',?_⟩;rw[ft,el,<- Qs];exact L2
   .obtain⟨⟨y,rfl⟩,kp',L'⟩:=p;rw[Ov,Pb]at L';exact k _ _ ⟨_,_,rfl⟩ ((Kp.of s1).trans kp') L'
def NU(T:gW X.K f.C)(P:aI f Z B H0 S v col)(z:∀t,¬Z.z t)(sm:Small S)(hcap:caps=[2,3])(hg:∀cl C s3 H3 fp,PG (aT X scope (yt++capN) cl C s3 H3 fp) tg (gName 0))(he:∀cl C s3 H3 fp,PE (aT X scope (yt++capN) cl C s3 H3 fp) elt (ib (tCons (tVar 1) (tCons (tVar 2) (tCons (tVar 0) tNil)))))
 (n0:H0 la=none) (kp:Kp la H0 H) (L:Lst la H []) (hln:(Sp.outs aD S).length<15000000) (hs:Lr f la σ)
 (k:∀σ' H',Lr f la σ'->Kp la H H'->Lst la H' (Sp.outs aD S)->D.nx σ' H'):Gz X.K (Ap X scope tg elt capN caps) D σ H:=by
 have ks:∀{c u},H0 c=some u->H c=some u:=λ{c u} e=>kp c u e (ak e n0);have ho:=ks (P.k.at (t:=.o) rfl (z _));have hta:=ks (P.k.at (t:=.ta) rfl (z _));have h0:σ[0]?=some (some (.ref f.A.o)):=by obtain⟨_,_,rfl⟩:=hs;rfl
 delta Gz dD cu
 dsimp only;refine qp (ta:=sI X.K) (d:=f.A.ta) (λQ q=>Reads.fld (.va h0) ⟨f.dx,ho⟩ T.cl T.n3 (v:=.ref f.A.ta) rfl _ q) (.inl rfl) hta (sG S.tb _) (by rw[Ov];exact sm.t) λl1 hl1=>?_;have s1:Same H (upd H l1 (.lst ((aD (S.tb.map (·.1))).map .int))):=ai hl1;have nl:l1≠la:=λe=>by obtain⟨vs,hv,_⟩:=L;rw[<- e,hl1]at hv;cases hv
 unfold Sp.outs at hln k;refine⟨l1,rfl,⟨_,SqL.of ac⟩,cc (K:=X.K) (a:=l1) (xs:=(aD (S.tb.map (·.1))).map .int) (λi σ' H'=>Lr f la σ'/\Kp la (upd H l1 (.lst ((aD (S.tb.map (·.1))).map .int))) H'/\Lst la H' (((aD (S.tb.map (·.1))).take i).flatMap λs=>(aD ((Sp.row S.tb s).map (·.1))).flatMap λg=>(aD (Sp.leaf S.tb s g)).map λt=>((s,g,t):Sp.Arr))) ⟨hs,λc u e _=>e,by simpa using L.more s1⟩ (λi σ' H' _ p=>SqL.of (p.2.1 _ _ ac nl)) (λi x σ' H' hi p=>?_) λσ' H' p=>?_⟩
 .obtain⟨⟨x2,x3,rfl⟩,kp',L'⟩:=p;rw[OI]at hi;obtain⟨s,hs',rfl⟩:=OY.mp hi;obtain⟨r,er⟩:=wa (Pn hs');have e0:Sp.row S.tb s=r:=by unfold Sp.row;rw[er];rfl
  have ft:=v_ (h:=λs=>(aD ((Sp.row S.tb s).map (·.1))).flatMap λg=>(aD (Sp.leaf S.tb s g)).map λt=>((s,g,t):Sp.Arr)) hs';have fl:=Aq (l:=aD (S.tb.map (·.1))) (h:=λs=>(aD ((Sp.row S.tb s).map (·.1))).flatMap λg=>(aD (Sp.leaf S.tb s g)).map λt=>((s,g,t):Sp.Arr)) (i+1);rw[ft,OC,e0]at fl;refine NT (D:={D with nx:=_,ct:=_,bk:=_}) T P z sm hcap hg he er n0 (kp.trans ((Kp.of s1).trans kp')) L' (by lia) ⟨_,rfl⟩ λσ2 H2 h2 k2' L2=>?_;refine⟨h2,kp'.trans k2',?_⟩;rw[ft,e0];exact L2
 .obtain⟨hs',kp',L'⟩:=p;rw[Ov,Pb]at L';exact k _ _ hs' ((Kp.of s1).trans kp') L'
def xV(T:gW X.K C)(hcap:caps=[2,3])(hg:∀cl C s3 H3 fp,PG (aT X scope (yt++capN) cl C s3 H3 fp) tg (gName 0))(he:∀cl C s3 H3 fp,PE (aT X scope (yt++capN) cl C s3 H3 fp) elt (ib (tCons (tVar 1) (tCons (tVar 2) (tCons (tVar 0) tNil)))))(h:mX C vs H Q E) :
 JA X scope tg elt capN caps {nx:=λ_ H'=>Q .ba H',rt:=Q} (start ["self","arrows","start","sign"] vs) H:=by
 obtain @⟨f,Z,B,H,S,Q,E,rfl,⟨v,col,P⟩,z,sm,ln,k⟩:=h;refine⟨OR _,λla hla=>?_⟩;have s1:Same H (upd H la (.lst [])):=ai hla;refine NU (D:={nx:=GA X.K _,rt:=Q}) T P z sm hcap hg he hla (Kp.of s1) ⟨[],ac,.nil⟩ ln ⟨none,none,rfl⟩ λσ' H' ⟨x,y,hs⟩ kp L=>?_;subst hs;obtain⟨vs,hv,av⟩:=L;have s2:Same H H':=λc u e=>kp c u (s1 _ _ e) (ak e hla);have P2:=P.more s2;have hm:=P2.k.at (t:=.mi) rfl (z _);have hen:=P2.k.at (t:=.en) rfl (z _);have el:(ng S.mi).length=S.mi.length:=by unfold ng;simp
 delta GA kr ib tCons
 dsimp only;refine Reads.add (P2.fld (z _) T.cl T.n2 (x:=.int f.n) rfl rfl) (j:=(ng S.mi).length) (λQ q=>?_) _ ⟨_,rfl,?_⟩
 .exact P2.fld (z _) T.cl T.n6 (x:=.ref f.A.mi) rfl rfl _ ⟨f.A.mi,ng S.mi,rfl,.inl (.inl hm),q⟩
 .refine qp (d:=f.A.en) (u:=v.ue) (kvs:=kvB S.en) (P2.fld (z _) T.cl T.n4 (x:=.ref f.A.en) rfl rfl) (P2.e.imp id λq=>⟨q.2,by rw[q.1];rfl⟩) hen (sH _) sm.e λle hle=>?_;have s3:Same H' (upd H' le (.lst ((aD S.en).map .int))):=ai hle;refine⟨by show 3<=sizeLine;decide,λa ha=>?_⟩;have s4:=ai (o:=.tup [.int (f.n+(ng S.mi).length),.ref la,.ref le]) ha;refine k a la le vs _ (s2.trans (s3.trans s4)) (by rw[ac,el]) hla (s4 _ _ (s3 _ _ hv)) (av.mono (IsArr.keep (.of (s3.trans s4)))) (s2.free hle) (s4 _ _ ac) λe=>?_;rw[e,hle]at hv;cases hv
end
end L4
namespace Sp
def byOne(d:RS)(r:Rule):RS:=put d (r.1,r.2.1) (addR ((get d (r.1,r.2.1)).getD []) r)
def Ar{κ β:Type}[DecidableEq κ](d:List (κ×β))(k:κ)(v:β):(put d k v).length<=d.length+1:=by unfold put;split<;>simp
theorem by_len:∀(RL:List Rule)(d:RS)(m:Nat),d.length<=m->(∀k,((get d k).getD []).length<=m)->(RL.foldl byOne d).length<=m+RL.length/\∀k,((get (RL.foldl byOne d) k).getD []).length<=m+RL.length
 |[],d,m,h1,h2=>⟨h1,h2⟩
 |r::RL,d,m,h1,h2=>by
  have h3:=by_len RL (byOne d r) (m+1) (O3 (Ar ..) (by lia)) λk=>by
   show((get (put d _ _) k).getD []).length<=_;rw[get_put];split
   .rename_i e;have:=h2 (r.1,r.2.1);show(addR _ r).length<=_;unfold addR;split
    .lia
    .rw[OC,P6];lia
   .have:=h2 k;lia
  rw[RD,OV];exact⟨by lia,λk=>by have:=h3.2 k;lia⟩
end Sp
namespace L4
open PySem PySem.Spec PyProof.Rows L2 L3
section
variable{τ:Type}{B H H' G:Hp}{Z:Ln τ}{col:Addr->Option τ}{cs cs':τ->Option (Addr×HO)}{t:τ}{a:Addr}{u:HO}
def Core.take(h:Core B H Z col cs)(s:Same H H')(n:H a=none)(e:H' a=some u)(z:¬Z.z t)(h0:cs' t=some (a,u))(hs:∀s,s≠t->cs' s=cs s):∃col',Core B H' Z col' cs':=by
 classical
 refine⟨λc=>if c=a then some t else col c,h.same.trans s,λq b v eq=>?_,λs q=>by rw[hs s λy=>z (y▸q)];exact h.l s q⟩;by_cases st:q=t
 .subst st;rw[h0]at eq;cases eq;exact⟨Ow rfl,λ_=>⟨e,h.same.free n⟩,λy=>(z y).elim⟩
 .rw[hs q st]at eq;obtain⟨x,y,w⟩:=h.c q b v eq;have nb:b≠a:=λe=>by subst e;exact h.there eq n
  exact⟨by rw[Ox nb];exact x,λk=>⟨s _ _ (y k).1,(y k).2⟩,w⟩
def Core.adopt(h:Core G H Z col cs)(hz:∀t,¬Z.z t)(s:Same B G)(n:B a=none)(g:G a=some u)(h0:cs' t=some (a,u))(hs:∀s,s≠t->cs' s=cs s):∃col',Core B H Z col' cs':=by
 classical
 refine⟨λc=>if c=a then some t else col c,s.trans h.same,λq b v eq=>?_,λs q=>(hz s q).elim⟩;by_cases st:q=t
 .subst st;rw[h0]at eq;cases eq;exact⟨Ow rfl,λ_=>⟨h.same _ _ g,n⟩,λy=>(hz _ y).elim⟩
 .rw[hs q st]at eq;obtain⟨x,y,w⟩:=h.c q b v eq;have nb:b≠a:=λe=>by have:=(y (hz _)).2;rw[e,g]at this;cases this
  exact⟨by rw[Ox nb];exact x,λk=>⟨(y k).1,s.free (y k).2⟩,λy=>(hz _ y).elim⟩
end
noncomputable def Z0:Ln Tag:=⟨λ_=>False,λ_=>none⟩
def z0:∀t,¬Z0.z t:=λ_ h=>h
def yu(ar:Addr)(rs:Sp.RS)(RA:Int×Int->Addr)(xs:Int×Int->NX):Tag->Option (Addr×HO)
 |.ru=>some (ar,.dT (sB rs RA))
 |.rl k=>(Sp.get rs k).map λ_=>(RA k,.ext (gs (RA k) (xs k)))
 |_=>none
noncomputable def gk(r:Sp.Rule):List K0:=[.inl r.1,.inl r.2.1,.inl r.2.2.1,.inr r.2.2.2]
def xW(h:gk r=gk r'):r=r':=by
 obtain⟨a,b,c,d⟩:=r;obtain⟨a',b',c',d'⟩:=r';unfold gk at h
 grind
def sJ(h:IsRule H r (.ref b)):KeyN H (gk r) b:=by obtain⟨p,q,e,h1,h2⟩:=h;cases e;exact⟨_,h1,_,rfl,_,rfl,_,rfl,q,_,rfl,h2,rfl⟩
def Ml(B:Hp)(rs:Sp.RS)(RA:Int×Int->Addr)(xs:Int×Int->NX):Prop:=∀k rl,Sp.get rs k=some rl->(RA k==sysModules)=false/\bV (λr x=>x.1=gk r/\IsRule B r (.ref x.2.1)) rl (xs k)
structure yi(B0 B H:Hp) (ar:Addr) (rs:Sp.RS) (RA:Int×Int->Addr) (xs:Int×Int->NX) (col:Addr->Option Tag):Prop where
 k:Core B H Z0 col (yu ar rs RA xs)
 ok:Ml B0 rs RA xs
 s0:Same B0 B
section
variable{K:SB}{B0 B H:Hp}{ar:Addr}{rs:Sp.RS}{RA:Int×Int->Addr}{xs:Int×Int->NX}{col:Addr->Option Tag}{D:Ends}{σ:L2.St}{Q:VK}{E:XK}{k:Int×Int}{r:Sp.Rule}{rl:List Sp.Rule}{c p:Addr}
noncomputable def mJ{β:Type}(R:Int×Int->β)(k:Int×Int)(p:β):Int×Int->β:=λu=>if u=k then p else R u
def C_(e:Sp.get rs k=none):sB (rs++[(k,[])]) (mJ RA k p)=sB rs RA++[(k2 k,.ref p)]:=by
 have hn:∀z∈rs,¬z.1=k:=λz hz e'=>Sp.get_none e (OB.mpr ⟨z,hz,e'⟩);unfold sB mJ;rw[O8];congr 1
 .exact O0 λz hz=>by rw[Ox (hn z hz)]
 .simp
def Da(h:(Sp.get rs k).isSome):sB (Sp.put rs k x) RA=sB rs RA:=by unfold Sp.put;rw[Ow h];unfold sB;rw[OP];refine O0 λz _=>?_;show((k2 (if z.1=k then(z.1,x)else z).1,.ref (RA (if z.1=k then(z.1,x)else z).1)):List aG×V)=_;split<;>rfl
theorem yi.new(h:yi B0 B H ar rs RA xs col)(e:Sp.get rs k=none)(hp:H p=none)(hs:(p==sysModules)=false):∃col',yi B0 B (upd (upd H p (.ext (gs p []))) ar (.dT (sB rs RA++[(k2 k,.ref p)]))) ar (rs++[(k,[])]) (mJ RA k p) (mJ xs k []) col':=by
 obtain⟨col',c1⟩:=h.k.new (t:=.rl k) (u':=.ext (gs p [])) (a:=p) hp (z0 _) (cs':=λq=>match q with
  |.rl u=>if u=k then some (p,.ext (gs p []))else yu ar rs RA xs (.rl u)
  |q=>yu ar rs RA xs q) (Ow rfl) (λq hq=>by
   cases q with
   |rl u=>exact Ox λz=>hq (by rw[z])
   |_=>rfl)
 refine⟨col',c1.put (t:=.ru) (a:=ar) (u:=.dT (sB rs RA)) rfl (z0 _) (by show some (ar,HO.dT (sB (rs++[(k,[])]) (mJ RA k p)))=_;rw[C_ e]) (λq hq=>?_),λj rl hj=>?_,?_⟩
 .cases q with
  |ru=>exact(hq rfl).elim
  |rl u=>
   show(Sp.get (rs++[(k,[])]) u).map _=if u=k then some (p,.ext (gs p []))else(Sp.get rs u).map λ_=>(RA u,HO.ext (gs (RA u) (xs u)));rw[bH e];by_cases z:u=k
   .rw[Ow z,Ow z];show some (mJ RA k p u,HO.ext (gs (mJ RA k p u) (mJ xs k [] u)))=_;unfold mJ;rw[Ow z,Ow z]
   .rw[Ox z,Ox z];show(Sp.get rs u).map (λ_=>(mJ RA k p u,HO.ext (gs (mJ RA k p u) (mJ xs k [] u))))=_;unfold mJ;rw[Ox z,Ox z]
  |_=>rfl
 .rw[bH e]at hj;unfold mJ;by_cases z:j=k
  .rw[Ow z]at hj;cases hj;rw[Ow z,Ow z];exact⟨hs,.nil⟩
  .rw[Ox z]at hj;rw[Ox z,Ox z];exact h.ok j rl hj
 .exact h.s0
def As:∀{rl:List Sp.Rule}{xs:NX},bV (λr x=>x.1=gk r/\IsRule B r (.ref x.2.1)) rl xs->xm (xs.map (·.1)) (gk r)=decide (r∈rl):=by
 intro rl xs h;induction h with
 |nil=>rfl
 |@cons y x rl xs h _ ih=>
  unfold xm at ih ⊢;rw[OH,Qe,ih,h.1];by_cases e:y=r
  .subst e;simp
  .rw[Po λz=>e (xW z)];simp[PV e]
theorem yi.add(h:yi B0 B H ar rs RA xs col)(e:Sp.get rs k=some rl)(hr:IsRule B0 r (.ref c))(w:SD):yi B0 B (upd H (RA k) (.ext (gs (RA k) (rQ (xs k) (gk r) c w)))) ar (Sp.put rs k (Sp.addR rl r)) RA (mJ xs k (rQ (xs k) (gk r) c w)) col:=by
 obtain⟨h1,h2⟩:=h.ok k rl e;have hc:yu ar rs RA xs (.rl k)=some (RA k,.ext (gs (RA k) (xs k))):=by show(Sp.get rs k).map _=_;rw[e];rfl
 refine⟨h.k.put hc (z0 _) (by show(Sp.get (Sp.put rs k _) k).map (λ_=>(RA k,HO.ext (gs (RA k) (mJ xs k _ k))))=_;rw[Sp.get_put,Ow rfl];unfold mJ;rw[Ow rfl];rfl) (λq hq=>?_),λj rl' hj=>?_,h.s0⟩
 .cases q with
  |ru=>show some (ar,HO.dT (sB (Sp.put rs k _) RA))=some (ar,HO.dT (sB rs RA));rw[Da (by rw[e];rfl)]
  |rl u=>have z:u≠k:=λz=>hq (by rw[z]);show(Sp.get (Sp.put rs k _) u).map (λ_=>(RA u,HO.ext (gs (RA u) (mJ xs k _ u))))=(Sp.get rs u).map λ_=>(RA u,HO.ext (gs (RA u) (xs u)));rw[Sp.get_put,Ox z];unfold mJ;rw[Ox z]
  |_=>rfl
 .rw[Sp.get_put]at hj;unfold mJ;by_cases z:j=k
  .rw[Ow z]at hj;cases hj;rw[Ow z,z];refine⟨h1,?_⟩;unfold rQ Sp.addR;rw[As h2];by_cases y:r∈rl
   .rw[OT y,Ow rfl,Ow y];have:=bV.Nh (T:=λr x=>x.1=gk r/\IsRule B0 r (.ref x.2.1)) id (λx:List K0×Addr×SD=>if x.1=gk r then(x.1,x.2.1,w)else x) (λr' x q=>by dsimp only[id];split<;>exact q) h2;rw[List.map_id]at this;exact this
   .rw[Po y,Ox y,Ox OS];exact h2.snoc ⟨rfl,hr⟩
  .rw[Ox z]at hj;rw[Ox z];exact h.ok j rl' hj
inductive m7:Sp
 |mk {c q:Addr} {x y z:V} {H:Hp} {Q:VK} {E:XK} (hc:H c=some (.tup [x,y,z,.ref q])) (k:∀p,H p=none->Q (.ref p) (upd H p (.tup [x,y]))):m7 [.ref c] H Q E
def uV(h:m7 vs H Q E):vs.length=1:=by cases h;rfl
def JB(K:SB):TS:=kr (ib (tCons (tI K 0 0) (tCons (tI K 0 1) tNil)))
def xX(h:m7 vs H Q E):JB K {nx:=λ_ H'=>Q .ba H',rt:=Q} (start ["rule"] vs) H:=by obtain⟨hc,k⟩:=h;exact uN (.c (.ix (.va rfl) hc rfl) (.c (.ix (.va rfl) hc rfl) .ni)) rfl k
inductive Bp:Sp
 |mk {RL:List Sp.Rule} {p l:Addr} {ws:List V} {H:Hp} {Q:VK} {E:XK} {B0:Hp} (s0:Same B0 H) (G:h_ B0 RL p l ws) (bR:RL.length<15000000) (k:∀ar RA xs col H',yi B0 H H' ar (Sp.byHead RL) RA xs col->Q (.ref ar) H'):Bp [.ref p] H Q E
def Au(h:Bp vs H Q E):vs.length=1:=by cases h;rfl
def JC(K:SB):TS:=Ei (qJ K "dict" pL (tVar 1) (tCons (ig m7 [] E0 (tCons (tVar 2) tNil)) (tCons uA tNil))) (tVar 2) (tC (.bl true))
def Mm(K:SB):TS:=bn (dD (cu K (tI K 0 2)) (gName 2) (JC K)) (kr (tVar 1))
def NV(K:SB):TS:=bn (tAsg pq (gName 1)) (Mm K)
def NW(P:yi B0 B H ar rs RA xs col)(hr:IsRule B0 r (.ref c))(l1:rs.length<15000000)(l2:∀k,((Sp.get rs k).getD []).length<15000000)(hs:σ=[some (.ref p0),some (.ref ar),some (.ref c)])(k:∀RA' xs' col' H',yi B0 B H' ar (Sp.byOne rs r) RA' xs' col'->D.nx σ H'):JC K D σ H:=by
 subst hs;obtain⟨_,q,e,hc,hq⟩:=IsRule.keep (.of (P.s0.trans P.k.same)) _ _ hr;cases e;have har:=P.k.at (t:=.ru) rfl (z0 _);refine⟨_,rfl,.inr (.inr (.inl ⟨rfl,.inr ⟨_,har⟩⟩)),_,rfl,.mk hc λb hb p hp hne=>?_⟩;have s1:Same H (upd H b (.tup [.int r.1,.int r.2.1])):=ai hb;have s2:=s1.trans (ai (o:=.ext (gs p [])) hp);refine⟨ar,b,k2 (r.1,r.2.1),.ref p,sB rs RA,rfl,rfl,ai hp _ _ ac,.inl (s2 _ _ har),oN (by unfold sB;rw[Ov];exact l1),?_⟩;rw[qo];have fin:∀{rs RA xs col H4},yi B0 B H4 ar rs RA xs col->∀{rl},Sp.get rs (r.1,r.2.1)=some rl->rl.length<15000000->(∀H5 xs5,yi B0 B H5 ar (Sp.put rs (r.1,r.2.1) (Sp.addR rl r)) RA xs5 col->D.nx [some (.ref p0),some (.ref ar),some (.ref c)] H5)->
  ∃y,([some (.ref p0),some (.ref ar),some (.ref c)]:L2.St)[2]?=some (some y)/\∃a b xs k,V.ref (RA (r.1,r.2.1))=.ref a/\y=.ref b/\H4 a=some (.ext (gs a xs))/\xs.length<=sizeLine/\(∀x∈xs,KeyN H4 x.1 x.2.1)/\KeyN H4 k b/\∀w,D.nx [some (.ref p0),some (.ref ar),some (.ref c)] (upd H4 a (.ext (gs a (rQ xs k b w)))):=λ{rs RA xs col H4} P4 {rl} e hl k4=>by
  obtain⟨h1,h2⟩:=P4.ok _ _ e;have kb:KT B0 H4:=.of (P4.s0.trans P4.k.same);refine⟨_,rfl,RA (r.1,r.2.1),c,xs (r.1,r.2.1),gk r,rfl,rfl,P4.k.at (t:=.rl (r.1,r.2.1)) (by show(Sp.get rs _).map _=_;rw[e];rfl) (z0 _),P_ (oN (by rw[<- h2.len];exact hl)),λx hx=>?_,sJ (IsRule.keep kb _ _ hr),λw=>k4 _ _ (P4.add e hr w)⟩;obtain⟨i,hi⟩:=OO.mp hx;obtain⟨r',_,hr'⟩:=h2.get hi;rw[hr'.1];exact sJ (IsRule.keep kb _ _ hr'.2)
 unfold Sp.byOne at k;cases e:Sp.get rs (r.1,r.2.1)with
 |some rl=>rw[e]at k;refine .inl ⟨_,rfl,?_⟩;have hl:=l2 (r.1,r.2.1);rw[e]at hl;exact fin ⟨P.k.more s2,P.ok,P.s0⟩ e hl λH5 xs5 P5=>k _ _ _ _ P5
 |none=>rw[e]at k;refine .inr ⟨rfl,?_⟩;rw[dH _ (by rw[qo,e];rfl)];obtain⟨col',P1⟩:=yi.new (k:=(r.1,r.2.1)) ⟨P.k.more s1,P.ok,P.s0⟩ e hp hne;have:=fin P1 (rl:=[]) ((bH e _ _).trans (Ow rfl)) (by decide) λH5 xs5 P5=>k _ _ _ _ (by rw[jl e]at P5;exact P5);unfold mJ at this;rw[Ow rfl]at this;exact this
def Dc(h:Bp vs H Q E):NV K {nx:=λ_ H'=>Q .ba H',rt:=Q} (start ["house","rules","rule"] vs) H:=by
 obtain @⟨RL,p,l,ws,H,Q,E,B0,s0,G,bR,k⟩:=h;intro ar har;have s1:Same H (upd H ar (.dT [])):=ai har;obtain⟨w0,w1,hp⟩:=(G.same (s0.trans s1)).tup;have lens:∀i,((RL.take i).foldl Sp.byOne []).length<15000000/\∀k,((Sp.get ((RL.take i).foldl Sp.byOne []) k).getD []).length<15000000:=λi=>by obtain⟨a,b⟩:=Sp.by_len (RL.take i) [] 0 (Ou _) (λk=>Ou _);have h1:=List.length_take_le' i RL;exact⟨by lia,λk=>by have:=b k;lia⟩
 obtain⟨col0,c0⟩:=Core.new (B:=H) (H:=H) (Z:=Z0) (col:=λ_=>(none:Option Tag)) (cs:=λ_=>none) (a:=ar) (t:=.ru) (u':=.dT []) ⟨λ_ _ e=>e,λ_ _ _ e=>(nomatch e),λ_ h=>h.elim⟩ har (z0 _) (cs':=yu ar [] (λ_=>0) λ_=>[]) rfl (λq hq=>by cases q<;>first|rfl|exact(hq rfl).elim);refine jN (Reads.ix (.va (i:=0) rfl) hp (v:=.ref l) rfl _ ⟨l,rfl,⟨ws,.inl (bg (s0.trans s1) G.lst)⟩,?_⟩);refine cc (K:=K) (a:=l) (xs:=ws) (λi σ' H'=>(∃x,σ'=[some (.ref p),some (.ref ar),x])/\∃RA xs col,yi B0 H H' ar ((RL.take i).foldl Sp.byOne []) RA xs col) ⟨⟨none,rfl⟩,_,_,col0,c0,(λk rl e=>(nomatch e)),s0⟩ (λi σ' H' _ q=>?_) (λi v σ' H' hi q=>?_) λσ' H' q=>?_
 .obtain⟨_,RA,xs,col,P⟩:=q;exact .inl (bg (s0.trans P.k.same) G.lst)
 .obtain⟨⟨x,rfl⟩,RA,xs,col,P⟩:=q;obtain⟨r,hr,ir⟩:=G.its.get hi;obtain⟨c,q,rfl,hc,hq⟩:=ir;refine NW P ⟨c,q,rfl,hc,hq⟩ (lens i).1 (lens i).2 rfl λRA' xs' col' H2 P2=>⟨⟨_,rfl⟩,RA',xs',col',?_⟩;rw[Pj,hr,Q3];exact P2
 .obtain⟨⟨x,rfl⟩,RA,xs,col,P⟩:=q;rw[<- G.its.len,Pb]at P;exact⟨_,rfl,k ar RA xs col H' P⟩
end
def Ls(l:List Int):D:=.iU (l.map ik) (l.map λ_=>.bl true)
def Av(o:Addr)(u:HO)(x1 x2 x3 x4 x5:Option (Addr×HO))(b:Tag->Option (Addr×HO)):Tag->Option (Addr×HO)
 |.o=>some (o,u)
 |.ta=>x1
 |.en=>x2
 |.fo=>x3
 |.mi=>x4
 |.du=>x5
 |.ru=>b .ru
 |.rl k=>b (.rl k)
 |_=>none
section
variable{K:SB}{C:Addr}{mg:Str->Option SD}{Fm:List D->Res R}{B H:Hp}{Q:VK}{E:XK}{σ:L2.St}
inductive jC(C:Addr) (Fm:List D->Res R):Sp
 |mk {B H:Hp} {RL:List Sp.Rule} {o dx p l q le:Addr} {ws:List V} {n:Int} {w1:V} {es:List Int} {Q:VK} {E:XK} (ho:H o=some (.ins C dx [])) (sb:Same B H) (nb:B o=none) (G:h_ B RL p l ws) (bR:RL.length<15000000) (hq:B q=some (.tup [.int n,w1,.ref le])) (hle:Rd B le (.lst (es.map .int))) (hF:Fm [.lst (es.map .int)]=.ok (.gd (Ls (Sp.marked es))))
  (k:∀f H',f.A.o=o->f.C=C->f.n=n->f.rs=Sp.byHead RL->An f B->SAt f Z0 B H' (Sp.start es)->Q .ba H'):jC C Fm [.ref o,.ref p,.ref q] H Q E
def sK(h:jC C Fm vs H Q E):vs.length=3:=by cases h;rfl
def Mn(K:SB):TS:=qS K (tVar 0) (nq tNil) "due"
def Mo(K:SB):TS:=bn (qS K (tVar 0) pq "mids") (Mn K)
def Mp(K:SB):TS:=bn (qS K (tVar 0) ci "followers") (Mo K)
def Mq(K:SB)(mg:Str->Option SD)(Fm:List D->Res R):TS:=bn (qS K (tVar 0) (ig (m_ mg 1 Fm) [] E0 (tCons (tI K 2 2) tNil)) "ends") (Mp K)
def Mr(K:SB)(mg:Str->Option SD)(Fm:List D->Res R):TS:=bn (qS K (tVar 0) ci "table") (Mq K mg Fm)
def Ms(K:SB)(mg:Str->Option SD)(Fm:List D->Res R):TS:=bn (qS K (tVar 0) (tI K 2 0) "states") (Mr K mg Fm)
def GB(K:SB)(mg:Str->Option SD)(Fm:List D->Res R):TS:=bn (qS K (tVar 0) (ig Bp [] E0 (tCons (tVar 1) tNil)) "rules") (Ms K mg Fm)
section
variable{o dx:Addr}{fs:List (Str×V)}{x1 x2 x3 x4 x5:Option (Addr×HO)}{b:Tag->Option (Addr×HO)}{col:Addr->Option Tag}{fl:Str}{v:V}{N:Ends}{fs':List (Str×V)}
def Dd(c:Core B H Z0 col (Av o (.ins C dx fs) x1 x2 x3 x4 x5 b)):Core B (upd H o (.ins C dx (gm fl v fs))) Z0 col (Av o (.ins C dx (gm fl v fs)) x1 x2 x3 x4 x5 b):=c.put (t:=.o) rfl (z0 _) rfl λq hq=>by cases q<;>first|rfl|exact(hq rfl).elim
def iP(cl:tJ K C)(na:NoAttr K C fl)(h0:σ[0]?=some (some (.ref o)))(hz:fs.length<1000)(h:Core B H1 Z0 col (Av o (.ins C dx fs) x1 x2 x3 x4 x5 b))(e:gm fl v fs=fs')(k:∀H2,Core B H2 Z0 col (Av o (.ins C dx fs') x1 x2 x3 x4 x5 b)->N.nx σ H2) :
 tVar 0 σ H1 λx H2=>∃a C dx fs,x=.ref a/\H2 a=some (.ins C dx fs)/\tJ K C/\NoAttr K C fl/\fs.length<1000/\N.nx σ (upd H2 a (.ins C dx (gm fl v fs))):=
 ⟨_,h0,o,C,dx,fs,rfl,h.at (t:=.o) rfl (z0 _),cl,na,hz,k _ (e▸Dd h)⟩
end
def mK(h:Is H' (nl H H') (Ls l) v):∃a u,v=.ref a/\H a=none/\H' a=some u/\Np l u:=by
 obtain⟨a,vs,rfl,⟨sh,n0,mu⟩,all⟩:=h;have nofz:∀o u,H' a≠some (.aV o u):=λo u z=>by obtain⟨uo,q,qm⟩:=mu;rw[z]at q;cases q;exact qm
 rcases sh with⟨kvs,e|⟨o,e⟩,h1,h2⟩|⟨kvs,e|⟨o,e⟩,h1,h2⟩
 .refine⟨a,_,rfl,n0,e,.inl ?_⟩;congr 1;have key:∀(l:List Int)(kvs:List (aG×V))(vs:List V),l.map ik=kvs.map (λp=>(.inl p.1:DK))->vs=kvs.map Prod.snd->IsAll H' (nl H H') (l.map λ_=>.bl true) vs->kvs=kvB l:=by
   intro l;induction l with
   |nil=>intro kvs vs e _ _;cases kvs with
    |nil=>rfl
    |cons _ _=>cases e
   |cons x l ih=>
    intro kvs vs e e2 al;cases kvs with
    |nil=>cases e
    |cons y kvs=>
     rw[OH,OH]at e;injection e with e3 e4;obtain⟨w,r,rfl,a1,a2⟩:=al;rw[OH]at e2;injection e2 with e5 e6;obtain⟨y1,y2⟩:=y;have:y1=.inl x:=by injection e3 with e3;exact e3.symm
     have:y2=.bl true:=e5.symm.trans a1;subst y1 y2;rw[ih kvs r e4 e6 a2];rfl
  exact key l kvs vs h1 h2 all
 .exact(nofz _ _ e).elim
 .have e0:l=[]:=by
   cases l with
   |nil=>rfl
   |cons x l=>cases kvs with
    |nil=>cases h1
    |cons y kvs=>rw[OH,OH]at h1;injection h1 with h1;cases h1
  subst e0;have:kvs=[]:=by cases kvs with
   |nil=>rfl
   |cons _ _=>cases h1
  subst this;exact⟨a,_,rfl,n0,e,.inr ⟨rfl,rfl⟩⟩
 .exact(nofz _ _ e).elim
def uW(T:gW K C)(h:jC C Fm vs H Q E)(hN:N.length=3):GB K mg Fm {nx:=λ_ H'=>Q .ba H',rt:=Q} (start N vs) H:=by
 obtain @⟨B,H,RL,o,dx,p,l,q,le,ws,n,w1,es,Q,E,ho,sb,nb,G,bR,hq,hle,hF,k⟩:=h;refine⟨_,rfl,.mk sb G bR λar RA xs col H1 P1=>?_⟩;obtain⟨col1,c1⟩:=P1.k.adopt (cs':=Av o (.ins C dx []) none none none none none (yu ar (Sp.byHead RL) RA xs)) (t:=.o) z0 sb nb ho rfl (λq hq=>by cases q<;>first|rfl|exact(hq rfl).elim);have ok:=P1.ok;clear P1;refine iP (fs':=[("rules",.ref ar)]) T.cl T.n1 rfl (by show 0<1000;decide) c1 rfl λH2 c2=>?_;refine Reads.ix (.va (i:=2) rfl) (c2.same _ _ hq) (v:=.int n) rfl _ (iP (fs':=[("rules",.ref ar),("states",.int n)]) T.cl T.n2 rfl (by show 1<1000;decide) c2 rfl λH3 c3=>?_);intro ta hta;obtain⟨col3,c3⟩:=c3.new (t:=.ta) hta (z0 _) (u':=.dK []) (cs':=Av o _ (some (ta,.dK [])) none none none none (yu ar (Sp.byHead RL) RA xs)) rfl (λq hq=>by cases q<;>first|rfl|exact(hq rfl).elim);refine iP (fs':=[("rules",.ref ar),("states",.int n),("table",.ref ta)]) T.cl T.n3 rfl (by show 2<1000;decide) c3 rfl λH4 c4=>?_;refine Reads.ix (.va (i:=2) rfl) (c4.same _ _ hq) (v:=.ref le) rfl _ ⟨rfl,[.lst (es.map .int)],λ_=>True,⟨_,_,rfl,⟨le,es.map .int,rfl,?_,fX es⟩,rfl⟩,?_⟩
 .exact(bg c4.same hle).imp (λz=>⟨z,True.intro⟩) λ⟨o,z⟩=>⟨o,z,True.intro⟩
 rw[hF];intro v5 H5 s5 r5;obtain⟨ea,ue,rfl,n5,e5,en⟩:=mK r5;obtain⟨col5,c5⟩:=c4.take (t:=.en) s5 n5 e5 (z0 _) (cs':=Av o _ (some (ta,.dK [])) (some (ea,ue)) none none none (yu ar (Sp.byHead RL) RA xs)) rfl (λq hq=>by cases q<;>first|rfl|exact(hq rfl).elim);refine iP (fs':=[("rules",.ref ar),("states",.int n),("table",.ref ta),("ends",.ref ea)]) T.cl T.n4 rfl (by show 3<1000;decide) c5 rfl λH6 c6=>?_;intro fo hfo;obtain⟨col6,c6⟩:=c6.new (t:=.fo) hfo (z0 _) (u':=.dK []) (cs':=Av o _ (some (ta,.dK [])) (some (ea,ue)) (some (fo,.dK [])) none none (yu ar (Sp.byHead RL) RA xs)) rfl (λq hq=>by cases q<;>first|rfl|exact(hq rfl).elim);refine iP (fs':=[("rules",.ref ar),("states",.int n),("table",.ref ta),("ends",.ref ea),("followers",.ref fo)]) T.cl T.n5 rfl (by show 4<1000;decide) c6 rfl λH7 c7=>?_;intro mi hmi;obtain⟨col7,c7⟩:=c7.new (t:=.mi) hmi (z0 _) (u':=.dT []) (cs':=Av o _ (some (ta,.dK [])) (some (ea,ue)) (some (fo,.dK [])) (some (mi,.dT [])) none (yu ar (Sp.byHead RL) RA xs)) rfl (λq hq=>by cases q<;>first|rfl|exact(hq rfl).elim);refine iP (fs':=[("rules",.ref ar),("states",.int n),("table",.ref ta),("ends",.ref ea),("followers",.ref fo),("mids",.ref mi)]) T.cl T.n6 rfl (by show 5<1000;decide) c7 rfl λH8 c8=>?_;refine⟨OR _,λdu hdu=>?_⟩;obtain⟨col8,c8⟩:=c8.new (t:=.du) hdu (z0 _) (u':=.lst []) (cs':=Av o _ (some (ta,.dK [])) (some (ea,ue)) (some (fo,.dK [])) (some (mi,.dT [])) (some (du,.lst [])) (yu ar (Sp.byHead RL) RA xs)) rfl (λq hq=>by cases q<;>first|rfl|exact(hq rfl).elim);refine iP (fs':=[("rules",.ref ar),("states",.int n),("table",.ref ta),("ends",.ref ea),("followers",.ref fo),("mids",.ref mi),("due",.ref du)]) T.cl T.n7 rfl (by show 6<1000;decide) c8 rfl λH9 c9=>?_;refine k ⟨⟨o,ta,ea,fo,mi,du,ar⟩,C,dx,n,Sp.byHead RL,RA,xs⟩ H9 rfl rfl rfl rfl (λk rl e=>?_) ⟨⟨λ_=>0,λ_ _=>0,λ_=>0,[],ue⟩,col8,?_,.nil,en⟩
 .obtain⟨a,b⟩:=ok k rl e;exact⟨a,b.mono λr x h=>h.2⟩
 .have e:Av o (.ins C dx (Ju ⟨⟨o,ta,ea,fo,mi,du,ar⟩,C,dx,n,Sp.byHead RL,RA,xs⟩)) (some (ta,.dK [])) (some (ea,ue)) (some (fo,.dK [])) (some (mi,.dT [])) (some (du,.lst [])) (yu ar (Sp.byHead RL) RA xs)=cells ⟨⟨o,ta,ea,fo,mi,du,ar⟩,C,dx,n,Sp.byHead RL,RA,xs⟩ (Sp.start es) ⟨λ_=>0,λ_ _=>0,λ_=>0,[],ue⟩:=by funext q;cases q<;>rfl
  rw[<- e];exact c9
end
end L4
namespace Sp
theorem KT.begun(ts:List Arr)(es:List Int):KT (begun ts es):=by
 have key:∀(ts:List Arr)(S:St),KT S->KT (ts.foldl (λS a=>Sp.lead S a.1 a.2.1 a.2.2) S):=λts=>by
  induction ts with
  |nil=>exact λ_ h=>h
  |cons a ts ih=>exact λS h=>ih _ (h.lead ..)
 exact key ts _ ⟨by unfold Keys start;simp,λs=>by unfold Keys start row;simp[get]⟩
end Sp
namespace L4
open PySem PySem.Spec PyProof.Rows L2 L3
def mD(n:Int)(ts:List Sp.Arr)(es:List Int):D:=.tup [.int n,.lst (ts.map xL),.lst (es.map .int)]
structure KW(Fm:List D->Res R) (ds:List D) (m:D) (RL:List Sp.Rule) (ts:List Sp.Arr) (es:List Int) (h0 h1:D) (n:Int) (k:Nat) (T:Sp.St):Prop where
 ds:ds=[.tup [h0,h1,.lst (RL.map oM)],mD n ts es]
 len:RL.length<15000000
 fit:Sp.nh (Sp.begun ts es)
 lp:Sp.Loop n (Sp.byHead RL) k (Sp.begun ts es) T
 sm:Small T
 ln:(Sp.outs aD T).length<15000000
 mf:Fm [.lst (es.map .int)]=.ok (.gd (Ls (Sp.marked es)))
 m:m=mD (n+T.mi.length) (Sp.outs aD T) (aD T.en)
def Aw(Fm:List D->Res R)(ds:List D)(m:D):Prop:=∃RL ts es h0 h1 n k T,KW Fm ds m RL ts es h0 h1 n k T
open Classical in
noncomputable def JD(Fr Fm:List D->Res R)(ds:List D):Res R:=match Fr ds with
 |.ok _=>if h:∃m,Aw Fm ds m then .ok (.gd (Classical.choose h))else .stuck
 |.exc c=>.exc c
 |.stuck=>.stuck
section
variable{K:SB}{C:Addr}{H:Hp}
def Mv(C:Addr):TS:=bn (cJ (dF C "spread" (gV C) [] E0 (tVar 2) tNil)) (kr (dF C "machine" (mX C) [] E0 (tVar 2) tNil))
def Mw(C:Addr):TS:=cJ (dF C "lead" (d3 C) [] E0 (tVar 2) (tCons (tVar 3) (tCons (tVar 4) (tCons (tVar 5) tNil))))
def JE(K:SB)(C:Addr):TS:=bn (dD (cu K (tI K 1 1)) (tP K 3 (c_ (gName 3) (c_ (gName 4) (c_ (gName 5) tO)))) (Mw C)) (Mv C)
def JF(K:SB)(mg:Str->Option SD)(Fr Fm:List D->Res R)(C:Addr)(E:XK):TS:=bn (cJ (ig (m_ mg 2 Fr) [] E (tCons (tVar 0) (tCons (tVar 1) tNil)))) (bn (tAsg (D_ C (jC C Fm) [] E0 (tCons (tVar 0) (tCons (tVar 1) tNil))) (gName 2)) (JE K C))
def JG(p0 p1:Addr)(f:Fx)(σ:L2.St):Prop:=∃x y z,σ=[some (.ref p0),some (.ref p1),some (.ref f.A.o),x,y,z]
def GC:∀{ts:List Sp.Arr}{vs:List V},bV (IsArr H) ts vs->IsAll H m (ts.map xL) vs:=by
 intro ts vs h;induction h with
 |nil=>exact rfl
 |cons q _ ih=>obtain⟨p,rfl,hp⟩:=q;exact⟨_,_,rfl,⟨p,_,rfl,hp,_,_,rfl,rfl,_,_,rfl,rfl,_,_,rfl,rfl,rfl⟩,ih⟩
def NY{es:List Int}{k:Nat}{T:Sp.St}{y0 y2:V}{D:Ends}{σ:L2.St}(ok:An f B)(hp1:B p1=some (.tup [y0,.ref lm,y2]))(hlm:Rd B lm (.lst wm))(aM:bV (IsArr B) ts wm)(P:SAt f Z0 B H (Sp.start es))(fit:Sp.nh (Sp.begun ts es))(lp:Sp.Loop f.n f.rs k (Sp.begun ts es) T)(sm:Small T)(ln:(Sp.outs aD T).length<15000000)(hs:JG p0 p1 f σ)
 (kk:∀(a l e:Addr)(vs:List V)(H':Hp),Same B H'->H' a=some (.tup [.int (f.n+T.mi.length),.ref l,.ref e])->B l=none->H' l=some (.lst vs)->bV (IsArr H') (Sp.outs aD T) vs->B e=none->H' e=some (.lst ((aD T.en).map .int))->D.rt (.ref a) H'):JE K f.C D σ H:=by
 have sm0:∀{H S},SAt f Z0 B H S->Same B H:=λ{H S} ⟨_,_,h⟩=>h.k.same;have h1:σ[1]?=some (some (.ref p1)):=by obtain⟨_,_,_,rfl⟩:=hs;rfl
 refine jN (Reads.ix (.va h1) (sm0 P _ _ hp1) (v:=.ref lm) rfl _ ⟨lm,rfl,⟨wm,.inl (bg (sm0 P) hlm)⟩,?_⟩);refine cc (K:=K) (a:=lm) (xs:=wm) (λi σ' H'=>JG p0 p1 f σ'/\SAt f Z0 B H' ((ts.take i).foldl (λS a=>Sp.lead S a.1 a.2.1 a.2.2) (Sp.start es))) ⟨hs,P⟩ (λi σ' H' _ q=>.inl (bg (sm0 q.2) hlm)) (λi v σ' H' hi q=>?_) λσ' H' q=>?_
 .obtain⟨⟨x,y,z,rfl⟩,P'⟩:=q;obtain⟨a,ha,p,rfl,hp⟩:=aM.get hi;refine L7 (sm0 P' _ _ hp) (hJ P' ((Ao z0).free _) (fH (step:=λ(S:Sp.St)(a:Sp.Arr)=>Sp.lead S a.1 a.2.1 a.2.2) (λS x=>Sp.lead_grow S x.1 x.2.1 x.2.2) (its:=ts) (S0:=Sp.start es) fit ha) (.va rfl) (.c (.va rfl) (.c (.va rfl) (.c (.va rfl) .ni))) λH2 _ P2=>⟨⟨_,_,_,rfl⟩,?_⟩);rw[dS ha];exact P2
 .obtain⟨⟨x,y,z,rfl⟩,P'⟩:=q;rw[<- aM.len,Pb]at P';have P':SAt f Z0 B H' (Sp.begun ts es):=P';refine xK (.va rfl) (P'.ins (z0 _)) rfl .ni (.mk rfl ok P' z0 (Sp.KT.begun ts es) lp λH2 P2=>?_);exact xK (.va rfl) (P2.ins (z0 _)) rfl .ni (.mk rfl P2 z0 sm ln λa l e vs H3 s3 ha hl hl3 al he he3 _=>kk a l e vs H3 ((sm0 P2).trans s3) ha ((sm0 P2).free hl) hl3 al ((sm0 P2).free he) he3)
def xY{mg:Str->Option SD}{Fr Fm:List D->Res R}(h:m_ mg 2 (JD Fr Fm) vs H Q E):JF K mg Fr Fm C E {nx:=λ_ H'=>Q .ba H',rt:=Q} (start ["house","machine","spreading","start","sign","to"] vs) H:=by
 obtain⟨hl,ds,Ma,is,post⟩:=h;obtain⟨v0,v1,rfl⟩:=NN hl;refine⟨_,rfl,_,rfl,rfl,ds,Ma,is,?_⟩;unfold JD at post;cases hF:Fr ds with
 |stuck=>rw[hF]at post;exact post
 |exc c=>rw[hF]at post;exact post
 |ok r=>
  rw[hF]at post;dsimp only at post;by_cases hex:∃m,Aw Fm ds m
  case neg=>rw[dif_neg hex]at post;exact post.elim
  case pos=>
  rw[dif_pos hex]at post;have hch:=QB hex;generalize Classical.choose hex=m at post hch;obtain⟨RL,ts,es,d0,d1,n,k,T,⟨rfl,bR,fit,lp,sm,ln,hM,rfl⟩⟩:=hch;intro v H1 s1 _;obtain⟨_,_,ev,⟨p0,_,rfl,hp0,w0,_,rfl,_,w1,_,rfl,_,w2,_,rfl,iw2,rfl⟩,_,_,ev2,⟨p1,_,rfl,hp1,y0,_,rfl,iy0,y1,_,rfl,iy1,y2,_,rfl,iy2,rfl⟩,rfl⟩:=is;cases ev;cases ev2;obtain rfl:y0=.int n:=iy0;obtain⟨l,ws,rfl,hl,iR⟩:=mz iw2;obtain⟨lm,wm,rfl,hlm,iM⟩:=mz iy1;obtain⟨le,we,rfl,hle,iE⟩:=mz iy2;rw[jO iE]at hle;have G:h_ H RL p0 l ws:=⟨⟨_,_,hp0⟩,hl,vX (λx v=>Gj) iR⟩;refine⟨_,rfl,_,rfl,λo dx ho hdx hne=>?_⟩;have s2:Same H (upd (upd H1 dx (.own o)) o (.ins C dx [])):=s1.trans λb u e=>by rw[ah (ak e ho),ah (ak e hdx)];exact e
  refine .mk ac s2 (s1.free ho) G bR hp1 hle hM λf H3 eo eC en er ok P=>⟨rfl,?_⟩;subst eo eC en;rw[<- er]at lp;refine NY ok hp1 hlm (vX (λx v=>Ex) iM) P fit lp sm ln ⟨none,none,none,rfl⟩ λa l e vs H6 s6 ha hl6 hl al he6 he=>?_;have n1:nl H H6 l:=⟨hl6,_,hl,True.intro⟩;have n2:nl H H6 e:=⟨he6,_,he,True.intro⟩;exact post _ H6 s6 ⟨a,_,rfl,ha,_,_,rfl,rfl,_,_,rfl,⟨l,vs,rfl,.inl ⟨hl,n1⟩,GC al⟩,_,_,rfl,⟨e,_,rfl,.inl ⟨he,n2⟩,fX _⟩,rfl⟩
theorem hV:∀{l m:List Int},l.map D.int=m.map D.int->l=m
 |[],[],_=>rfl
 |[],_::_,e=>nomatch e
 |_::_,[],e=>nomatch e
 |x::l,y::m,e=>by rw[OH,OH]at e;injection e with e1 e2;injection e1 with e1;rw[e1,hV e2]
def GD{Fr Fm:List D->Res R}{h0 h1:D}{n:Int}{k:Nat}{T:Sp.St}{r:R}(w:KW Fm ds m RL ts es h0 h1 n k T)(hr:Fr ds=.ok r):JD Fr Fm ds=.ok (.gd m):=by have hex:∃m,Aw Fm ds m:=⟨m,_,_,_,_,_,_,_,_,w⟩;unfold JD;rw[hr];dsimp only;rw[dif_pos hex];have hch:=QB hex;generalize Classical.choose hex=m' at hch;obtain⟨RL',ts',es',a0,a1,n',k',T',w'⟩:=hch;have e:=w.ds.symm.trans w'.ds;unfold mD at e;injection e with e3 e;injection e3 with e3;injection e3 with _ e3;injection e3 with _ e3;injection e3 with e3 _;injection e3 with e3;injection e with e _;injection e with e;injection e with e4 e;injection e4 with e4;injection e with e5 e;injection e5 with e5;injection e with e6 _;injection e6 with e6;have l:=w'.lp;rw[<- k_ (λh=>xM h) e3,<- k_ (λh=>su h) e5,<- hV e6,<- e4]at l;have:=w.lp.det l;subst this;rw[w'.m,w.m,e4]
end
end L4
namespace Sp
noncomputable def Rc(ts:List Arr):Int->List Int->Int->Prop
 |s,[],x=>x=s
 |s,g::w,x=>∃t,(s,g,t)∈ts/\Rc ts t w x
theorem rc_snoc{ts:List Arr}{g x:Int}:∀{w:List Int}{s:Int},Rc ts s (w++[g]) x↔∃y,Rc ts s w y/\(y,g,x)∈ts
 |[],s=>by simp[Rc]
 |h::w,s=>by
  show(∃t,(s,h,t)∈ts/\Rc ts t (w++[g]) x)↔∃y,(∃t,(s,h,t)∈ts/\Rc ts t w y)/\_;constructor
  .rintro⟨t,h1,h2⟩;obtain⟨y,h3,h4⟩:=rc_snoc.mp h2;exact⟨y,⟨t,h1,h3⟩,h4⟩
  .rintro⟨y,⟨t,h1,h3⟩,h4⟩;exact⟨t,h1,rc_snoc.mpr ⟨y,h3,h4⟩⟩
theorem rc_acc{ts:List Arr}{es:List Int}:∀{w:List Int}{s:Int},AccM ts es s w↔∃x,Rc ts s w x/\x∈es
 |[],s=>by simp[Rc,AccM]
 |g::w,s=>by
  unfold AccM Rc;constructor
  .rintro⟨t,h1,h2⟩;obtain⟨x,h3,h4⟩:=rc_acc.mp h2;exact⟨x,⟨t,h1,h3⟩,h4⟩
  .rintro⟨x,⟨t,h1,h3⟩,h4⟩;exact⟨t,h1,rc_acc.mpr ⟨x,h3,h4⟩⟩
def add_nd{l:List Int}{x:Int}(h:l.Nodup):(add l x).Nodup:=by
 unfold add;split
 .exact h
 .rename_i e;rw[PU];exact⟨h,by simp,λy hy z hz e'=>by simp at hz;subst hz;exact e (by rw[<- e'];exact hy)⟩
structure Here(ts:List Arr) (P:Int->Prop) (l:List Int):Prop where
 m:∀x,x∈l↔P x
 n:l.Nodup
def Here.len{ts:List Arr}{P:Int->Prop}{l:List Int}(h:Here ts P l){r:Int}(hs:∀x,P x->x=r\/∃a∈ts,a.2.2=x):l.length<=ts.length+1:=by
 have:=nodup_sub (U:=r::ts.map (·.2.2)) h.n λx hx=>by
  rcases hs x ((h.m x).mp hx)with e|⟨a,ha,e⟩
  .rw[e];simp
  .exact OW _ (OB.mpr ⟨a,ha,e⟩)
 rw[OV,Ov]at this;exact this
end Sp
namespace L4
open PySem PySem.Spec PyProof.Rows L2 L3
structure EQ(H:Hp) (p lm le:Addr) (wm:List V) (ts:List Sp.Arr) (es:List Int):Prop where
 t:∃y,H p=some (.tup [y,.ref lm,.ref le])
 l:Rd H lm (.lst wm)
 a:bV (IsArr H) ts wm
 e:Rd H le (.lst (es.map .int))
def EQ.more{H H':Hp}{p lm le:Addr}{wm:List V}{ts:List Sp.Arr}{es:List Int}(h:EQ H p lm le wm ts es)(s:Same H H'):EQ H' p lm le wm ts es:=⟨let ⟨y,e⟩:=h.t;⟨y,s _ _ e⟩,bg s h.l,h.a.mono (IsArr.keep (.of s)),bg s h.e⟩
def EQ.of{H:Hp}{m:Addr->Prop}{n:Int}{ts:List Sp.Arr}{es:List Int}{v:V}(h:Is H m (mD n ts es) v):∃p lm le wm,v=.ref p/\EQ H p lm le wm ts es:=by obtain⟨p,_,rfl,hp,y0,_,rfl,_,y1,_,rfl,iy1,y2,_,rfl,iy2,rfl⟩:=h;obtain⟨lm,wm,rfl,hlm,iM⟩:=mz iy1;obtain⟨le,we,rfl,hle,iE⟩:=mz iy2;rw[jO iE]at hle;exact⟨p,lm,le,wm,rfl,⟨_,hp⟩,hlm,vX (λx v=>Ex) iM,hle⟩
def Dg(sh:Int->List Int->List D)(C:Prop)(ds:List D)(b:Bool):Prop:=C/\∃n ts es r w,ds=mD n ts es::sh r w/\ts.length<300000/\es.length<1000000/\w.length<1000000/\(b=true↔Sp.AccM ts es r w)
open Classical in
noncomputable def Ez(sh:Int->List Int->List D)(C:Prop)(ds:List D):Res R:=if h:∃b,Dg sh C ds b then .ok (.val (.bl (Classical.choose h)) true [])else .stuck
def Ax{sh:Int->List Int->List D}(inj:∀r w r' w',sh r w=sh r' w'->r=r'/\w=w'){C:Prop}(c:C){n r:Int}{ts:List Sp.Arr}{es w:List Int}(h1:ts.length<300000)(h2:es.length<1000000)(h3:w.length<1000000) :
 ∃b,Ez sh C (mD n ts es::sh r w)=.ok (.val (.bl b) true [])/\(b=true↔Sp.AccM ts es r w):=by
 classical
 have hex:∃b,Dg sh C (mD n ts es::sh r w) b:=⟨decide (Sp.AccM ts es r w),c,n,ts,es,r,w,rfl,h1,h2,h3,by simp⟩;refine⟨Classical.choose hex,by unfold Ez;rw[dif_pos hex],?_⟩;have hch:=QB hex;generalize Classical.choose hex=b at hch;obtain⟨_,n',ts',es',r',w',e,_,_,_,h⟩:=hch;unfold mD at e;injection e with e1 e2;injection e1 with e1;injection e1 with _ e1;injection e1 with e3 e1;injection e3 with e3;injection e1 with e1 _;injection e1 with e1;obtain⟨rfl,rfl⟩:=inj _ _ _ _ e2;rw[k_ (λh=>su h) e3,hV e1];exact h
noncomputable def Ip(r:Int)(w:List Int):List D:=[.int r,.lst (w.map .int)]
noncomputable def Iq(r:Int)(w:List Int):List D:=[.tup [.int r,.lst (w.map .int)]]
def wb(r:Int)(w:List Int)(r':Int)(w':List Int)(h:Ip r w=Ip r' w'):r=r'/\w=w':=by unfold Ip at h;injection h with h1 h;injection h with h _;injection h1 with h1;injection h with h;exact⟨h1,hV h⟩
def Dh(r:Int)(w:List Int)(r':Int)(w':List Int)(h:Iq r w=Iq r' w'):r=r'/\w=w':=by unfold Iq at h;injection h with h _;injection h with h;exact wb r w r' w' h
def Di(K:SB):List V->Hp->VK->Prop:=λxs H Q=>∃(p:Addr)(vs:List V)(bs:List Bool),xs=[.ref p]/\SqL K H p vs/\vs=bs.map V.bl/\Q (.bl (bs.any id)) H
def oP{X:Cx}(hc:X.calm=true):CallR X (.builtin "any") (Di X.K):=xH hc
def wc{l:List Int}(f:Int->Bool):((l.map f).any id=true)↔∃x∈l,f x=true:=by simp
def Ay{X:Cx}{scope:Scope}{tg elt:Expr}{tN capN:List Str}{caps:List Nat}{σ:L2.St}{H1:Hp}{l c:Addr}{ks:List Int}{te:TE}{f:Int->Bool}{Fin:Addr->List V->Hp->Prop}(h1:tN.length=1)(hcap:iJ σ caps=[some (.ref c)])(hg:∀cl C s3 H3 fp,PG (aT X scope (tN++capN) cl C s3 H3 fp) tg (gName 0))(he:∀cl C s3 H3 fp,PE (aT X scope (tN++capN) cl C s3 H3 fp) elt te)
 (hte:∀x H',Same H1 H'->Reads te [some (.int x),some (.ref c)] H' (.bl (f x))) (hl:Rd H1 l (.lst (ks.map .int))) (hz:ks.length<15000000) (k:∀Dl vs H',Same H1 H'->H' Dl=some (.lst (ks.map λx=>.bl (f x)))->Fin Dl vs H'):dO X scope tg tN capN caps elt [] σ Fin (Bq X.K l) H1:=by
 intro Dl hD cl C s3 fp;refine⟨_,_,_,λi m acc H'=>m=ks.length-i/\i<=ks.length/\acc=((ks.take i).map λx=>V.bl (f x))/\Same H1 H'/\H' Dl=some (.lst acc),hg cl C s3 _ fp,pY,he cl C s3 _ fp,⟨ks.length,by simp,OR _,by simp,ai hD,ac⟩,?_⟩;rintro i m acc H' ⟨rfl,hi,rfl,sm,hDl⟩;have hl':SqL X.K H' l (ks.map .int):=.inl (bg sm hl);refine⟨hDl,?_⟩;by_cases hlt:i<ks.length
 .right;refine⟨⟨_,.int ks[i],hl',by simp[hlt]⟩,λxv H'' o y ho=>?_⟩;obtain⟨rfl,y⟩:=y;have hx:=y _ hl';rw[OI,OL hlt]at hx;cases hx;rw[h1]at ho;obtain⟨u0,rfl⟩:=RH.mp ho;rw[hcap];refine⟨λj hj=>?_,qY (hte _ _ sm _ ⟨hDl,oN ?_,ks.length-(i+1),by lia,rfl,hlt,?_,λc u e=>?_,ac⟩)⟩
  .rw[h1]at hj;obtain⟨j,rfl⟩:=Nat.exists_eq_add_of_le' hj;rfl
  .rw[Ov,PQ];lia
  .rw[Pj,OL hlt,O8];rfl
  .rw[ah (ak e hD)];exact sm _ _ e
 .left;have ei:i=ks.length:=by lia
  subst ei;rw[Pb]at hDl;exact⟨⟨_,hl',by simp⟩,k Dl _ H' sm hDl⟩
def Az{K:SB}{H:Hp}{Dl:Addr}{ks:List Int}{f:Int->Bool}{Q:VK}(h:H Dl=some (.lst (ks.map λx=>.bl (f x))))(q:Q (.bl ((ks.map f).any id)) H):Di K [.ref Dl] H Q:=⟨Dl,_,ks.map f,rfl,SqL.of h,by rw[OP];rfl,q⟩
def AA{K:SB}{H:Hp}{le:Addr}{es:List Int}{x:Int}{Q:VK}(h:Rd H le (.lst (es.map .int)))(q:Q (.bl (decide (x∈es))) H):LJ K false (.int x) (.ref le) H Q:=by
 refine⟨le,es.map .int,rfl,.inl (.inl h),rfl,by rw[List.all_map,PR];intro _ _;rfl,?_⟩;have:Lc (.int x) (es.map .int)=decide (x∈es):=by
  clear h q;unfold Lc;induction es with
  |nil=>rfl
  |cons y es ih=>
   rw[OH,Qe,ih];show((y==x) || _)=_;by_cases e:y=x
   .subst e;simp
   .simp[e,PV e]
 rw[Ox (by decide),this];exact q
structure Og(B H:Hp) (a:Addr) (ts:List Sp.Arr) (kvs:List (List aG×V)):Prop where
 s:Same B H
 r:H a=some (.dT kvs)
 na:B a=none
 n:kvs.length<=ts.length
 k:∀k b,aL kvs (k2 k)=some b->∃(p:Addr)(l:List Int),b=.ref p/\H p=some (.lst (l.map V.int))/\B p=none/\l.length<=ts.length/\∀t,t∈l↔(k.1,k.2,t)∈ts
 z:∀k,aL kvs (k2 k)=none->∀t,(k.1,k.2,t)∉ts
 i:∀k k' p,aL kvs (k2 k)=some (.ref p)->aL kvs (k2 k')=some (.ref p)->k=k'
section
variable{X:Cx}{K:SB}{B H H':Hp}{a q p:Addr}{ts:List Sp.Arr}{es:List Int}{kvs:List (List aG×V)}{x y z g room:Int}{D:Ends}{σ:L2.St}{p0 lm le ps:Addr}{wm:List V}{w l:List Int}
def Og.more(h:Og B H a ts kvs)(s:Same H H'):Og B H' a ts kvs:=⟨h.s.trans s,s _ _ h.r,h.na,h.n,λk b e=>let ⟨p,l,h1,h2,h3⟩:=h.k k b e;⟨p,l,h1,s _ _ h2,h3⟩,h.z,h.i⟩
def Og.kp(h:Og B H a ts kvs){c:Addr}(k:Kp c H H')(n:B c=none)(nc:∀k b,H c≠some (.lst b)/\H c≠some (.dT k)):Og B H' a ts kvs:=⟨(λb u e=>k _ _ (h.s _ _ e) λz=>by rw[z,n]at e;cases e),k _ _ h.r (λz=>(nc _ []).2 (z▸h.r)),h.na,h.n,λk' b e=>let ⟨p,l,h1,h2,h3⟩:=h.k k' b e;⟨p,l,h1,k _ _ h2 (λz=>(nc [] _).1 (z▸h2)),h3⟩,h.z,h.i⟩
def Og.old(h:Og B H a ts kvs)(e:aL kvs (k2 (x,y))=some (.ref p))(hp:H p=some (.lst (l.map V.int))):Og B (upd H p (.lst (l.map V.int++[.int z]))) a (ts++[(x,y,z)]) kvs:=by
 obtain⟨p',l',e1,e2,e3,e4,e5⟩:=h.k _ _ e;cases e1;rw[hp]at e2;have el:l'=l:=by
  have:l.map V.int=l'.map V.int:=by injection e2 with e2;injection e2
  have inj:∀(a b:List Int),a.map V.int=b.map V.int->a=b:=λa b h=>by have:=Qn (List.map λv:V=>match v with|.int i=>i|_=>0) h;simpa[OP,Function.comp_def]using this
  exact(inj _ _ this).symm
 subst el;refine⟨λc u q=>?_,?_,h.na,by rw[OC];have:=h.n;lia,λk b eb=>?_,λk eb t ht=>?_,h.i⟩
 .rw[ah (λz=>by rw[z,e3]at q;cases q)];exact h.s c u q
 .rw[ah (λz=>by rw[<- z,h.r]at hp;cases hp)];exact h.r
 .obtain⟨p2,l2,f1,f2,f3,f4,f5⟩:=h.k k b eb;by_cases ek:k=(x,y)
  .subst ek;rw[e]at eb;cases eb;cases f1;exact⟨p,l'++[z],rfl,by rw[ac];simp,e3,by simp;lia,λt=>by rw[OF,OF,e5];simp⟩
  .refine⟨p2,l2,f1,?_,f3,by rw[OC];lia,λt=>?_⟩
   .rw[ah (λz=>ek (h.i _ _ p (by rw[eb,f1,z]) e))];exact f2
   .rw[f5,OF,OM];exact⟨.inl,λh=>h.resolve_right λe=>ek (by cases e;rfl)⟩
 .rcases OF.mp ht with ht|ht
  .exact h.z k eb t ht
  .rw[OM]at ht;have:k=(x,y):=by cases ht;rfl
   rw[this,e]at eb;cases eb
def qq{k k':Int×Int}{v:V}(e:aL kvs (k2 k)=none):aL (kvs++[(k2 k,v)]) (k2 k')=if k'=k then some v else aL kvs (k2 k'):=by
 induction kvs with
 |nil=>
  by_cases h:k'=k
  .rw[Ow h,h];exact aW rfl
  .rw[Ox h];exact a_ λz=>h (uO _ _ z).symm
 |cons x r ih=>
  rw[Sw];by_cases hx:x.1=k2 k'
  .rw[aW hx,aW hx,Ox λz=>by rw[z]at hx;rw[aW hx]at e;cases e]
  .rw[a_ hx,a_ hx];by_cases hk:x.1=k2 k
   .rw[aW hk]at e;cases e
   .rw[a_ hk]at e;exact ih e
def Og.new(h:Og B H a ts kvs)(e:aL kvs (k2 (x,y))=none)(hq:H q=none):Og B (upd (upd (upd H q (.lst [])) a (.dT (kvs++[(k2 (x,y),.ref q)]))) q (.lst [.int z])) a (ts++[(x,y,z)]) (kvs++[(k2 (x,y),.ref q)]):=by
 have naq:a≠q:=ak h.r hq;have kp:∀c u,H c=some u->c≠a->upd (upd (upd H q (.lst [])) a (.dT (kvs++[(k2 (x,y),.ref q)]))) q (.lst [.int z]) c=some u:=λc u ec n=>by rw[ah (ak ec hq),ah n,ah (ak ec hq)];exact ec
 refine⟨(λc u eb=>kp c u (h.s c u eb) λz=>by rw[z,h.na]at eb;cases eb),by rw[ah naq,ac],h.na,by rw[OC,OC];have:=h.n;simp;lia,λk b eb=>?_,λk eb t ht=>?_,λk k' p e1 e2=>?_⟩
 .rw[qq e]at eb;by_cases ek:k=(x,y)
  .rw[Ow ek]at eb;cases eb;subst ek;refine⟨q,[z],rfl,ac,h.s.free hq,by simp,λt=>?_⟩;rw[OF];simp[h.z _ e t]
  .rw[Ox ek]at eb;obtain⟨p2,l2,f1,f2,f3,f4,f5⟩:=h.k k b eb;refine⟨p2,l2,f1,kp _ _ f2 (λz=>by rw[z,h.r]at f2;cases f2),f3,by rw[OC];lia,λt=>?_⟩;rw[f5,OF,OM];exact⟨.inl,λh=>h.resolve_right λe=>ek (by cases e;rfl)⟩
 .rw[qq e]at eb;by_cases ek:k=(x,y)
  .rw[Ow ek]at eb;cases eb
  .rw[Ox ek]at eb;rcases OF.mp ht with ht|ht
   .exact h.z k eb t ht
   .rw[OM]at ht;exact ek (by cases ht;rfl)
 .rw[qq e]at e1 e2;have no:∀k,aL kvs (k2 k)≠some (.ref q):=λk ek=>by obtain⟨p2,l2,f1,f2,_⟩:=h.k k _ ek;cases f1;rw[hq]at f2;cases f2
  by_cases c1:k=(x,y)<;>by_cases c2:k'=(x,y)
  .rw[c1,c2]
  .rw[Ow c1]at e1;rw[Ox c2]at e2;cases e1;exact(no _ e2).elim
  .rw[Ox c1]at e1;rw[Ow c2]at e2;cases e2;exact(no _ e1).elim
  .rw[Ox c1]at e1;rw[Ox c2]at e2;exact h.i _ _ _ e1 e2
theorem Og.get(h:Og B H a ts kvs)(hq:H q=none)(k:Int×Int):∃(p:Addr)(l:List Int),(aL kvs (k2 k)).getD (.ref q)=.ref p/\upd H q (.lst []) p=some (.lst (l.map V.int))/\l.length<=ts.length/\∀t,t∈l↔(k.1,k.2,t)∈ts:=by
 cases e:aL kvs (k2 k)with
 |none=>exact⟨q,[],rfl,ac,OR _,λt=>⟨λh=>(nomatch h),λht=>(h.z k e t ht).elim⟩⟩
 |some b=>obtain⟨p,l,rfl,f2,_,f4,f5⟩:=h.k k b e;exact⟨p,l,rfl,ai hq _ _ f2,f4,f5⟩
def Mx:TS:=nZ (tVar 8) (tVar 6) (tC (.bl true))
def GE(K:SB):TS:=dD (cu K (dI (tVar 3) (ib (tCons (tVar 4) (tCons (tVar 5) tNil))) (nq tNil))) (gName 6) Mx
def JH(K:SB):TS:=dD (cu K (tVar 7)) (gName 4) (GE K)
def JI(K:SB):TS:=bn (tAsg ci (gName 8)) (bn (JH K) (tAsg (tCB rListD (tCons (tVar 8) tNil)) (gName 7)))
def My(K:SB):TS:=dD (cu K (tVar 2)) (gName 5) (JI K)
def JJ(K:SB):TE:=nT (LJ K false) (tVar 0) (tI K 1 2)
def Mz(X:Cx)(scope:Scope)(tg elt:Expr)(tN capN:List Str)(caps:List Nat):TS:=kr (tCB (Di X.K) (tCons (kh X scope tg tN capN caps elt [] (cu X.K (tVar 7))) tNil))
def JK(K:SB):TS:=cJ (qJ K "list" g7 (qJ K "dict" pL (tVar 3) (tCons (ib (tCons (tVar 4) (tCons (tVar 5) tNil))) (tCons (nq tNil) tNil))) (tCons (tVar 6) tNil))
def MA(K:SB):TS:=dD (cu K (tI K 0 1)) (tP K 3 (c_ (gName 4) (c_ (gName 5) (c_ (gName 6) tO)))) (JK K)
def GF(X:Cx)(scope:Scope)(tg elt:Expr)(tN capN:List Str)(caps:List Nat):TS:=bn (tAsg pq (gName 3)) (bn (MA X.K) (bn (tAsg (nq (tCons (tVar 1) tNil)) (gName 7)) (bn (My X.K) (Mz X scope tg elt tN capN caps))))
def NZ(G:Og B H a ts kvs)(hz:ts.length<1000000){s0 s1 s2 s7 s8:Option V}(hs:σ=[s0,s1,s2,some (.ref a),some (.int x),some (.int y),some (.int z),s7,s8])(k:∀H' kvs',Og B H' a (ts++[(x,y,z)]) kvs'->D.nx σ H'):JK K D σ H:=by
 subst hs;refine⟨_,rfl,.inr (.inr (.inl ⟨rfl,.inr ⟨_,G.r⟩⟩)),?_⟩;refine uN (ws:=[.int x,.int y]) (.c (.va rfl) (.c (.va rfl) .ni)) rfl λb hb=>⟨OR _,λq hq=>?_⟩;have s1:Same H (upd H b (.tup [.int x,.int y])):=ai hb;have G1:=G.more s1;have hb1:upd H b (.tup [.int x,.int y]) b=some (.tup ((k2 (x,y)).map kV)):=ac;generalize upd H b (.tup [.int x,.int y])=H1 at G1 hb1 hq;have s2:Same H1 (upd H1 q (.lst [])):=ai hq;refine⟨a,b,k2 (x,y),.ref q,kvs,rfl,rfl,s2 _ _ hb1,.inl (s2 _ _ G1.r),oN (by have:=G.n;lia),?_⟩;cases e:aL kvs (k2 (x,y))with
 |some v=>obtain⟨p,l,rfl,f2,f3,f4,f5⟩:=(G1.more s2).k _ _ e;exact .inl ⟨_,rfl,.inl ⟨rfl,_,SqL.of f2⟩,_,rfl,p,_,_,rfl,rfl,f2,oN (by rw[Ov];lia),k _ _ ((G1.more s2).old e f2)⟩
 |none=>
  refine .inr ⟨rfl,?_⟩;rw[dH _ e];have naq:a≠q:=ak G1.r hq;have hq2:upd (upd H1 q (.lst [])) a (.dT (kvs++[(k2 (x,y),.ref q)])) q=some (.lst []):=by rw[ah (PV naq),ac]
  exact⟨.inl ⟨rfl,_,SqL.of hq2⟩,_,rfl,q,_,_,rfl,rfl,hq2,oN (by decide),k _ _ (G1.new e hq)⟩
structure Th(ts:List Sp.Arr) (d:Addr) (G H:Hp) (P:Int->Prop) (th:List Int):Prop where
 kp:Kp d G H
 r:H d=some (.dK (kvB th))
 h:Sp.Here ts P th
def Th.EX{P:Int->Prop}{th:List Int}{d:Addr}{G:Hp}(h:Th ts d G H P th)(hP:∀x,P x->∃a∈ts,a.2.2=x)(hz:ts.length<1000000):th.length<15000000:=by have:=h.h.len (r:=0) λx hx=>.inr (hP x hx);lia
def Th.put{P P':Int->Prop}{th:List Int}{d:Addr}{G:Hp}(h:Th ts d G H P th)(hP:∀u,P' u↔P u\/u=x):∃th',Th ts d G (upd H d (.dK (bp (kvB th) (.inl x) (.bl true)))) P' th':=by
 refine⟨Sp.add th x,λc u e n=>by rw[ah n];exact h.kp c u e n,?_,λu=>by rw[Sp.add_mem,h.h.m,hP],Sp.add_nd h.h.n⟩;rw[ac];unfold Sp.add;split
 .rename_i e;rw[qg e]
 .rename_i e;rw[jk e]
def N9{here:List Int}{j:Nat}{s:Int}{th:List Int}{d:Addr}{G:Hp}(O:Og B G a ts kvs)(hda:G d=some (.dK []))(nd:B d=none)(T:Th ts d G H (λu=>∃v∈here.take j,(v,g,u)∈ts) th)(hj:here[j]?=some s)(hz:ts.length<1000000){s0 s1' s2' s6 s7:Option V}(hs:σ=[s0,s1',s2',some (.ref a),some (.int s),some (.int g),s6,s7,some (.ref d)])
 (k:∀σ' H' th' x6,σ'=[s0,s1',s2',some (.ref a),some (.int s),some (.int g),x6,s7,some (.ref d)]->Th ts d G H' (λu=>∃v∈here.take (j+1),(v,g,u)∈ts) th'->D.nx σ' H'):GE K D σ H:=by
 subst hs;have O1:Og B H a ts kvs:=O.kp T.kp nd λk b=>⟨by rw[hda];simp,by rw[hda];simp⟩
 delta GE dD cu dI
 dsimp only;refine⟨_,rfl,a,rfl,.inr ⟨_,.inl O1.r⟩,?_⟩;refine uN (ws:=[.int s,.int g]) (.c (.va rfl) (.c (.va rfl) .ni)) rfl λb hb=>⟨OR _,λq hq=>?_⟩;have s1:Same H (upd H b (.tup [.int s,.int g])):=ai hb;have O2:=O1.more s1;have hb1:upd H b (.tup [.int s,.int g]) b=some (.tup ((k2 (s,g)).map kV)):=ac;have T1:Th ts d G (upd H b (.tup [.int s,.int g])) _ th:=⟨λc u e n=>s1 _ _ (T.kp c u e n),s1 _ _ T.r,T.h⟩;generalize upd H b (.tup [.int s,.int g])=H1 at O2 hb1 T1 hq;have s2:Same H1 (upd H1 q (.lst [])):=ai hq;refine⟨_,DGet.t (k:=k2 (s,g)) (s2 _ _ O2.r) (s2 _ _ hb1),?_⟩;obtain⟨p,l,e1,e2,e3,e4⟩:=O2.get hq (s,g);rw[e1];refine⟨p,rfl,⟨_,SqL.of e2⟩,?_⟩;have T2:Th ts d G (upd H1 q (.lst [])) _ th:=⟨λc u e n=>s2 _ _ (T1.kp c u e n),s2 _ _ T1.r,T1.h⟩;have npd:p≠d:=λz=>by rw[z,T2.r]at e2;cases e2
 have sub:∀i u,((∃v∈here.take j,(v,g,u)∈ts)\/u∈l.take i)->∃a∈ts,a.2.2=u:=λi u h=>by
  rcases h with⟨v,_,h⟩|h
  .exact⟨_,h,rfl⟩
  .exact⟨_,(e4 u).mp (P9 h),rfl⟩
 generalize upd H1 q (.lst [])=H2 at T2 e2;refine cc (K:=K) (a:=p) (xs:=l.map V.int) (λi σ' H'=>(∃x6,σ'=[s0,s1',s2',some (.ref a),some (.int s),some (.int g),x6,s7,some (.ref d)])/\Kp d H2 H'/\∃th,Th ts d G H' (λu=>(∃v∈here.take j,(v,g,u)∈ts)\/u∈l.take i) th) ⟨⟨s6,rfl⟩,λc u e _=>e,th,⟨T2.kp,T2.r,λu=>by rw[T2.h.m];simp,T2.h.n⟩⟩ (λi σ' H' _ p=>SqL.of (p.2.1 _ _ e2 npd)) (λi x σ' H' hi q=>?_) λσ' H' q=>?_
 .obtain⟨⟨x6,rfl⟩,kp,th,T3⟩:=q;rw[OI]at hi;obtain⟨u,hu,rfl⟩:=OY.mp hi;refine⟨_,rfl,_,rfl,d,_,rfl,DPut.k (k:=.inl u) T3.r (oN (by rw[cZ];exact T3.EX (sub i) hz)),⟨_,rfl⟩,λc w e n=>by rw[ah n];exact kp _ _ e n,T3.put λz=>?_⟩;rw[Pj,hu,OF,or_assoc];simp
 .obtain⟨⟨x6,rfl⟩,kp,th,T3⟩:=q;refine k _ _ th x6 rfl ⟨T3.kp,T3.r,λu=>?_,T3.h.n⟩;rw[T3.h.m,Ov,Pb,Pj,hj,e4];constructor
  .rintro (⟨v,hv,h⟩|h)
   .exact⟨v,OX _ hv,h⟩
   .exact⟨s,ON _ (by simp),h⟩
  .rintro⟨v,hv,h⟩;rcases OF.mp hv with hv|hv
   .exact .inl ⟨v,hv,h⟩
   .simp at hv;subst hv;exact .inr h
def N_{here:List Int}{d hl:Addr}{G:Hp}(O:Og B G a ts kvs)(hda:G d=some (.dK []))(nd:B d=none)(hh:G hl=some (.lst (here.map V.int)))(hz:ts.length<1000000){s0 s1' s2' s4 s6:Option V}(hs:σ=[s0,s1',s2',some (.ref a),s4,some (.int g),s6,some (.ref hl),some (.ref d)])
 (k:∀σ' H' th' x4 x6,σ'=[s0,s1',s2',some (.ref a),x4,some (.int g),x6,some (.ref hl),some (.ref d)]->Th ts d G H' (λu=>∃v∈here,(v,g,u)∈ts) th'->D.nx σ' H'):JH K D σ G:=by
 have nhd:hl≠d:=λz=>by rw[z,hda]at hh;cases hh
 have h7:σ[7]?=some (some (.ref hl)):=by rw[hs];rfl
 refine⟨_,h7,hl,rfl,⟨_,SqL.of hh⟩,?_⟩;refine cc (K:=K) (a:=hl) (xs:=here.map V.int) (λi σ' H'=>(∃x4 x6,σ'=[s0,s1',s2',some (.ref a),x4,some (.int g),x6,some (.ref hl),some (.ref d)])/\∃th,Th ts d G H' (λu=>∃v∈here.take i,(v,g,u)∈ts) th) ⟨⟨s4,s6,hs⟩,[],λ_ _ e _=>e,hda,λu=>by simp,Qf⟩ (λi σ' H' _ q=>?_) (λi x σ' H' hi q=>?_) λσ' H' q=>?_
 .obtain⟨_,th,T⟩:=q;exact SqL.of (T.kp _ _ hh nhd)
 .obtain⟨⟨x4,x6,rfl⟩,th,T⟩:=q;rw[OI]at hi;obtain⟨s,hj,rfl⟩:=OY.mp hi;exact N9 O hda nd T hj hz rfl λσ2 H2 th2 y6 e2 T2=>⟨⟨_,_,e2⟩,th2,T2⟩
 .obtain⟨⟨x4,x6,rfl⟩,th,T⟩:=q;rw[Ov,Pb]at T;exact k _ _ th _ _ rfl T
def GG(l:List Int):((kvB l).map λp=>kV p.1)=l.map V.int:=by unfold kvB;rw[OP];rfl
def Oa{here:List Int}{hl:Addr}(O:Og B H a ts kvs)(hh:H hl=some (.lst (here.map V.int)))(hz:ts.length<1000000){s0 s1' s2' s4 s6 s8:Option V}(hs:σ=[s0,s1',s2',some (.ref a),s4,some (.int g),s6,some (.ref hl),s8])
 (k:∀σ' H' th hl' x4 x6 x8,σ'=[s0,s1',s2',some (.ref a),x4,some (.int g),x6,some (.ref hl'),x8]->Og B H' a ts kvs->H' hl'=some (.lst (th.map V.int))->Sp.Here ts (λu=>∃v∈here,(v,g,u)∈ts) th->D.nx σ' H'):JI K D σ H:=by
 subst hs;intro d hd;have s1:Same H (upd H d (.dK [])):=ai hd;have O1:=O.more s1;have nd:=O.s.free hd;refine N_ (D:={D with nx:=tAsg (tCB rListD (tCons (tVar 8) tNil)) (gName 7) D}) O1 ac nd (s1 _ _ hh) hz rfl λσ' H' th x4 x6 e T=>?_;subst e;have EX:=T.EX (λx ⟨v,_,h⟩=>⟨_,h,rfl⟩) hz;refine⟨_,rfl,d,kvB th,.dK (kvB th),rfl,.inl rfl,.inl T.r,P_ (oN (by rw[cZ];exact EX)),λl hl'=>?_⟩;rw[GG];have O2:Og B H' a ts kvs:=O1.kp T.kp nd λk b=>⟨by rw[ac];simp,by rw[ac];simp⟩;exact k _ _ th l _ _ _ rfl (O2.more (ai hl')) ac T.h
def wd{here:List Int}{w:List Int}(h:Sp.Here ts (Sp.Rc ts room w) here){th:List Int}(h':Sp.Here ts (λu=>∃v∈here,(v,g,u)∈ts) th):Sp.Here ts (Sp.Rc ts room (w++[g])) th:=by
 refine⟨λx=>?_,h'.n⟩;rw[h'.m,Sp.rc_snoc];constructor
 .rintro⟨v,hv,h1⟩;exact⟨v,(h.m v).mp hv,h1⟩
 .rintro⟨v,hv,h1⟩;exact⟨v,(h.m v).mpr hv,h1⟩
def GH{here:List Int}{w:List Int}(h:Sp.Here ts (Sp.Rc ts room w) here)(hz:ts.length<1000000):here.length<15000000:=by
 have:=h.len (r:=room) λx hx=>?_
 .lia
 .rcases List.eq_nil_or_concat w with rfl|⟨v,g,rfl⟩
  .exact .inl hx
  .rw[List.concat_eq_append]at hx;obtain⟨y,_,h⟩:=Sp.rc_snoc.mp hx;exact .inr ⟨_,h,rfl⟩
def sL:Sp.Here ts (Sp.Rc ts room []) [room]:=⟨λx=>by rw[OM];exact Iff.rfl,by simp⟩
def Dj{here:List Int}(h:Sp.Here ts (Sp.Rc ts room w) here):((here.map λx=>decide (x∈es)).any id=true)↔Sp.AccM ts es room w:=by
 rw[wc,Sp.rc_acc];constructor
 .rintro⟨x,h1,h2⟩;exact⟨x,(h.m x).mp h1,P7 h2⟩
 .rintro⟨x,h1,h2⟩;exact⟨x,(h.m x).mpr h1,OT h2⟩
def uX{mg:Str->Option SD}{scope:Scope}{tg elt:Expr}{tN capN:List Str}{caps:List Nat}{N:List Str}{vs:List V}{Q:VK}{E:XK}(h1:tN.length=1)(hc:caps=[0])(hN:N.length=9)(hg:∀cl C s3 H3 fp,PG (aT X scope (tN++capN) cl C s3 H3 fp) tg (gName 0))(he:∀cl C s3 H3 fp,PE (aT X scope (tN++capN) cl C s3 H3 fp) elt (JJ X.K))
 (h:m_ mg 3 (Ez Ip True) vs H Q E):GF X scope tg elt tN capN caps {nx:=λ_ H'=>Q .ba H',rt:=Q} (start N vs) H:=by
 obtain⟨hl,ds,Ma,is,post⟩:=h;unfold Ez at post;by_cases hex:∃b,Dg Ip True ds b
 case neg=>rw[dif_neg hex]at post;exact post.elim
 rw[dif_pos hex]at post;have hch:=QB hex;generalize Classical.choose hex=bb at post hch;obtain⟨_,n,ts,es,r,w,rfl,z1,z2,z3,hb⟩:=hch;have z1:ts.length<1000000:=by lia
 obtain⟨v0,r0,rfl,i0,v1,r1,rfl,i1,v2,r2,rfl,i2,rfl⟩:=is;obtain⟨p0,lm,le,wm,rfl,M⟩:=EQ.of i0;obtain rfl:v1=.int r:=i1;obtain⟨ps,wv,rfl,hps,iw⟩:=mz i2;rw[jO iw]at hps;have hst:start N [V.ref p0,.int r,.ref ps]=[some (.ref p0),some (.int r),some (.ref ps),none,none,none,none,none,none]:=by
  obtain⟨N0,N1,N2,N3,N4,N5,N6,N7,N8,rfl⟩ : ∃a b c d e f g h i,N=[a,b,c,d,e,f,g,h,i]:=by rcases N with _|⟨a,_|⟨b,_|⟨c,_|⟨d,_|⟨e,_|⟨f,_|⟨g,_|⟨h,_|⟨i,_|_⟩⟩⟩⟩⟩⟩⟩⟩⟩<;>first|(cases hN;done)|exact⟨_,_,_,_,_,_,_,_,_,rfl⟩
  rfl
 rw[hst];intro a ha;have s1:Same H (upd H a (.dT [])):=ai ha;obtain⟨y0,hp0⟩:=M.t;have G0:Og H (upd H a (.dT [])) a [] []:=⟨s1,ac,ha,Ou _,λk b e=>(nomatch e),λk _ t ht=>(nomatch ht),λk k' p e=>(nomatch e)⟩;refine Reads.ix (.va rfl) (s1 _ _ hp0) (v:=.ref lm) rfl _ ⟨lm,rfl,⟨wm,.inl (bg s1 M.l)⟩,?_⟩;refine cc (K:=X.K) (a:=lm) (xs:=wm) (λi σ' H'=>(∃x4 x5 x6,σ'=[some (.ref p0),some (.int r),some (.ref ps),some (.ref a),x4,x5,x6,none,none])/\∃kvs,Og H H' a (ts.take i) kvs) ⟨⟨none,none,none,rfl⟩,[],G0⟩ (λi σ' H' _ q=>?_) (λi x σ' H' hi q=>?_) λσ' H' q=>?_
 .obtain⟨_,kvs,G⟩:=q;exact .inl (bg G.s M.l)
 .obtain⟨⟨x4,x5,x6,rfl⟩,kvs,G⟩:=q;obtain⟨t,ht,p,rfl,hp⟩:=M.a.get hi;refine L7 (G.s _ _ hp) (NZ (x:=t.1) (y:=t.2.1) (z:=t.2.2) G (by rw[PQ];lia) rfl λH2 kvs2 G2=>⟨⟨_,_,_,rfl⟩,kvs2,?_⟩);rw[Pj,ht];exact G2
 .obtain⟨⟨x4,x5,x6,rfl⟩,kvs,G⟩:=q;rw[<- M.a.len,Pb]at G;refine⟨_,rfl,P_ (oN (by show 1<15000000;decide)),λhl0 hhl0=>?_⟩;have s3:Same H' (upd H' hl0 (.lst [.int r])):=ai hhl0;refine⟨_,rfl,ps,rfl,⟨_,.inl (bg (G.s.trans s3) hps)⟩,?_⟩;refine cc (K:=X.K) (a:=ps) (xs:=w.map V.int) (λi σ' H'=>∃x4 x5 x6 hl x8 here,σ'=[some (.ref p0),some (.int r),some (.ref ps),some (.ref a),x4,x5,x6,some (.ref hl),x8]/\Og H H' a ts kvs/\H' hl=some (.lst (here.map V.int))/\Sp.Here ts (Sp.Rc ts r (w.take i)) here) ⟨_,_,_,_,_,[r],rfl,G.more s3,ac,sL⟩ (λi σ' H' _ q=>?_) (λi x σ' H' hi q=>?_) λσ' H' q=>?_
  .obtain⟨_,_,_,_,_,_,_,G,_⟩:=q;exact .inl (bg G.s hps)
  .obtain⟨y4,y5,y6,hl,y8,here,rfl,G3,hh,hr⟩:=q;rw[OI]at hi;obtain⟨g,hg',rfl⟩:=OY.mp hi;refine Oa G3 hh z1 rfl λσ2 H2 th hl2 z4 z6 z8 e2 G4 h4 h5=>⟨_,_,_,_,_,th,e2,G4,h4,?_⟩;rw[Pj,hg'];exact wd hr h5
  .obtain⟨y4,y5,y6,hl,y8,here,rfl,G3,hh,hr⟩:=q;rw[Ov,Pb]at hr;have M3:=M.more G3.s;obtain⟨y3,hp3⟩:=M3.t;refine⟨_,rfl,hl,rfl,⟨_,SqL.of hh⟩,Ay (te:=JJ X.K) (f:=λx=>decide (x∈es)) (caps:=caps) h1 (by rw[hc];rfl) hg he (λx H2 s2=>.op (.va rfl) (.ix (.va rfl) (s2 _ _ hp3) rfl) λQ q=>AA (bg s2 M3.e) q) (.inl hh) (GH hr z1) λDl _ H2 s2 hD=>Az hD ?_⟩;have eb:((here.map λx=>decide (x∈es)).any id)=bb:=by rw[PL,Dj hr,hb]
   rw[eb];exact post _ H2 (G3.s.trans s2) rfl
end
structure Ld(G:Hp) (a:Addr) (ts:List Sp.Arr) (kvs:List (aG×V)):Prop where
 r:G a=some (.dK kvs)
 w:∀s,(aL kvs (.inl s)=none/\∀g t,(s,g,t)∉ts)\/∃(p:Addr)(ks:List (aG×V)),aL kvs (.inl s)=some (.ref p)/\G p=some (.dK ks)/\
  ∀g,(aL ks (.inl g)=none/\∀t,(s,g,t)∉ts)\/∃(q:Addr)(l:List Int),aL ks (.inl g)=some (.ref q)/\G q=some (.lst (l.map V.int))/\l.length<=1000000/\∀t,t∈l↔(s,g,t)∈ts
def Ld.more{G G':Hp}{a:Addr}{ts:List Sp.Arr}{kvs:List (aG×V)}(h:Ld G a ts kvs)(s:∀c u,G c=some u->G' c=some u):Ld G' a ts kvs:=⟨s _ _ h.r,λx=>(h.w x).imp id λ⟨p,ks,h1,h2,h3⟩=>⟨p,ks,h1,s _ _ h2,λg=>(h3 g).imp id λ⟨q,l,f1,f2,f3⟩=>⟨q,l,f1,s _ _ f2,f3⟩⟩⟩
def LfR(cs:Tag->Option (Addr×HO))(ts:List Sp.Arr)(m:Nat)(s:Int)(ks:List (aG×V)):Prop:=∀g,(aL ks (.inl g)=none/\∀t,(s,g,t)∉ts)\/∃(q:Addr)(l:List Int),aL ks (.inl g)=some (.ref q)/\cs (.lf s g)=some (q,.lst (l.map V.int))/\l.length<=m/\∀t,t∈l↔(s,g,t)∈ts
def Ob(cs:Tag->Option (Addr×HO))(ts:List Sp.Arr)(m:Nat)(kvs:List (aG×V)):Prop:=∀s,(aL kvs (.inl s)=none/\∀g t,(s,g,t)∉ts)\/∃(p:Addr)(ks:List (aG×V)),aL kvs (.inl s)=some (.ref p)/\cs (.row s)=some (p,.dK ks)/\ks.length<=m/\LfR cs ts m s ks
structure Ag(B H:Hp) (a:Addr) (ts:List Sp.Arr) (m:Nat) (kvs:List (aG×V)) (cs:Tag->Option (Addr×HO)) (col:Addr->Option Tag):Prop where
 c:Core B H Z0 col cs
 r:cs .ta=some (a,.dK kvs)
 n:kvs.length<=m
 w:Ob cs ts m kvs
section
variable{K:SB}{B H H':Hp}{a q p:Addr}{ts:List Sp.Arr}{es:List Int}{kvs ks:List (aG×V)}{s g t:Int}{D:Ends}{σ:L2.St}{l:List Int}{m:Nat}{cs cs':Tag->Option (Addr×HO)}{col:Addr->Option Tag}
def jn{s s':Int}{v:V}(e:aL kvs (.inl s)=none):aL (kvs++[(.inl s,v)]) (.inl s')=if s'=s then some v else aL kvs (.inl s'):=by
 induction kvs with
 |nil=>
  by_cases h:s'=s
  .rw[Ow h,h];exact aW rfl
  .rw[Ox h];exact a_ λz=>h (Sf z).symm
 |cons x r ih=>
  rw[Sw];by_cases hx:x.1=.inl s'
  .rw[aW hx,aW hx,Ox λz=>by rw[z]at hx;rw[aW hx]at e;cases e]
  .rw[a_ hx,a_ hx];by_cases hk:x.1=.inl s
   .rw[aW hk]at e;cases e
   .rw[a_ hk]at e;exact ih e
def LfR.mono(h:LfR cs ts m s ks)(e:∀g,cs' (.lf s g)=cs (.lf s g)):LfR cs' ts (m+1) s ks:=λg=>(h g).imp id λ⟨q,l,f1,f2,f3,f4⟩=>⟨q,l,f1,by rw[e];exact f2,by lia,f4⟩
open Classical in
noncomputable def fY(cs:Tag->Option (Addr×HO))(t:Tag)(x:Addr×HO):Tag->Option (Addr×HO):=λq=>if q=t then some x else cs q
def be{x:Addr×HO}{q:Tag}:fY cs q x q=some x:=Ow rfl
def aP{x:Addr×HO}{q u:Tag}(h:u≠q):fY cs q x u=cs u:=Ox h
theorem Ag.more(A:Ag B H a ts m kvs cs col)(s:Same H H'):Ag B H' a ts m kvs cs col:=⟨A.c.more s,A.r,A.n,A.w⟩
theorem Ag.row(A:Ag B H a ts m kvs cs col)(e:aL kvs (.inl s)=none)(hp:H p=none):∃cs' col',Ag B (upd (upd H p (.dK [])) a (.dK (kvs++[(.inl s,.ref p)]))) a ts (m+1) (kvs++[(.inl s,.ref p)]) cs' col'/\cs' (.row s)=some (p,.dK []):=by
 obtain⟨col',c1⟩:=A.c.new (t:=.row s) hp (z0 _) (u':=.dK []) (cs':=fY cs (.row s) (p,.dK [])) be λ_ h=>aP h;have c2:=c1.put (t:=.ta) (a:=a) (u:=.dK kvs) (u':=.dK (kvs++[(.inl s,.ref p)])) (cs':=fY (fY cs (.row s) (p,.dK [])) .ta (a,.dK (kvs++[(.inl s,.ref p)]))) (by rw[aP (by nofun)];exact A.r) (z0 _) be λ_ h=>aP h;have er:fY (fY cs (.row s) (p,.dK [])) .ta (a,.dK (kvs++[(.inl s,.ref p)])) (.row s)=some (p,.dK []):=by rw[aP (by nofun),be]
 have el:∀u g,fY (fY cs (.row s) (p,.dK [])) .ta (a,.dK (kvs++[(.inl s,.ref p)])) (.lf u g)=cs (.lf u g):=λu g=>by rw[aP (by nofun),aP (by nofun)]
 refine⟨_,col',⟨c2,be,by have:=A.n;simp;lia,λu=>?_⟩,er⟩;rw[jn e];by_cases h:u=s
 .subst h;have hno:∀g t,(u,g,t)∉ts:=by
   rcases A.w u with q|⟨p',ks,h1,_⟩
   .exact q.2
   .rw[e]at h1;cases h1
  rw[Ow rfl];exact .inr ⟨p,[],rfl,er,OR _,λg=>.inl ⟨rfl,hno g⟩⟩
 .rw[Ox h];refine(A.w u).imp id λ⟨p',ks,h1,h2,h3,h4⟩=>⟨p',ks,h1,?_,by lia,h4.mono λg=>el u g⟩;rw[aP (by nofun),aP (by intro z;exact h (by injection z))];exact h2
def Ag.leaf(A:Ag B H a ts m kvs cs col)(e1:aL kvs (.inl s)=some (.ref p))(er:cs (.row s)=some (p,.dK ks))(e:aL ks (.inl g)=none)(hz:ks.length<=m)(hf:LfR cs ts m s ks)(hq:H q=none) :
 ∃cs' col',Ag B (upd (upd H q (.lst [])) p (.dK (ks++[(.inl g,.ref q)]))) a ts (m+1) kvs cs' col'/\cs' (.row s)=some (p,.dK (ks++[(.inl g,.ref q)]))/\cs' (.lf s g)=some (q,.lst []):=by
 obtain⟨col',c1⟩:=A.c.new (t:=.lf s g) hq (z0 _) (u':=.lst []) (cs':=fY cs (.lf s g) (q,.lst [])) be λ_ h=>aP h;have c2:=c1.put (t:=.row s) (a:=p) (u:=.dK ks) (u':=.dK (ks++[(.inl g,.ref q)])) (cs':=fY (fY cs (.lf s g) (q,.lst [])) (.row s) (p,.dK (ks++[(.inl g,.ref q)]))) (by rw[aP (by nofun)];exact er) (z0 _) be λ_ h=>aP h;have el:fY (fY cs (.lf s g) (q,.lst [])) (.row s) (p,.dK (ks++[(.inl g,.ref q)])) (.lf s g)=some (q,.lst []):=by rw[aP (by nofun),be]
 have eo:∀u v,¬(u=s/\v=g)->fY (fY cs (.lf s g) (q,.lst [])) (.row s) (p,.dK (ks++[(.inl g,.ref q)])) (.lf u v)=cs (.lf u v):=λu v h=>by rw[aP (by nofun),aP (by intro z;injection z with a b;exact h ⟨a,b⟩)]
 refine⟨_,col',⟨c2,by rw[aP (by nofun),aP (by nofun)];exact A.r,by have:=A.n;lia,λu=>?_⟩,be,el⟩;by_cases h:u=s
 .subst h;refine .inr ⟨p,_,e1,be,by simp;lia,λv=>?_⟩;rw[jn e];by_cases hv:v=g
  .subst hv;have hno:∀t,(u,v,t)∉ts:=by
    rcases hf v with q|⟨q',l,h1,_⟩
    .exact q.2
    .rw[e]at h1;cases h1
   rw[Ow rfl];exact .inr ⟨q,[],rfl,el,OR _,λt=>⟨λh=>(nomatch h),λh=>(hno t h).elim⟩⟩
  .rw[Ox hv];refine(hf v).imp id λ⟨q',l,f1,f2,f3,f4⟩=>⟨q',l,f1,?_,by lia,f4⟩;rw[eo u v λz=>hv z.2];exact f2
 .refine(A.w u).imp id λ⟨p',ks',h1,h2,h3,h4⟩=>⟨p',ks',h1,?_,by lia,h4.mono λv=>eo u v λz=>h z.1⟩;rw[aP (by intro z;exact h (by injection z)),aP (by nofun)];exact h2
def Ag.app(A:Ag B H a ts m kvs cs col)(e1:aL kvs (.inl s)=some (.ref p))(er:cs (.row s)=some (p,.dK ks))(hz:ks.length<=m)(hf:LfR cs ts m s ks)(e2:aL ks (.inl g)=some (.ref q))(el:cs (.lf s g)=some (q,.lst (l.map V.int)))(hl:l.length<=m)(hm:∀t,t∈l↔(s,g,t)∈ts) :
 ∃cs',Ag B (upd H q (.lst (l.map V.int++[.int t]))) a (ts++[(s,g,t)]) (m+1) kvs cs' col:=by
 have c1:=A.c.put (t:=.lf s g) el (z0 _) (u':=.lst (l.map V.int++[.int t])) (cs':=fY cs (.lf s g) (q,.lst (l.map V.int++[.int t]))) be λ_ h=>aP h;have eo:∀u v,¬(u=s/\v=g)->fY cs (.lf s g) (q,.lst (l.map V.int++[.int t])) (.lf u v)=cs (.lf u v):=λu v h=>aP (λz=>h (by injection z with a b;exact⟨a,b⟩));have nm:∀u v x,¬(u=s/\v=g)->((u,v,x)∈ts++[(s,g,t)]↔(u,v,x)∈ts):=λu v x h=>by rw[OF,OM];exact⟨λz=>z.resolve_right λe=>h (by cases e;exact⟨rfl,rfl⟩),.inl⟩
 refine⟨_,c1,by rw[aP (by nofun)];exact A.r,by have:=A.n;lia,λu=>?_⟩;by_cases h:u=s
 .subst h;refine .inr ⟨p,ks,e1,by rw[aP (by nofun)];exact er,by lia,λv=>?_⟩;by_cases hv:v=g
  .subst hv;exact .inr ⟨q,l++[t],e2,by rw[be];simp,by simp;lia,λx=>by rw[OF,OF,hm];simp⟩
  .have nv:¬(u=u/\v=g):=λz=>hv z.2;exact(hf v).imp (λz=>⟨z.1,λx hx=>z.2 x ((nm u v x nv).mp hx)⟩) λ⟨q',l',f1,f2,f3,f4⟩=>⟨q',l',f1,by rw[eo u v nv];exact f2,by lia,λx=>by rw[f4,nm u v x nv]⟩
 .have nv:∀v,¬(u=s/\v=g):=λv z=>h z.1;exact(A.w u).imp (λz=>⟨z.1,λv x hx=>z.2 v x ((nm u v x (nv v)).mp hx)⟩) λ⟨p',ks',h1,h2,h3,h4⟩=>⟨p',ks',h1,by rw[aP (by nofun)];exact h2,by lia,λv=>(h4 v).imp (λz=>⟨z.1,λx hx=>z.2 x ((nm u v x (nv v)).mp hx)⟩) λ⟨q',l',f1,f2,f3,f4⟩=>⟨q',l',f1,by rw[eo u v (nv v)];exact f2,by lia,λx=>by rw[f4,nm u v x (nv v)]⟩⟩
def Ag.ld(A:Ag B H a ts m kvs cs col)(hm:m<=1000000):Ld H a ts kvs:=⟨A.c.at A.r (z0 _),λs=>(A.w s).imp id λ⟨p,ks,h1,h2,_,h4⟩=>⟨p,ks,h1,A.c.at h2 (z0 _),λg=>(h4 g).imp id λ⟨q,l,f1,f2,f3,f4⟩=>⟨q,l,f1,A.c.at f2 (z0 _),by lia,f4⟩⟩⟩
inductive Bn:Sp
 |mk {p lm le:Addr} {wm:List V} {ts:List Sp.Arr} {es:List Int} {H:Hp} {Q:VK} {E:XK} (M:EQ H p lm le wm ts es) (hz:ts.length<300000) (k:∀a kvs H',Same H H'->Ld H' a ts kvs->Q (.ref a) H'):Bn [.ref p] H Q E
def AB{vs:List V}{Q:VK}{E:XK}(h:Bn vs H Q E):vs.length=1:=by cases h;rfl
def JL(K:SB):TS:=cJ (qJ K "list" g7 (qJ K "dict" il (qJ K "dict" il (tVar 1) (tCons (tVar 2) (tCons ci tNil))) (tCons (tVar 3) (tCons (nq tNil) tNil))) (tCons (tVar 4) tNil))
def Oc(K:SB):TS:=bn (tAsg ci (gName 1)) (bn (dD (cu K (tI K 0 1)) (tP K 3 (c_ (gName 2) (c_ (gName 3) (c_ (gName 4) tO)))) (JL K)) (kr (tVar 1)))
def GI{Q:VK}{i:Nat}(ha:H a=some (.dK kvs))(hz:kvs.length<15000000)(hi:σ[i]?=some (some (.int s)))(h1:∀x p,aL kvs (.inl s)=some x->H p=none->Q x (upd H p (.lst [])))
 (h2:∀p,aL kvs (.inl s)=none->H p=none->Q (.ref p) (upd (upd H p (.lst [])) a (.dK (kvs++[(.inl s,.ref p)])))):B3 K "dict" (.ref a) H/\tCons (tVar i) (tCons (nq tNil) tNil) σ H λxs H2=>il (.ref a) xs H2 Q:=by
 refine⟨.inr (.inr (.inl ⟨rfl,.inl ⟨_,ha⟩⟩)),_,hi,OR _,λp hp=>⟨a,.inl s,.ref p,kvs,rfl,rfl,.inl (by rw[ah (ak ha hp)];exact ha),oN hz,?_⟩⟩;cases e:aL kvs (.inl s)with
 |some x=>exact .inl ⟨x,rfl,h1 x p e hp⟩
 |none=>exact .inr ⟨rfl,by rw[dH _ e];exact h2 p e hp⟩
def Nw(A:Ag B H a ts m kvs cs col)(hm:m+1<15000000)(e1:aL kvs (.inl s)=some (.ref p))(er:cs (.row s)=some (p,.dK ks))(hz:ks.length<=m)(hf:LfR cs ts m s ks)(e2:aL ks (.inl g)=some (.ref q))(el:cs (.lf s g)=some (q,.lst (l.map V.int)))(hl:l.length<=m)(hh:∀t,t∈l↔(s,g,t)∈ts)(h4:σ[4]?=some (some (.int t)))
 (k:∀cs' H',Ag B H' a (ts++[(s,g,t)]) (m+1) kvs cs' col->D.nx σ H'):B3 K "list" (.ref q) H/\tCons (tVar 4) tNil σ H λxs H2=>g7 (.ref q) xs H2 λ_ H1=>D.nx σ H1:=by
 have hq:=A.c.at el (z0 _);obtain⟨cs',A'⟩:=A.app (t:=t) e1 er hz hf e2 el hl hh;exact⟨.inl ⟨rfl,_,SqL.of hq⟩,_,h4,q,_,_,rfl,rfl,hq,oN (by rw[Ov];lia),k _ _ A'⟩
def Nx(A:Ag B H a ts m kvs cs col)(hm:m+2<15000000)(e1:aL kvs (.inl s)=some (.ref p))(er:cs (.row s)=some (p,.dK ks))(hz:ks.length<=m)(hf:LfR cs ts m s ks)(h3:σ[3]?=some (some (.int g)))(h4:σ[4]?=some (some (.int t)))
 (k:∀cs' col' H',Ag B H' a (ts++[(s,g,t)]) (m+2) kvs cs' col'->D.nx σ H'):B3 K "dict" (.ref p) H/\tCons (tVar 3) (tCons (nq tNil) tNil) σ H λxs H2=>il (.ref p) xs H2 λx H1=>B3 K "list" x H1/\tCons (tVar 4) tNil σ H1 λxs H2=>g7 x xs H2 λ_ H1=>D.nx σ H1:=by
 have wk:∀{H kvs cs col},Ag B H a (ts++[(s,g,t)]) (m+1) kvs cs col->Ag B H a (ts++[(s,g,t)]) (m+2) kvs cs col:=λ{H kvs cs col} A=>⟨A.c,A.r,by have:=A.n;lia,λu=>(A.w u).imp id λ⟨p',ks',h1,h2,h3,h4⟩=>⟨p',ks',h1,h2,by lia,h4.mono λ_=>rfl⟩⟩;refine GI (A.c.at er (z0 _)) (by lia) h3 (λx q' hv hq=>?_) λq' hv hq=>?_
 .rcases hf g with⟨h,_⟩|⟨q,l,f1,f2,f3,f4⟩
  .rw[hv]at h;cases h
  .rw[hv]at f1;cases f1;exact Nw (A.more (ai hq)) (by lia) e1 er hz hf hv f2 f3 f4 h4 λcs' H' A'=>k _ _ _ (wk A')
 .obtain⟨cs',col',A1,r1,l1⟩:=A.leaf e1 er hv hz hf hq;have f1:LfR cs' ts (m+1) s (ks++[(.inl g,.ref q')]):=by
   rcases A1.w s with⟨h,_⟩|⟨p2,ks2,h1,h2,_,h4⟩
   .rw[e1]at h;cases h
   .rw[r1]at h2;cases h2;exact h4
  have hno:∀t,(s,g,t)∉ts:=by
   rcases hf g with h|⟨q,l,f1,_⟩
   .exact h.2
   .rw[hv]at f1;cases f1
  exact Nw (l:=[]) A1 (by lia) e1 r1 (by simp;lia) f1 (by rw[jn hv,Ow rfl]) l1 (OR _) (λt=>⟨λh=>(nomatch h),λh=>(hno t h).elim⟩) h4 λcs2 H2 A2=>k _ _ _ A2
def Od{s0:Option V}(A:Ag B H a ts m kvs cs col)(hm:m+3<15000000)(hs:σ=[s0,some (.ref a),some (.int s),some (.int g),some (.int t)])(k:∀kvs' cs' col' H',Ag B H' a (ts++[(s,g,t)]) (m+3) kvs' cs' col'->D.nx σ H'):JL K D σ H:=by
 subst hs;have wk:∀{H kvs cs col},Ag B H a (ts++[(s,g,t)]) (m+2) kvs cs col->Ag B H a (ts++[(s,g,t)]) (m+3) kvs cs col:=λ{H kvs cs col} A=>⟨A.c,A.r,by have:=A.n;lia,λu=>(A.w u).imp id λ⟨p',ks',h1,h2,h3,h4⟩=>⟨p',ks',h1,h2,by lia,h4.mono λ_=>rfl⟩⟩;refine⟨_,rfl,v7 (A.c.at A.r (z0 _)) (by have:=A.n;lia) rfl (λx p' hv hp=>?_) λp' hv hp=>?_⟩
 .rcases A.w s with⟨h,_⟩|⟨p,ks,h1,h2,h3,h4⟩
  .rw[hv]at h;cases h
  .rw[hv]at h1;cases h1;exact Nx (A.more (ai hp)) (by lia) hv h2 h3 h4 rfl rfl λ_ _ _ A'=>k _ _ _ _ (wk A')
 .obtain⟨cs',col',A1,r1⟩:=A.row hv hp;have e1:aL (kvs++[(.inl s,.ref p')]) (.inl s)=some (.ref p'):=by rw[jn hv,Ow rfl]
  have f1:LfR cs' ts (m+1) s []:=by
   rcases A1.w s with⟨h,_⟩|⟨p2,ks2,h1,h2,_,h4⟩
   .rw[e1]at h;cases h
   .rw[r1]at h2;cases h2;exact h4
  exact Nx A1 (by lia) e1 r1 (OR _) f1 rfl rfl λ_ _ _ A'=>k _ _ _ _ A'
def Dk{vs:List V}{Q:VK}{E:XK}(h:Bn vs H Q E):Oc K {nx:=λ_ H'=>Q .ba H',rt:=Q} (start ["machine","leading","start","sign","to"] vs) H:=by
 obtain @⟨p0,lm,le,wm,ts,es,H,Q,E,M,hz,k⟩:=h;intro a ha;have s1:Same H (upd H a (.dK [])):=ai ha;obtain⟨y0,hp0⟩:=M.t;obtain⟨col0,c0⟩:=Core.new (B:=H) (H:=H) (Z:=Z0) (col:=λ_=>(none:Option Tag)) (cs:=λ_=>none) (a:=a) (t:=.ta) (u':=.dK []) ⟨λ_ _ e=>e,λ_ _ _ e=>(nomatch e),λ_ h=>h.elim⟩ ha (z0 _) (cs':=fY (λ_=>none) .ta (a,.dK [])) be λ_ h=>aP h;refine jN (Reads.ix (.va (i:=0) rfl) (s1 _ _ hp0) (v:=.ref lm) rfl _ ⟨lm,rfl,⟨wm,.inl (bg s1 M.l)⟩,?_⟩);refine cc (K:=K) (a:=lm) (xs:=wm) (λi σ' H'=>(∃x y z,σ'=[some (.ref p0),some (.ref a),x,y,z])/\∃kvs cs col,Ag H H' a (ts.take i) (3*i) kvs cs col) ⟨⟨none,none,none,rfl⟩,[],_,col0,c0,be,Ou _,λs=>.inl ⟨rfl,λg t h=>(nomatch h)⟩⟩ (λi σ' H' _ q=>?_) (λi v σ' H' hi q=>?_) λσ' H' q=>?_
 .obtain⟨_,kvs,cs,col,A⟩:=q;exact .inl (bg A.c.same M.l)
 .obtain⟨⟨x,y,z,rfl⟩,kvs,cs,col,A⟩:=q;obtain⟨t,ht,p,rfl,hp⟩:=M.a.get hi;have hi':i<ts.length:=(OG.mp ht).1;refine L7 (A.c.same _ _ hp) (Od (s:=t.1) (g:=t.2.1) (t:=t.2.2) A (by lia) rfl λkvs2 cs2 col2 H2 A2=>⟨⟨_,_,_,rfl⟩,kvs2,cs2,col2,?_⟩);rw[Pj,ht];exact A2
 .obtain⟨⟨x,y,z,rfl⟩,kvs,cs,col,A⟩:=q;rw[<- M.a.len,Pb]at A;exact⟨_,rfl,k a kvs H' A.c.same (A.ld (by lia))⟩
end
def AC(Fm:List D->Res R):Prop:=∀l:List Int,l.length<=1000000->Fm [.lst (l.map .int)]=.ok (.gd (Ls (Sp.marked l)))
def JM:V->List V->Hp->VK->Prop:=λx xs H Q=>∃a b kvs more,x=.ref a/\xs=[.ref b]/\a≠b/\(H a=some (.dK kvs)\/(H a=some (.dT [])/\kvs=[]))/\(Rd H b (.dK more)\/(Rd H b (.dT [])/\more=[]))/\kvs.length+more.length<=sizeLine/\Q .ba (upd H a (.dK (bG kvs more)))
def Dm{X:Cx}:Fo X "dict.update" JM:=w6
section
variable{X:Cx}{K:SB}{mg:Str->Option SD}{Fm:List D->Res R}{H H' H0:Hp}{a q p d d0:Addr}{ts:List Sp.Arr}{es:List Int}{kvs ks:List (aG×V)}{s g t:Int}{σ:L2.St}{l here:List Int}{Q:VK}{E:XK}
def Dn(l:List Int)(x:Int):bp (kvB l) (.inl x) (.bl true)=kvB (Sp.add l x):=by
 unfold Sp.add;split
 .rename_i e;rw[qg e]
 .rename_i e;rw[jk e]
theorem oQ:∀(ml th:List Int),bG (kvB th) (kvB ml)=kvB (ml.foldl Sp.add th)
 |[],_=>rfl
 |x::ml,th=>by show bG (bp (kvB th) (.inl x) (.bl true)) (kvB ml)=_;rw[Dn];exact oQ ml _
def Do(ml:List Int):∀th:List Int,th.Nodup->(ml.foldl Sp.add th).Nodup/\∀x,x∈ml.foldl Sp.add th↔x∈th\/x∈ml:=by
 induction ml with
 |nil=>exact λth h=>⟨h,λx=>by simp⟩
 |cons y ml ih=>intro th h;obtain⟨h1,h2⟩:=ih (Sp.add th y) (Sp.add_nd h);exact⟨h1,λx=>by rw[RD,h2,Sp.add_mem,OE,or_assoc]⟩
def Ny:TE:=dI (dI (tVar 0) (tVar 4) ci) (tVar 2) (nq tNil)
def JN(L:Ld H a ts kvs)(h0:σ[0]?=some (some (.ref a)))(h4:σ[4]?=some (some (.int s)))(h2:σ[2]?=some (some (.int g)))(k:∀(q:Addr)(l:List Int)(H':Hp),Same H H'->H' q=some (.lst (l.map V.int))->l.length<=1000000->(∀t,t∈l↔(s,g,t)∈ts)->Q (.ref q) H'):Ny σ H Q:=by
 refine⟨_,h0,a,rfl,.inl ⟨_,.inl L.r⟩,_,h4,λp hp=>?_⟩;have s1:Same H (upd H p (.dK [])):=ai hp;refine⟨_,DGet.k (k:=.inl s) (s1 _ _ L.r),?_⟩;rcases L.w s with⟨e,no⟩|⟨b,ks,e,hb,w⟩
 .rw[e];refine⟨p,rfl,.inl ⟨_,.inl ac⟩,_,h2,OR _,λq hq=>?_⟩;have s2:=ai (o:=.lst []) hq;exact⟨_,DGet.k (k:=.inl g) (s2 _ _ ac),k q [] _ (s1.trans s2) ac (OR _) λt=>⟨λh=>(nomatch h),λh=>(no g t h).elim⟩⟩
 .rw[e];refine⟨b,rfl,.inl ⟨_,.inl (s1 _ _ hb)⟩,_,h2,OR _,λq hq=>?_⟩;have s2:=ai (o:=.lst []) hq;refine⟨_,DGet.k (k:=.inl g) (s2 _ _ (s1 _ _ hb)),?_⟩;rcases w g with⟨e2,no⟩|⟨c,l,e2,hc,hz,hm⟩
  .rw[e2];exact k q [] _ (s1.trans s2) ac (OR _) λt=>⟨λh=>(nomatch h),λh=>(no t h).elim⟩
  .rw[e2];exact k c l _ (s1.trans s2) (s2 _ _ (s1 _ _ hc)) hz hm
inductive jD(Fm:List D->Res R):Sp
 |mk {H0 H:Hp} {a d0:Addr} {ts:List Sp.Arr} {kvs:List (aG×V)} {here:List Int} {g:Int} {Q:VK} {E:XK} (s0:Same H0 H) (L:Ld H0 a ts kvs) (n0:H0 d0=none) (hd:H d0=some (.dK (kvB here))) (hz:ts.length<1000000) (hM:AC Fm)
  (k:∀d th H',Same H H'->H d=none->H' d=some (.dK (kvB th))->Sp.Here ts (λu=>∃v∈here,(v,g,u)∈ts) th->Q (.ref d) H'):jD Fm [.ref a,.ref d0,.int g] H Q E
def sM{vs:List V}(h:jD Fm vs H Q E):vs.length=3:=by cases h;rfl
def MB(K:SB)(mg:Str->Option SD)(Fm:List D->Res R):TS:=cJ (qJ K "dict" JM (tVar 3) (tCons (ig (m_ mg 1 Fm) [] E0 (tCons Ny tNil)) tNil))
def MC(X:Cx)(mg:Str->Option SD)(Fm:List D->Res R):TS:=λD σ H=>dD (yS X (tVar 1)) (gName 4) (MB X.K mg Fm) (IU X D) σ H
def GJ(X:Cx)(mg:Str->Option SD)(Fm:List D->Res R):TS:=bn (tAsg ci (gName 3)) (bn (MC X mg Fm) (kr (tVar 3)))
def uY{vs:List V}(h:jD Fm vs H Q E):GJ X mg Fm {nx:=λ_ H'=>Q .ba H',rt:=Q} (start ["leading","states","sign","there","state"] vs) H:=by
 obtain @⟨H0,H,a,d0,ts,kvs,here,g,Q,E,s0,L,n0,hd,hz,hM,k⟩:=h;intro d hd';have s1:Same H (upd H d (.dK [])):=ai hd';have ndd:d0≠d:=ak hd hd';refine⟨_,rfl,d0,kvB here,.dK (kvB here),rfl,.inl rfl,.inr ⟨s1 _ _ hd,λo ho=>?_⟩⟩;refine gQ (n:=(kvB here).length) (λi σ' H'=>(∃x,σ'=[some (.ref a),some (.ref d0),some (.int g),some (.ref d),x])/\H' d0=some (.aV o (.dK (kvB here)))/\Kp d0 H H'/\∃th,H' d=some (.dK (kvB th))/\Sp.Here ts (λu=>∃v∈here.take i,(v,g,u)∈ts) th) ⟨⟨none,rfl⟩,ac,λc u e n=>by rw[ah n];exact s1 _ _ e,[],by rw[ah (PV ndd),ac];rfl,λu=>by simp,Qf⟩ (λi σ' H' p hi=>⟨p.2.1,hi⟩) (λσ' H' p=>⟨p.2.1,Ou _⟩) (λi σ' H' x H'' D' hi p y k'=>?_) λσ' H' p=>?_
 .obtain⟨⟨x,rfl⟩,hf,kp,th,hth,hh⟩:=p;obtain⟨rfl,kk,xx,e1,rfl⟩:=y;obtain⟨s,e2,rfl⟩:=uS e1;have L2:Ld H'' a ts kvs:=L.more λc u e=>kp _ _ (s0 _ _ e) (ak e n0);refine⟨_,rfl,.inr (.inr (.inl ⟨rfl,.inl ⟨_,hth⟩⟩)),?_⟩
  delta tCons ig
  dsimp only;refine JN (s:=s) (g:=g) L2 rfl rfl rfl λq l H3 s3 hq hl hm=>⟨rfl,[.lst (l.map .int)],λ_=>True,⟨_,_,rfl,⟨q,l.map .int,rfl,.inl ⟨hq,True.intro⟩,fX l⟩,rfl⟩,?_⟩;rw[hM l hl];intro v H4 s4 r4;obtain⟨ea,ue,rfl,n4,e4,en⟩:=mK r4;have hd4:=s4 _ _ (s3 _ _ hth);obtain⟨m1,m2⟩:=Sp.marked_ok l;have EX:th.length<=ts.length+1:=hh.len (r:=0) λx ⟨v,_,h⟩=>.inr ⟨_,h,rfl⟩;have few2:(Sp.marked l).length<=1000000:=O3 (Sp.nodup_sub m1 λx hx=>(m2 x).mp hx) hl;obtain⟨b1,b2⟩:=Do (Sp.marked l) th hh.n;refine⟨d,ea,kvB th,kvB (Sp.marked l),rfl,rfl,λz=>?_,.inl hd4,?_,P_ (oN (by rw[cZ,cZ];lia)),?_⟩
  .have n4:H3 ea=none:=n4;rw[<- z,s3 _ _ hth]at n4;cases n4
  .rcases en with q|⟨q,q2⟩
   .exact .inl (.inl (e4.trans (Qn some q)))
   .exact .inr ⟨.inl (e4.trans (Qn some q2)),by rw[q];rfl⟩
  .rw[oQ];refine k' _ _ ⟨⟨_,rfl⟩,by rw[ah ndd];exact s4 _ _ (s3 _ _ hf),λc u e n=>by rw[ah (ak e hd')];exact s4 _ _ (s3 _ _ (kp _ _ e n)),_,ac,λu=>?_,b1⟩;rw[b2,hh.m,m2,hm,Pj,e2];constructor
   .rintro (⟨v,hv,h⟩|h)
    .exact⟨v,OX _ hv,h⟩
    .exact⟨s,ON _ (by simp),h⟩
   .rintro⟨v,hv,h⟩;rcases OF.mp hv with hv|hv
    .exact .inl ⟨v,hv,h⟩
    .simp at hv;subst hv;exact .inr h
 .obtain⟨⟨x,rfl⟩,hf,kp,th,hth,hh⟩:=p;rw[cZ,Pb]at hh;refine .inr ⟨d0,o,_,hf,True.intro,ho,_,rfl,k d th _ (λc u e=>?_) hd' (by rw[ah (PV ndd)];exact hth) hh⟩;by_cases z:c=d0
  .subst z;rw[ac,<- hd];exact e
  .rw[ah z];exact kp _ _ e z
def JO:TE:=nT (xF false) (tVar 0) (tVar 1)
def ME(X:Cx)(scope:Scope)(tg elt:Expr)(tN capN:List Str)(caps:List Nat):TS:=kr (tCB (Di X.K) (tCons (kh X scope tg tN capN caps elt [] (cu X.K (tI X.K 0 2))) tNil))
def MF(K:SB)(Fm:List D->Res R):TS:=dD (cu K (tI K 1 1)) (gName 4) (tAsg (ig (jD Fm) [] E0 (tCons (tVar 2) (tCons (tVar 3) (tCons (tVar 4) tNil)))) (gName 3))
def GK(X:Cx)(Fm:List D->Res R)(scope:Scope)(tg elt:Expr)(tN capN:List Str)(caps:List Nat):TS:=bn (tAsg (ig Bn [] E0 (tCons (tVar 0) tNil)) (gName 2)) (bn (tAsg (Ee [(tI X.K 1 0,tC (.bl true))]) (gName 3)) (bn (MF X.K Fm) (ME X scope tg elt tN capN caps)))
def uZ{scope:Scope}{tg elt:Expr}{tN capN:List Str}{caps:List Nat}{vs:List V}(h1:tN.length=1)(hc:caps=[3])(hg:∀cl C s3 H3 fp,PG (aT X scope (tN++capN) cl C s3 H3 fp) tg (gName 0))(he:∀cl C s3 H3 fp,PE (aT X scope (tN++capN) cl C s3 H3 fp) elt JO)
 (h:m_ mg 2 (Ez Iq (AC Fm)) vs H Q E):GK X Fm scope tg elt tN capN caps {nx:=λ_ H'=>Q .ba H',rt:=Q} (start ["machine","standing","leading","here","sign"] vs) H:=by
 obtain⟨hl,ds,Ma,is,post⟩:=h;unfold Ez at post;by_cases hex:∃b,Dg Iq (AC Fm) ds b
 case neg=>rw[dif_neg hex]at post;exact post.elim
 rw[dif_pos hex]at post;have hch:=QB hex;generalize Classical.choose hex=bb at post hch;obtain⟨hM,n,ts,es,r,w,rfl,z1,z2,z3,hb⟩:=hch;obtain⟨v0,r0,rfl,i0,v1,r1,rfl,i1,rfl⟩:=is;obtain⟨p0,lm,le,wm,rfl,M⟩:=EQ.of i0;obtain⟨p1,_,rfl,hp1,u0,_,rfl,iu0,u1,_,rfl,iu1,rfl⟩:=i1;obtain rfl:u0=.int r:=iu0;obtain⟨ps,wv,rfl,hps,iw⟩:=mz iu1;rw[jO iw]at hps;refine⟨_,rfl,.mk M z1 λa kvs H1 s1 L=>λd hd=>?_⟩;have s2:Same H1 (upd H1 d (.dK [])):=ai hd;refine Reads.ix (.va (i:=1) rfl) (s2 _ _ (s1 _ _ hp1)) (v:=.int r) rfl _ ⟨ac,[(.inl r,.bl true)],rfl,by show 1<=15;decide,?_⟩;rw[BE];have s3:Same H1 (upd H1 d (.dK (bG [] [(.inl r,.bl true)]))):=ai hd;refine Reads.ix (.va (i:=1) rfl) (s3 _ _ (s1 _ _ hp1)) (v:=.ref ps) rfl _ ⟨ps,rfl,⟨_,.inl (bg (s1.trans s3) hps)⟩,?_⟩;refine cc (K:=X.K) (a:=ps) (xs:=w.map V.int) (λi σ' H'=>∃d here x,σ'=[some (.ref p0),some (.ref p1),some (.ref a),some (.ref d),x]/\Same H1 H'/\H1 d=none/\H' d=some (.dK (kvB here))/\Sp.Here ts (Sp.Rc ts r (w.take i)) here) ⟨d,[r],none,rfl,s3,hd,ac,sL⟩ (λi σ' H' _ q=>?_) (λi x σ' H' hi q=>?_) λσ' H' q=>?_
 .obtain⟨_,_,_,_,s4,_⟩:=q;exact .inl (bg (s1.trans s4) hps)
 .obtain⟨d,here,x,rfl,s4,n4,h4,hr⟩:=q;rw[OI]at hi;obtain⟨g,hg',rfl⟩:=OY.mp hi;refine⟨_,rfl,_,rfl,_,rfl,.mk s4 L n4 h4 (by lia) hM λd2 th H5 s5 n5 h5 hh=>⟨d2,th,_,rfl,s4.trans s5,s4.free n5,h5,?_⟩⟩;rw[Pj,hg'];exact wd hr hh
 .obtain⟨d,here,x,rfl,s4,n4,h4,hr⟩:=q;rw[Ov,Pb]at hr;have M4:=M.more (s1.trans s4);obtain⟨y4,hp4⟩:=M4.t;refine Reads.ix (.va (i:=0) rfl) hp4 (v:=.ref le) rfl _ ⟨le,rfl,⟨_,.inl M4.e⟩,Ay (te:=JO) (f:=λx=>decide (x∈here)) (caps:=caps) h1 (by rw[hc];rfl) hg he (λx H2 s5=>.op (.va rfl) (.va rfl) λQ q=>⟨d,_,rfl,DGetX.k (k:=.inl x) (s5 _ _ h4),by rw[Ox (by decide),hI];exact q⟩) M4.e (by lia) λDl _ H2 s5 hD=>Az hD ?_⟩;have eb:((es.map λx=>decide (x∈here)).any id)=bb:=by
   rw[PL,hb,wc,Sp.rc_acc];constructor
   .rintro⟨x,q1,q2⟩;exact⟨x,(hr.m x).mp (P7 q2),q1⟩
   .rintro⟨x,q1,q2⟩;exact⟨x,q2,OT ((hr.m x).mpr q1)⟩
  rw[eb];exact post _ H2 ((s1.trans s4).trans s5) rfl
end
end L4
namespace L3
open PySem L2
section
variable{env cb:En}{i j:Nat}{d:D}{ds es:List D}{f g:Bool}{al bl:List Nat}{x y:Int}
noncomputable def kS(k:En->Res Fl):Fl->Res Fl
 |.nx cb=>k cb
 |r=>.ok r
def eM(f k:En->Res Fl)(env:En):bm f k env=(f env).bind (kS k):=by rfl
def jo(k:En->Res Fl)(e:En):kS k (.nx e)=k e:=(rfl)
def MG(k:En->Res Fl)(r:R):kS k (.rt r)=.ok (.rt r):=(rfl)
noncomputable def MH(a b:En->Res Fl)(env:En)(k:Bool):Res Fl:=if k then a env else b env
def JP(c:En->Res Bool)(a b:En->Res Fl)(env:En):yr c a b env=(c env).bind (MH a b env):=(rfl)
def EA(a b:En->Res Fl)(env:En):MH a b env true=a env:=(rfl)
def EB(a b:En->Res Fl)(env:En):MH a b env false=b env:=(rfl)
def EC(env:En):kF env=.ok (.nx env):=(rfl)
def JQ(r:R):Res Fl:=.ok (.rt r)
def JR(a:En->Res R)(env:En):jb a env=(a env).bind JQ:=(rfl)
def GL(r:R):JQ r=.ok (.rt r):=(rfl)
def JS(i:Nat)(env:En)(r:R):Res Fl:=if i<env.length then .ok (.nx (put env i r))else .stuck
def ED(i:Nat)(a:En->Res R)(env:En):bt i a env=(a env).bind (JS i env):=(rfl)
def GM(r:R)(h:i<env.length):JS i env r=.ok (.nx (put env i r)):=Ow h
def GN:put env i (.val d f [])=env.set i (some (.val d f)):=(rfl)
def GO:put env i (.new ds f)=env.set i (some (.own ds f)):=(rfl)
def GP:put env i (.gd d)=env.set i (some (.oY d)):=(rfl)
def JT(i:Nat):Option (Option Sl)->Res R
 |some (some (.val d fr))=>.ok (jK d fr [])
 |some (some (.own ds fr))=>.ok (.val (.lst ds) fr [i])
 |some (some (.oY d))=>.ok (.val d true [i])
 |_=>.stuck
def JU(i:Nat)(env:En):am i env=JT i env[i]?:=by unfold am JT;rfl
def JV:JT i (some (some (.val d f)))=.ok (jK d f []):=(rfl)
def JW:JT i (some (some (.own ds f)))=.ok (.val (.lst ds) f [i]):=(rfl)
def JX:JT i (some (some (.oY d)))=.ok (.val d true [i]):=(rfl)
def Oe(d:D)(env:En):vC d env=.ok (.val d true []):=(rfl)
def GQ(h:d.flat=true):jK d f al=.val d true []:=by unfold jK;rw[Ow h]
def GR(h:d.flat=false):jK d f al=.val d f al:=by unfold jK;rw[Ox (by rw[h];simp)]
def mL(h:D.aY ds=true):kC ds f al=.new ds true:=by unfold kC;rw[Ow h]
def Nz(op:R->R->Res R)(fb:En->Res R)(env:En)(ra:R):Res R:=(fb env).bind (op ra)
def MI(op:R->R->Res R)(fa fb:En->Res R)(env:En):v2 op fa fb env=(fa env).bind (Nz op fb env):=(rfl)
def JY(op:R->R->Res R)(fb:En->Res R)(env:En)(ra:R):Nz op fb env ra=(fb env).bind (op ra):=(rfl)
def JZ:eZ (.val (.int x) f al) (.val (.int y) g bl)=.ok (.val (.int (x+y)) true []):=(rfl)
def J0:FT (.val (.int x) f al) (.val (.int y) g bl)=.ok (.val (.int (x-y)) true []):=(rfl)
def GS(h1:-18446744073709551616<y)(h2:y<18446744073709551616):zI (.val (.int x) f al) (.val (.int y) g bl)=.ok (.val (.int (x*y)) true []):=by
 have:zH x y=true:=by unfold zH;rw[Bool.or_eq_true,Pa,Pa];exact .inr ⟨OT (by lia),OT (by lia)⟩
 show(if zH x y=true then _ else _)=_;rw[Ow this]
def J1(h:0<y):cw (.val (.int x) f al) (.val (.int y) g bl)=.ok (.val (.int (x%y)) true []):=by show(if decide (0<y)=true then _ else _)=_;rw[Ow (OT h)]
def J2(h:0<y)(h2:y<1073741824):fQ (.val (.int x) f al) (.val (.int y) g bl)=.ok (.val (.int (x/y)) true []):=by show(if(decide (0<y)&&decide (y<1073741824))=true then _ else _)=_;rw[Ow (by rw[OT h,OT h2];rfl)]
def MJ:LV (.val (.int x) f al) (.val (.int y) g bl)=.ok (.val (.bl (decide (x<y))) true []):=(rfl)
def ML:FV (.val (.int x) f al) (.val (.int y) g bl)=.ok (.val (.bl (decide (y<x))) true []):=(rfl)
def MM:LW (.val (.int x) f al) (.val (.int y) g bl)=.ok (.val (.bl (decide (y<=x))) true []):=(rfl)
def GT(h:a.d.dep<=50)(h2:b.d.dep<=50):FW a b=.ok (.val (.bl (g9 a.d b.d)) true []):=by unfold FW;rw[Ow ⟨h,h2⟩]
def J3(h:a.d.dep<=50)(h2:b.d.dep<=50):Em a b=.ok (.val (.bl (!g9 a.d b.d)) true []):=by unfold Em;rw[Ow ⟨h,h2⟩]
def J4:g9 (.int x) (.int y)=(x==y):=(rfl)
def J5(xs ys:List D)(f:Bool)(al:List Nat):Res R:=if xs.length+ys.length<=lim then .ok (kC (xs++ys) f al)else .stuck
def Dp:eZ (.new ds f) (.new es g)=J5 ds es (f&&g) []:=(rfl)
def AD(h:ds.length+es.length<=1000000):J5 ds es f al=.ok (kC (ds++es) f al):=Ow h
def EE(fs:En->Res (List R))(env:En)(r:R):Res (List R):=(fs env).bind (λrs=>.ok (r::rs))
def AE(r:R)(rs:List R):Res (List R):=.ok (r::rs)
def GU(env:En):aR env=.ok []:=(rfl)
def Dq(a:En->Res R)(fs:En->Res (List R))(env:En):ao a fs env=(a env).bind (EE fs env):=(rfl)
def Dr(fs:En->Res (List R))(env:En)(r:R):EE fs env r=(fs env).bind (AE r):=(rfl)
def AF(r:R)(rs:List R):AE r rs=.ok (r::rs):=(rfl)
def J6(rs:List R):Res R:=if rs.length<=lim then .ok (jK (.tup (rs.map R.d)) (bc rs) (bM rs))else .stuck
def J7(fs:En->Res (List R))(env:En):ja fs env=(fs env).bind J6:=(rfl)
def GV(rs:List R)(h:rs.length<=1000000):J6 rs=.ok (jK (.tup (rs.map R.d)) (bc rs) (bM rs)):=Ow h
def J8(rs:List R):Res R:=if rs.length<=lim then .ok (kC (rs.map R.d) (bc rs) (bM rs))else .stuck
def J9(fs:En->Res (List R))(env:En):uF fs env=(fs env).bind J8:=(rfl)
def GW(rs:List R)(h:rs.length<=1000000):J8 rs=.ok (kC (rs.map R.d) (bc rs) (bM rs)):=Ow h
def AG:bc []=true:=(rfl)
def xZ(r:R)(rs:List R):bc (r::rs)=(r.fr&&bc rs):=(rfl)
def AH:bM []=[]:=(rfl)
def x9(r:R)(rs:List R):bM (r::rs)=r.al++bM rs:=(rfl)
def EF(F:List D->Res R)(rs:List R):Res R:=(F (rs.map R.d)).bind (λr=>.ok (iq rs r))
def AI(rs:List R)(r:R):Res R:=.ok (iq rs r)
def GX(F:List D->Res R)(fs:En->Res (List R))(env:En):cL F fs env=(fs env).bind (EF F):=(rfl)
def Ds(F:List D->Res R)(rs:List R):EF F rs=(F (rs.map R.d)).bind (AI rs):=(rfl)
def AJ(rs:List R)(r:R):AI rs r=.ok (iq rs r):=(rfl)
def AK(rs:List R)(h:d.flat=true):iq rs (.val d f al)=.val d true []:=Ow h
def AL(rs:List R)(h:d.flat=false):iq rs (.val d true al)=.gd d:=by show Et d true rs=_;unfold Et;rw[Ox (by rw[h];simp),Ow rfl]
def MN(k:List R->Res R)(fs:En->Res (List R))(env:En):kf k fs env=(fs env).bind k:=(rfl)
def GY:D->Res R
 |.lst ds=>.ok (.val (.int ds.length) true [])
 |.tup ds=>.ok (.val (.int ds.length) true [])
 |.str z=>if z.length<=lim then .ok (.val (.int z.length) true [])else .stuck
 |_=>.stuck
def J_(r:R):gn [r]=GY r.d:=by unfold gn GY;rfl
def GZ:GY (.lst ds)=.ok (.val (.int ds.length) true []):=(rfl)
def sN(f:Bool)(al:List Nat):D->Res R
 |.lst ds=>.ok (kC ds f al)
 |.tup ds=>.ok (kC ds f al)
 |_=>.stuck
def AM(r:R):iu [r]=sN r.fr r.al r.d:=by unfold iu sN;rfl
def wf:sN f al (.lst ds)=.ok (kC ds f al):=(rfl)
def Dt:sN f al (.tup ds)=.ok (kC ds f al):=(rfl)
def kB(ra:R):Res Bool:=match ra.d with
 |.bl b=>.ok b
 |_=>.stuck
def MO(a:En->Res R)(env:En):vB a env=(a env).bind kB:=(rfl)
def MP(b:Bool):kB (.val (.bl b) f al)=.ok b:=(rfl)
def Ka(ra:R):Res Bool:=Er ra.d
def G5(a:En->Res R)(env:En):xq a env=(a env).bind Ka:=(rfl)
def G6(b:Bool):Ka (.val (.bl b) f al)=.ok b:=(rfl)
noncomputable def EG(b:Bool):Res Bool:=.ok (!b)
def G7(a:En->Res Bool)(env:En):xr a env=(a env).bind EG:=(rfl)
def Du(b:Bool):EG b=.ok (!b):=(rfl)
noncomputable def AN(b:En->Res Bool)(env:En)(k:Bool):Res Bool:=if k then b env else .ok false
noncomputable def Kb(b:En->Res Bool)(env:En)(k:Bool):Res Bool:=if k then .ok true else b env
def G8(a b:En->Res Bool)(env:En):F2 a b env=(a env).bind (AN b env):=(rfl)
def Kc(a b:En->Res Bool)(env:En):Li a b env=(a env).bind (Kb b env):=(rfl)
def G9(b:En->Res Bool)(env:En):AN b env true=b env:=(rfl)
def G_(b:En->Res Bool)(env:En):AN b env false=.ok false:=(rfl)
def Ke(b:En->Res Bool)(env:En):Kb b env false=b env:=(rfl)
def EH(b:En->Res R)(env:En)(ra:R):Res R:=match ra.d with
 |.bl true=>b env
 |.bl false=>.ok (.val (.bl false) true [])
 |_=>.stuck
def Hb(a b:En->Res R)(env:En):FZ a b env=(a env).bind (EH b env):=(rfl)
def Dv(b:En->Res R)(env:En):EH b env (.val (.bl true) f al)=b env:=(rfl)
def EI(f:Bool)(al:List Nat):Option D->Res R
 |some d=>.ok (jK d f al)
 |none=>.stuck
def Dw(a b:D)(f:Bool)(al:List Nat):Res R:=match a,b with
 |.lst xs,.int i=>EI f al (dG xs i)
 |.tup xs,.int i=>EI f al (dG xs i)
 |.str z,.int i=>if z.length<=lim then(match dG z.cps.toList i with
  |some c=>.ok (.val (.str ⟨#[c]⟩) true [])
  |none=>.stuck)else .stuck
 |_,_=>.stuck
def MQ(a b:R):Es a b=Dw a.d b.d a.fr a.al:=by unfold Es Dw EI;rfl
def Kf:Dw (.lst ds) (.int k) f al=EI f al (dG ds k):=(rfl)
def Kg:Dw (.tup ds) (.int k) f al=EI f al (dG ds k):=(rfl)
def Kh:EI f al (some d)=.ok (jK d f al):=(rfl)
def Dx(ds:List D)(fr:Bool)(rb:R):Res R:=match rb.d with
 |.int k=>match dG ds k with
  |some d=>.ok (jK d fr [])
  |none=>.stuck
 |_=>.stuck
def Dy(i:Nat)(fb:En->Res R)(env:En):Option (Option Sl)->Res R
 |some (some (.own ds fr))=>(fb env).bind (Dx ds fr)
 |_=>v2 Es (am i) fb env
def Ki(i:Nat)(fb:En->Res R)(env:En):e_ i fb env=Dy i fb env env[i]?:=by unfold e_ Dy;rfl
def Hc(fb:En->Res R):Dy i fb env (some (some (.own ds f)))=(fb env).bind (Dx ds f):=(rfl)
def Hd(fb:En->Res R):Dy i fb env (some (some (.val d f)))=v2 Es (am i) fb env:=(rfl)
def He:Dx ds f (.val (.int k) g al)=EI f [] (dG ds k):=by unfold Dx EI;rfl
def bY{α:Type}(a:α)(l:List α):dG (a::l) 0=some a:=by unfold dG yp;rw[Ow (by lia),Ow (by simp)];rfl
def at1{α:Type}(a b:α)(l:List α):dG (a::b::l) 1=some b:=by unfold dG yp;rw[Ow (by lia),Ow (by simp;lia)];rfl
def mJ{α:Type}(a b c:α)(l:List α):dG (a::b::c::l) 2=some c:=by unfold dG yp;rw[Ow (by lia),Ow (by simp;lia)];rfl
def Of{α:Type}(a b c d:α)(l:List α):dG (a::b::c::d::l) 3=some d:=by unfold dG yp;rw[Ow (by lia),Ow (by simp;lia)];rfl
def Kj(fl fh:En->Res (Option Int))(env:En)(r:R):Res R:=(fl env).bind λlo=>(fh env).bind λhi=>pZ r lo hi
def Kk(fh:En->Res (Option Int))(env:En)(r:R)(lo:Option Int):Res R:=(fh env).bind λhi=>pZ r lo hi
def Dz(fa:En->Res R)(fl fh:En->Res (Option Int))(env:En):fW fa fl fh env=(fa env).bind (Kj fl fh env):=(rfl)
def Hf(fl fh:En->Res (Option Int))(env:En)(r:R):Kj fl fh env r=(fl env).bind (Kk fh env r):=(rfl)
def Hg(fh:En->Res (Option Int))(env:En)(r:R)(lo:Option Int):Kk fh env r lo=(fh env).bind (pZ r lo):=(rfl)
def kO(r:R):Res (Option Int):=match r.d with
 |.int i=>.ok (some i)
 |_=>.stuck
def DA(env:En):rZ env=.ok none:=(rfl)
def DB(a:En->Res R)(env:En):fF a env=(a env).bind kO:=(rfl)
def MR:kO (.val (.int x) f al)=.ok (some x):=(rfl)
def DC(f:Bool)(al:List Nat)(lo hi:Option Int):D->Res R
 |.lst xs=>.ok (kC (cA xs lo hi) f al)
 |.tup xs=>.ok (jK (.tup (cA xs lo hi)) f al)
 |_=>.stuck
def Kl(r:R)(lo hi:Option Int):pZ r lo hi=DC r.fr r.al lo hi r.d:=by unfold pZ DC;rfl
def Hh(lo hi:Option Int):DC f al lo hi (.lst ds)=.ok (kC (cA ds lo hi) f al):=(rfl)
def Hi(lo hi:Option Int):DC f al lo hi (.tup ds)=.ok (jK (.tup (cA ds lo hi)) f al):=(rfl)
def Km(T:String)(r:R):Res R:=.ok (.val (.bl (Jm T r.d)) true [])
def Kn(T:String)(a:En->Res R)(env:En):F6 T a env=(a env).bind (Km T):=(rfl)
def Hj(T:String)(r:R):Km T r=.ok (.val (.bl (Jm T r.d)) true []):=(rfl)
def Ko(asg:D->Bool->En->Option En)(body:En->Res Fl)(env:En)(s:Src):Res Fl:=ff asg s.fr body s.xs (aV env s.al)
def EJ(src:En->Res Src)(asg:D->Bool->En->Option En)(body:En->Res Fl)(env:En):nE src asg body env=(src env).bind (Ko asg body env):=(rfl)
def AO(asg:D->Bool->En->Option En)(body:En->Res Fl)(env:En)(xs:List D):Ko asg body env ⟨xs,f,al⟩=ff asg f body xs (aV env al):=(rfl)
def Hk(r:R):Res Src:=match r.d with
 |.lst ds=>.ok ⟨ds,r.fr,r.al⟩
 |.tup ds=>.ok ⟨ds,r.fr,r.al⟩
 |_=>.stuck
def AQ(a:En->Res R)(env:En):md a env=(a env).bind Hk:=(rfl)
def sO:Hk (.val (.lst ds) f al)=.ok ⟨ds,f,al⟩:=(rfl)
def DD:Hk (.new ds f)=.ok ⟨ds,f,[]⟩:=(rfl)
def NA(rs:List R):Res Src:=match rs.map R.d with
 |[.int j]=>if cR j then .ok ⟨eG 0 j.toNat,true,[]⟩else .stuck
 |_=>.stuck
def Kq(fs:En->Res (List R))(env:En):F5 fs env=(fs env).bind NA:=(rfl)
def Kr(h1:-4611686018427387904<=x)(h2:x<4611686018427387904):cR x=true:=by unfold cR;rw[Pa];exact⟨OT (by lia),OT (by lia)⟩
def AR(h1:-4611686018427387904<=x)(h2:x<4611686018427387904):NA [.val (.int x) f al]=.ok ⟨eG 0 x.toNat,true,[]⟩:=Ow (Kr h1 h2)
def AS:aV env []=env:=(rfl)
def oR(n:Nat)(caps:List Nat)(asg:D->Bool->En->Option En)(test:En->Res Bool)(elt:En->Res R)(env:En)(s:Src):Res R:=if s.xs.length<=lim then
 (dP (λd=>asg d s.fr (gF env n caps)) test elt s.xs).NE.bind λrs=>.ok (kC (rs.map R.d) (bc rs) (s.al++caps.filter (eh env)))else .stuck
def AT(n:Nat)(caps:List Nat)(src:En->Res Src)(asg:D->Bool->En->Option En)(test:En->Res Bool)(elt:En->Res R)(env:En) :
 gG n caps src asg test elt env=(src env).bind (oR n caps asg test elt env):=(rfl)
def lq(hl:xs.length<=1000000)
 (h:dP (λd=>asg d f (gF env n caps)) test elt xs=.ok rs):oR n caps asg test elt env ⟨xs,f,al⟩=.ok (kC (rs.map R.d) (bc rs) (al++caps.filter (eh env))):=by
 unfold oR;dsimp only;rw[Ow (show xs.length<=lim from hl),h];rfl
theorem hW{α:Type}{mk:D->Option En}{test:En->Res Bool}{elt:En->Res R}(g:α->D)(k:α->R):∀(xs:List α),(∀a∈xs,∃e,mk (g a)=some e/\test e=.ok true/\elt e=.ok (k a))->dP mk test elt (xs.map g)=.ok (xs.map k)
 |[],_=>rfl
 |a::r,h=>by obtain⟨e,h1,h2,h3⟩:=h a (by simp);rw[OH,OH];unfold dP;rw[h1];dsimp only;rw[h2];dsimp only[Res.bind];rw[Ow rfl,h3,hW g k r λb hb=>h b (by simp[hb])]
theorem jp{α:Type}{mk:D->Option En}{test:En->Res Bool}{elt:En->Res R}(g:α->D)(p:α->Bool)(k:α->R):∀(xs:List α),(∀a∈xs,∃e,mk (g a)=some e/\test e=.ok (p a)/\(p a=true->elt e=.ok (k a)))->dP mk test elt (xs.map g)=.ok ((xs.filter p).map k)
 |[],_=>rfl
 |a::r,h=>by
  obtain⟨e,h1,h2,h3⟩:=h a (by simp);rw[OH];unfold dP;rw[h1];dsimp only;rw[h2];dsimp only[Res.bind];have ih:=jp g p k r λb hb=>h b (by simp[hb]);cases hp:p a with
  |true=>rw[Ow rfl,h3 hp,Sv,Ow hp,ih];rfl
  |false=>rw[Ox (by simp),Sv,Ox (by rw[hp];simp),ih]
def AU(i:Nat)(env:En)(ds:List D)(fr:Bool)(r:R):Res Fl:=if ds.length<lim/\¬i∈r.al then .ok (.nx ((aV env r.al).set i (some (.own (ds++[r.d]) (fr&&r.fr)))))else .stuck
def AV(i:Nat)(a:En->Res R)(env:En):Option (Option Sl)->Res Fl
 |some (some (.own ds fr))=>(a env).bind (AU i env ds fr)
 |some (some (.oY (.lst ds)))=>(a env).bind (AU i env ds true)
 |_=>.stuck
def Ks(a:En->Res R)(env:En):pW i a env=AV i a env env[i]?:=by
 unfold pW ma AV;cases env[i]? with
 |none=>rfl
 |some o=>cases o with
  |none=>rfl
  |some s=>cases s with
   |oY d=>cases d<;>rfl
   |_=>rfl
def Hl(a:En->Res R):AV i a env (some (some (.own ds f)))=(a env).bind (AU i env ds f):=(rfl)
def qu(h:ds.length<1000000)(hr:r.al=[]):AU i env ds f r=.ok (.nx (env.set i (some (.own (ds++[r.d]) (f&&r.fr))))):=by unfold AU;rw[hr];rw[Ow ⟨h,by simp⟩];rfl
end
def gR(x:Int):(D.int x).flat=true:=(rfl)
def DE(x:Bool):(D.bl x).flat=true:=(rfl)
def jq(ds:List D):(D.tup ds).flat=D.aY ds:=(rfl)
def mM(ds:List D):(D.lst ds).flat=false:=(rfl)
def oS:D.aY []=true:=(rfl)
def dU(d:D)(ds:List D):D.aY (d::ds)=(d.flat&&D.aY ds):=(rfl)
def wg(x:Int):(D.int x).dep=0:=(rfl)
def wj(ds:List D):(D.tup ds).dep=D.ie ds+1:=(rfl)
def mN:D.ie []=0:=(rfl)
def jQ(d:D)(ds:List D):D.ie (d::ds)=max d.dep (D.ie ds):=(rfl)
def Hm(r:R):oE (.ok (.rt r))=.ok r:=(rfl)
def Ho(e:En):oE (.ok (.nx e))=.ok (.val .ba true []):=(rfl)
def cB(d:D)(f:Bool)(al:List Nat):(R.val d f al).d=d:=(rfl)
def DF(ds:List D)(f:Bool):(R.new ds f).d=.lst ds:=(rfl)
def DG(d:D):(R.gd d).d=d:=(rfl)
def AW(d:D)(f:Bool)(al:List Nat):(R.val d f al).fr=f:=(rfl)
def AX(ds:List D)(f:Bool):(R.new ds f).fr=f:=(rfl)
def AY(d:D):(R.gd d).fr=true:=(rfl)
def AZ(d:D)(f:Bool)(al:List Nat):(R.val d f al).al=al:=(rfl)
def A0(ds:List D)(f:Bool):(R.new ds f).al=[]:=(rfl)
def A3(d:D):(R.gd d).al=[]:=(rfl)
def fI{α β:Type}(a:α)(k:α->Res β):(Res.ok a).bind k=k a:=(rfl)
def EK(asg:D->Bool->En->Option En)(fr:Bool)(body:En->Res Fl)(xs:List D):Fl->Res Fl
 |.nx e=>ff asg fr body xs e
 |.ct e=>ff asg fr body xs e
 |.bk e=>.ok (.nx e)
 |.rt r=>.ok (.rt r)
 |.rm r e=>.ok (.rm r e)
def Hq(h:asg x fr env=some env1):ff asg fr body (x::xs) env=(body env1).bind (EK asg fr body xs):=by unfold ff;rw[h];rfl
def wl(asg:D->Bool->En->Option En)(fr:Bool)(body:En->Res Fl)(xs:List D)(e:En):EK asg fr body xs (.nx e)=ff asg fr body xs e:=(rfl)
def Kt:D->Res R
 |.lst ds=>match dQ ds with
  |some bs=>.ok (.val (.bl (bs.all id)) true [])
  |none=>.stuck
 |_=>.stuck
def Ku(r:R):CM [r]=Kt r.d:=by rcases r with⟨d,f,al⟩|⟨ds,f⟩|⟨d⟩<;>first|rfl|(cases d<;>rfl)
def x_{α:Type}(xs:List α):Kt (.lst (xs.map λ_=>D.bl true))=.ok (.val (.bl true) true []):=by
 have:∀xs:List α,dQ (xs.map λ_=>D.bl true)=some (xs.map λ_=>true):=by
  intro xs;induction xs with
  |nil=>rfl
  |cons a r ih=>rw[OH];unfold dQ;rw[ih];rfl
 show(match dQ (xs.map λ_=>D.bl true)with|some bs=>Res.ok (R.val (D.bl (bs.all id)) true [])|none=>Res.stuck)=_;rw[this];dsimp only;congr 3;rw[PR];intro x hx;obtain⟨_,_,rfl⟩:=OB.mp hx;rfl
def Oh:((0:Nat):Int)=0:=(rfl)
def Kv:F_ [.val (.int x) f al,.val (.int y) g bl]=.ok (.val (.int (if y>x then y else x)) true []):=(rfl)
def Kw:CN [.val (.int x) f al,.val (.int y) g bl]=.ok (.val (.int (if y<x then y else x)) true []):=(rfl)
def ya(h:d.flat=false):iq rs (.gd d)=.gd d:=by show Et d true rs=_;unfold Et;rw[Ox (by rw[h];simp),Ow rfl]
def MS(f:En->Res R)(env:En):Lo f env=(f env).bind Jp:=(rfl)
theorem jR:∀k:List Int,gI (k.map .int)=some k
 |[]=>rfl
 |a::r=>by rw[OH];unfold gI;rw[jR r];rfl
theorem oT:∀ks:List (List Int),gJ (ks.map sk)=some ks
 |[]=>rfl
 |k::r=>by rw[OH];unfold gJ;rw[oT r,show Gc (sk k)=some k from jR k]
def Hr(hr:r.d=.lst (ks.map sk))(h:ks.length<=63)(hn:ks.all (λk=>!k.isEmpty)=true):Jp r=.ok (.new ((eJ ks).map sk) true):=by unfold Jp CP;rw[hr];dsimp only;rw[oT];dsimp only;rw[Ow (by rw[Ov,OT h,hn];rfl)]
def Kx(f:En->Res R)(env:En):CV f env=(f env).bind Ac:=(rfl)
def bD(ks:List Int):D:=.iU (ks.map ik) (ks.map λ_=>.bl true)
noncomputable def bE(ks:List Int):List (aG×D):=ks.map λk=>(.inl k,.bl true)
def DH(ks:List Int):CQ (bE ks)=bD ks:=by unfold CQ bE bD;rw[OP,OP];rfl
def DI(ks:List Int)(x:Int):uL (bE ks) (.inl x) (.bl true)=bE (dd ks x):=by
 unfold uL dd;have ha:((bE ks).any λp=>decide (p.1=(.inl x:aG)))=decide (x∈ks):=by
  unfold bE;rw[List.any_map,PL,Ri,decide_eq_true_iff];constructor
  .rintro⟨k,hk,e⟩;have:k=x:=by have:=P7 e;exact Sf this
   exact this▸hk
  .intro h;exact⟨x,h,by simp⟩
 rw[ha];by_cases h:x∈ks
 .rw[Ow (OT h),Ow h];unfold bE;rw[OP];refine O0 λk _=>?_;show(if(Sum.inl k:aG)=.inl x then _ else _)=_;split<;>rfl
 .rw[Ox (by rw[Po h];simp),Ox h];unfold bE;rw[O8];rfl
theorem sP:∀(xs ks:List Int),je (bE ks) (bE xs)=bE (xs.foldl dd ks)
 |[],ks=>rfl
 |x::r,ks=>by show je (uL (bE ks) (.inl x) (.bl true)) (bE r)=_;rw[DI,sP r];rfl
theorem sQ:∀xs:List Int,gL (xs.map λx=>D.tup [.int x,.bl true])=some (bE xs)
 |[]=>rfl
 |k::r=>by rw[OH];unfold gL;rw[sQ r];rfl
def A4(ks:List Int):D.aY ((bE ks).map Prod.snd)=true:=by
 unfold bE;rw[OP];induction ks with
 |nil=>rfl
 |cons a r ih=>rw[OH];exact ih
def A5(h:r.d=.lst (xs.map λx=>D.tup [.int x,.bl true])):jM [r]=.ok (.gd (bD (Aa xs))):=by unfold jM;dsimp only;rw[h];dsimp only;rw[sQ];dsimp only;have:je [] (bE xs)=bE (Aa xs):=sP xs [];rw[this,Ow (A4 _),DH]
def Hs:Jm "bool" (.bl b)=true:=(rfl)
def EL(i:Nat)(env:En)(r:R):Res Fl:=if i<env.length then .ok (.nx ((aV env r.al).set i (some (.val r.d r.fr))))else .stuck
def Hu(i:Nat)(a:En->Res R)(env:En):mq i a env=(a env).bind (EL i env):=(rfl)
def DJ(h:i<env.length):EL i env r=.ok (.nx ((aV env r.al).set i (some (.val r.d r.fr)))):=Ow h
def DL(a b:R):vT [a,b]=CN [a,b]:=(rfl)
def u3(f:Bool)(al:List Nat):D->Res R
 |.iU ks _=>match Ge ks with
  |some xs=>if xs.length<=lim then .ok (.new xs true)else .stuck
  |none=>.stuck
 |d=>sN f al d
def DM(r:R):Ab [r]=u3 r.fr r.al r.d:=by unfold Ab u3;dsimp only;cases h:r.d<;>first|rfl|(dsimp only;rw[AM,h])
def Ky(f1 f2:En->Res R)(env:En)(r0:R):Res R:=(f1 env).bind λr1=>(f2 env).bind λr2=>sn r0 r1 r2
def Kz(f2:En->Res R)(env:En)(r0 r1:R):Res R:=(f2 env).bind (sn r0 r1)
def MT(f0 f1 f2:En->Res R)(env:En):L0 f0 f1 f2 env=(f0 env).bind (Ky f1 f2 env):=(rfl)
def Hv(f1 f2:En->Res R)(env:En)(r0:R):Ky f1 f2 env r0=(f1 env).bind (Kz f2 env r0):=(rfl)
def Hw(f2:En->Res R)(env:En)(r0 r1:R):Kz f2 env r0 r1=(f2 env).bind (sn r0 r1):=(rfl)
def Hx{d1 d2:List D}{g1 g2:Bool}(h0:r0.d.flat=true)(h1:D.aY d1=true)(h2:D.aY d2=true):sn r0 (.new d1 g1) (.new d2 g2)=.ok (.gd (.tup [r0.d,.lst d1,.lst d2])):=Ow ⟨h0,h1,h2⟩
end L3
local macro_rules|`(tactic| simp_arith[$as,*] $[$l:location]?)=>do
 let ls←("L3.kG L3.gH L3.Kx L3.Hu L3.DJ L3.DL L3.MT L3.Hv L3.Hw decide_true decide_false List.map_cons List.map_nil List.length_cons List.length_nil List.replicate List.cons_append List.nil_append List.append_nil Nat.reduceAdd Nat.max_self Nat.zero_max Nat.max_zero Nat.zero_add Nat.reduceSub L3.eM L3.ED L3.MI L3.JY L3.JU L3.JV L3.JW L3.JX L3.GQ L3.GR L3.gR L3.DE L3.jq L3.mM L3.oS L3.dU L3.wg L3.wj L3.mN L3.jQ L3.Oe L3.fI List.getElem?_cons_zero List.getElem?_cons_succ L3.J1 L3.J2 L3.JZ L3.J0 L3.GS Int.reduceLT Int.reduceLE Int.reduceNeg L3.GM L3.GN L3.GO L3.GP L3.jo L3.MG List.set_cons_zero List.set_cons_succ Nat.reduceLT Nat.reduceLeDiff L3.JP L3.EA L3.EB L3.EC L3.JR L3.GL L3.MJ L3.ML L3.MM L3.J4 L3.Dp L3.GU L3.Dq L3.Dr L3.AF L3.J7 L3.GV L3.J9 L3.GW L3.AG L3.xZ L3.AH L3.x9 L3.GX L3.Ds L3.AJ L3.AK L3.AL L3.MN L3.J_ L3.GZ L3.AM L3.wf L3.Dt L3.MO L3.MP L3.G5 L3.G6 L3.G7 L3.Du L3.G8 L3.Kc L3.G9 L3.G_ L3.Ke L3.Hb L3.Dv L3.MQ L3.Kf L3.Kg L3.Kh L3.Ki L3.Hc L3.Hd L3.He L3.bY L3.at1 L3.mJ L3.Of L3.Dz L3.Hf L3.Hg L3.DA L3.DB L3.MR L3.Kl L3.Hh L3.Hi L3.Kn L3.Hj L3.EJ L3.AO L3.AQ L3.sO L3.DD L3.Kq L3.AS L3.Kv L3.Kw L3.Oh Int.reduceBEq L3.Ku Bool.not_not Nat.reduceEqDiff L3.AT L3.Ks L3.Hl L3.cB L3.DF L3.DG L3.AW L3.AX L3.AY L3.AZ L3.A0 L3.A3 L3.wl Bool.and_true Bool.true_and Bool.and_false Bool.false_and Bool.and_self Bool.not_true Bool.not_false L3.Hm L3.Ho L3.mL L3.MS L3.Hs L3.ya".splitOn " ").toArray.mapM λs=>`(Lean.Parser.Tactic.simpLemma| $(Lean.mkIdent s.toName):ident)
 `(tactic| simp only[$[$ls:simpLemma],*,$as,*] $[$l]?)
local macro_rules|`(tactic| simp_arith $[$l:location]?)=>`(tactic| simp_arith[L3.fI] $[$l]?)
namespace L3
open PySem L2
def mO{α β:Type}(g:α->β)(xs:List α)(lo hi:Option Int):cA (xs.map g) lo hi=(cA xs lo hi).map g:=by unfold cA;rw[Ov,List.map_take,List.map_drop]
def mP{α:Type}(xs:List α)(lo hi:Option Int):(cA xs lo hi).length<=xs.length:=by unfold cA;rw[PQ,Rg];lia
def A6{α:Type}(xs:List α)(lo hi:Option Int):∀a∈cA xs lo hi,a∈xs:=by unfold cA;intro a h;exact R5 (P9 h)
def A7{α:Type}(xs:List α):cA xs (some 1) none=xs.tail:=by
 unfold cA;have h1:HT.sIx xs.length 0 (some 1)=min 1 xs.length:=HT.sIx_nat xs.length 0 1;have h2:HT.sIx xs.length xs.length none=xs.length:=rfl;rw[h1,h2];cases xs with
 |nil=>rfl
 |cons a r=>
  have:min 1 (a::r).length=1:=by simp
  rw[this];simp
def A8:(∀d∈ds,d.flat=true)->D.aY ds=true:=by
 induction ds with
 |nil=>intro _;rfl
 |cons d r ih=>intro h;rw[dU,h d (by simp),ih λx hx=>h x (by simp[hx])];rfl
def bZ{α:Type}(g:α->D)(xs:List α)(h:∀a,(g a).flat=true):D.aY (xs.map g)=true:=A8 λd hd=>by obtain⟨a,_,rfl⟩:=OB.mp hd;exact h a
def aZ(xs:List Int):D.aY (xs.map D.int)=true:=bZ _ _ gR
def DN:(∀d∈ds,d.dep<=n)->D.ie ds<=n:=by
 induction ds with
 |nil=>intro _;rw[mN];lia
 |cons d r ih=>intro h;have h1:=h d (by simp);have h2:=ih λx hx=>h x (by simp[hx]);rw[jQ];lia
def mQ{α:Type}{g:α->D}{xs:List α}{n:Nat}(h:∀a,(g a).dep<=n):D.ie (xs.map g)<=n:=DN λd hd=>by obtain⟨a,_,rfl⟩:=OB.mp hd;exact h a
def oU(xs:List Int):D.ie (xs.map D.int)<=0:=mQ λ_=>Ou 0
def mR{α:Type}(g:α->D)(xs:List α):bc (xs.map λa=>.val (g a) true [])=true:=by unfold bc;rw[PR];intro r h;obtain⟨a,_,rfl⟩:=OB.mp h;rfl
def wn{α:Type}(g:α->D)(fr:Bool)(al:List Nat)(xs:List α):(xs.map λa=>R.val (g a) fr al).map R.d=xs.map g:=by rw[OP];rfl
def qw(n:Nat):eG 0 n=(List.range n).map λk=>.int (k:Nat):=by unfold eG;congr 1;funext k;simp
def cell(ns:List Int)(k:Int):Int:=if k<ns.length then((dG ns k).getD 0%2147483647+11+k*k)*48271%2147483647 else 0
def DO(ns:List Int)(k:Int):0<=cell ns k:=by unfold cell;split<;>lia
def qx{α β:Type}(g:α->β)(xs:List α)(k:Int):dG (xs.map g) k=(dG xs k).map g:=by
 unfold dG;rw[Ov];cases yp xs.length k with
 |none=>rfl
 |some j=>simp
def u4{α:Type}{xs:List α}{k:Int}(h0:0<=k)(h:k<xs.length):∃a,dG xs k=some a/\xs[k.toNat]?=some a:=by
 unfold dG yp;rw[Ow h0,Ow h];have:k.toNat<xs.length:=by lia
 exact⟨xs[k.toNat],by simp[this],by simp[this]⟩
structure Rl where
 room:Int
 sign:Int
 to:Int
 put:List Int
def Rl.d(r:Rl):D:=.tup [.int r.room,.int r.sign,.int r.to,.tup (r.put.map .int)]
theorem Rl.flat(r:Rl):r.d.flat=true:=by unfold Rl.d;simp only[jq,dU,gR,aZ,oS,R8]
theorem Rl.dep(r:Rl):r.d.dep<=2:=by have:=oU r.put;unfold Rl.d;simp only[wj,jQ,wg,mN];lia
def cT(cell rooms signs:Int):Rl:=
 let c:=(cell%2147483629+5)*69621%2147483629
 { room:=c%rooms,sign:=c/rooms%signs,to:=c/rooms/signs%rooms,
   put:=cA [c/rooms/signs/rooms/3%signs,c/rooms/signs/rooms/3/signs%signs] none (some (c/rooms/signs/rooms%3)) }
def u5(c rooms signs:Int):(cT c rooms signs).put.length<=2:=mP _ _ _
end L3
namespace W
open PySem PySem.Spec PyProof.Rows L2 L3 L4
def top(i:Nat):Stmt:=PySem.Challenge.pw_callwalk_k33_whole_runs_stay_inside.main.body.getD i (.Pass ⟨0,0,0,0⟩)
abbrev dW:Stmt:=top 17
noncomputable abbrev N__law_cell_at:List Str:=["_law_script","_law_k"]
abbrev cC:List Str:=N__law_cell_at.take 2
def kI:aN N__law_cell_at cC (aw dW):=b8
def dX:En->Res Fl:=
 (bm (yr (vB (v2 LV (am 1) (kf gn (ao (am 0) aR)))) (jb (v2 cw (v2 zI (v2 eZ (v2 eZ (v2 cw (e_ 0 (am 1)) (vC (.int 2147483647))) (vC (.int 11))) (v2 zI (am 1) (am 1))) (vC (.int 48271))) (vC (.int 2147483647)))) kF)
 (jb (vC (.int 0))))
def aH:List D->Res R:=kG N__law_cell_at dX
abbrev gT:Stmt:=top 18
noncomputable abbrev N__law_rule:List Str:=["_law_cell","_law_rooms","_law_signs","_law_room","_law_sign","_law_to","_law_size"]
abbrev eO:List Str:=N__law_rule.take 3
def sc__law_rule:aN N__law_rule eO (aw gT):=b8
def kn:En->Res Fl:=
 (bm (bt 0 (v2 cw (v2 zI (v2 eZ (v2 cw (am 0) (vC (.int 2147483629))) (vC (.int 5))) (vC (.int 69621))) (vC (.int 2147483629))))
 (bm (bt 3 (v2 cw (am 0) (am 1)))
 (bm (bt 0 (v2 fQ (am 0) (am 1)))
 (bm (bt 4 (v2 cw (am 0) (am 2)))
 (bm (bt 0 (v2 fQ (am 0) (am 2)))
 (bm (bt 5 (v2 cw (am 0) (am 1)))
 (bm (bt 0 (v2 fQ (am 0) (am 1)))
 (bm (bt 6 (v2 cw (am 0) (vC (.int 3))))
 (bm (bt 0 (v2 fQ (am 0) (vC (.int 3))))
 (jb (ja (ao (am 3) (ao (am 4) (ao (am 5) (ao (fW (ja (ao (v2 cw (am 0) (am 2)) (ao (v2 cw (v2 fQ (am 0) (am 2)) (am 2)) aR))) rZ (fF (am 6))) aR)))))))))))))))
def eQ:List D->Res R:=kG N__law_rule kn
abbrev fZ:Stmt:=top 19
noncomputable abbrev N__law_stack:List Str:=["_law_cell","_law_signs","_law_stack_here","_law_rest","_law_k"]
abbrev dq:List Str:=N__law_stack.take 2
def sc__law_stack:aN N__law_stack dq (aw fZ):=b8
def cD:En->Res Fl:=λenv=>
 (bm (pW 2 (v2 cw (am 3) (am 1)))
 (bt 3 (v2 fQ (am 3) (am 1)))) env
def jr:En->Res Fl:=
 (bm (bt 2 (uF aR))
 (bm (bt 3 (v2 fQ (am 0) (vC (.int 5))))
 (bm (nE (F5 (ao (v2 cw (am 0) (vC (.int 5))) aR)) (gN 4) cD)
 (jb (am 2)))))
def dt:List D->Res R:=kG N__law_stack jr
abbrev dY:Stmt:=top 20
noncomputable abbrev N__law_machine:List Str:=["_law_room","_law_stack_here","_law_pick","_law_rooms","_law_signs","_law_arrows","_law_state","_law_k","_law_states","_law_ends","_law_rest"]
abbrev cE:List Str:=N__law_machine.take 5
def sc__law_machine:aN N__law_machine cE (aw dY):=b8
def bz:En->Res Fl:=λenv=>
 (bm (pW 5 (ja (ao (am 6) (ao (e_ 1 (am 7)) (ao (v2 eZ (am 3) (am 7)) aR)))))
 (bt 6 (v2 eZ (am 3) (am 7)))) env
def bA:En->Res Fl:=λenv=>
 (bm (pW 5 (ja (ao (v2 cw (am 10) (am 8)) (ao (v2 cw (v2 fQ (am 10) (am 8)) (am 4)) (ao (v2 eZ (am 3) (v2 cw (v2 fQ (am 10) (vC (.int 3))) (kf gn (ao (am 1) aR)))) aR)))))
 (bt 10 (v2 fQ (am 10) (vC (.int 29))))) env
def gU:En->Res Fl:=
 (bm (bt 5 (uF aR))
 (bm (bt 6 (am 0))
 (bm (nE (F5 (ao (kf gn (ao (am 1) aR)) aR)) (gN 7) bz)
 (bm (bt 8 (v2 eZ (am 3) (kf gn (ao (am 1) aR))))
 (bm (bt 9 (uF (ao (am 6) aR)))
 (bm (bt 10 (v2 fQ (am 2) (vC (.int 12))))
 (bm (yr (vB (v2 FV (kf gn (ao (am 1) aR)) (vC (.int 0)))) (nE (F5 (ao (v2 cw (am 2) (vC (.int 6))) aR)) (gN 7) bA) kF)
 (bm (yr (vB (v2 FW (v2 cw (v2 fQ (am 2) (vC (.int 6))) (vC (.int 2))) (vC (.int 1)))) (pW 9 (v2 cw (am 10) (am 8))) kF)
 (jb (ja (ao (am 8) (ao (Lo (am 5)) (ao (CV (am 9)) aR)))))))))))))
def bU:List D->Res R:=kG N__law_machine gU
abbrev f6:Stmt:=top 7
noncomputable abbrev N_is_plain:List Str:=["house","machine"]
abbrev f7:List Str:=N_is_plain.take 2
def sR:aN N_is_plain f7 (aw f6):=b8
def mS:((["arrow"]:List Str)++(["house"]:List Str)).Nodup:=by decide +kernel
def cF:En->Res R:=λenv=>(v2 LW (e_ 0 (vC (.int 2))) (e_ 1 (vC (.int 0)))) env
def mT:En->Res Fl:=(jb (kf CM (ao (gG 1 [0] (md (e_ 1 (vC (.int 1)))) (gN 0) (λ_=>.ok true) cF) aR)))
def f9:List D->Res R:=kG N_is_plain mT
abbrev bN:Stmt:=top 8
noncomputable abbrev cM:List Str:=["house","machine"]
noncomputable abbrev bh:List Str:=["house","machine"]
def f_:aN cM bh (aw bN):=b8
def cN:En->Res Fl:=(yr (xr (xq (cL f9 (ao (am 0) (ao (am 1) aR))))) (λ_=>.stuck) kF)
def aX:List D->Res R:=kG cM cN
abbrev js:Stmt:=top 2
noncomputable abbrev mU:List Str:=["things"]
noncomputable abbrev jt:List Str:=["things"]
def yb:aN mU jt (aw js):=b8
def qy:((["thing"]:List Str)++([]:List Str)).Nodup:=by decide +kernel
def dZ:En->Res R:=λenv=>(ja (ao (am 0) (ao (vC (.bl true)) aR))) env
def sS:En->Res Fl:=(jb (kf jM (ao (gG 1 [] (md (am 0)) (gN 0) (λ_=>.ok true) dZ) aR)))
def cG:List D->Res R:=kG mU sS
abbrev jS:Stmt:=top 1
noncomputable abbrev yc:List Str:=["rule"]
noncomputable abbrev jT:List Str:=["rule"]
def u6:aN yc jT (aw jS):=b8
abbrev de:Stmt:=top 13
noncomputable abbrev kJ:List Str:=["house","rules","rule"]
noncomputable abbrev dg:List Str:=["house"]
def sc_rules_by_head:aN kJ dg (aw de):=b8
abbrev jU:Stmt:=top 15
noncomputable abbrev N_forward:List Str:=["house","machine","spreading","start","sign","to"]
abbrev hZ:List Str:=N_forward.take 2
def sc_forward:aN N_forward hZ (aw jU):=b8
abbrev Hy:Stmt:=fP (top 14) 0
def KA:aN ["self","house","machine"] ["self","house","machine"] (aw Hy):=b8
abbrev Hz:Stmt:=fP (top 14) 1
def sc_SL:aN ["self","start","sign","to","there"] ["self","start","sign","to"] (aw Hz):=b8
abbrev HA:Stmt:=fP (top 14) 2
def sc_SF:aN ["self","room","state","rooms","sign","there","to"] ["self","room","state"] (aw HA):=b8
abbrev HB:Stmt:=fP (top 14) 3
def KB:aN ["self","room","sign"] ["self","room","sign"] (aw HB):=b8
abbrev HC:Stmt:=fP (top 14) 4
def sc_ST:aN ["self","rule","state","put","mid"] ["self","rule","state"] (aw HC):=b8
abbrev HD:Stmt:=fP (top 14) 5
def sc_SS:aN ["self","arrow","room","rule"] ["self"] (aw HD):=b8
abbrev DP:Stmt:=fP (top 14) 6
def sc_SK:aN ["self","arrows","start","sign"] ["self"] (aw DP):=b8
def jV:List D->Res R:=L4.JD aX cG
abbrev dw:Stmt:=top 21
noncomputable abbrev N__law_taken:List Str:=["_law_machine_here","_law_room","_law_stack_here","_law_outs","_law_state","_law_sign","_law_far","_law_here","_law_there"]
abbrev dz:List Str:=N__law_taken.take 3
def sc__law_taken:aN N__law_taken dz (aw dw):=b8
def cH:List D->Res R:=L4.Ez L4.Ip True
abbrev fg:Stmt:=top 9
noncomputable abbrev nK:List Str:=["machine","leading","start","sign","to"]
noncomputable abbrev fj:List Str:=["machine"]
def sc_arrows_from:aN nK fj (aw fg):=b8
abbrev qz:Stmt:=top 10
noncomputable abbrev N_along:List Str:=["leading","states","sign","there","state"]
abbrev qA:List Str:=N_along.take 3
def sc_along:aN N_along qA (aw qz):=b8
abbrev lu:Stmt:=top 11
noncomputable abbrev N_takes:List Str:=["machine","standing","leading","here","sign"]
abbrev lz:List Str:=N_takes.take 2
def sc_takes:aN N_takes lz (aw lu):=b8
def qB:List D->Res R:=L4.Ez L4.Iq (L4.AC cG)
abbrev sT:Stmt:=top 22
noncomputable abbrev N_law:List Str:=["_law_script","_law_size","_law_rooms","_law_signs","_law_until","_law_rules","_law_room","_law_stack_here","_law_machine_here","_law_house","_law_handed","_law_found","_law_cell","_law_fits","_law_rule_here","_law_said"]
abbrev wo:List Str:=N_law.take 1
def sc_law:aN N_law wo (aw sT):=b8
def yd:((["_law_cell"]:List Str)++(["_law_rooms","_law_signs"]:List Str)).Nodup:=by decide +kernel
def ye:((["_law_rule_here"]:List Str)++(["_law_room","_law_stack_here"]:List Str)).Nodup:=by decide +kernel
def jv:En->Res R:=λenv=>(cL eQ (ao (am 0) (ao (am 1) (ao (am 2) aR)))) env
def h8:En->Res Bool:=λenv=>(F2 (vB (v2 FV (kf gn (ao (am 2) aR)) (vC (.int 0)))) (vB (v2 FW (ja (ao (e_ 0 (vC (.int 0))) (ao (e_ 0 (vC (.int 1))) aR))) (ja (ao (am 1) (ao (e_ 2 (vC (.int 0))) aR)))))) env
def jw:En->Res R:=λenv=>(am 0) env
def jx:En->Res Fl:=λenv=>
 (bm (bt 13 (gG 1 [6,7] (md (am 5)) (gN 0) h8 jw))
 (yr (vB (v2 FV (kf gn (ao (am 13) aR)) (vC (.int 0)))) (bm (bt 14 (e_ 13 (v2 cw (am 12) (kf gn (ao (am 13) aR)))))
 (bm (bt 6 (e_ 14 (vC (.int 2))))
 (bm (bt 7 (v2 eZ (kf iu (ao (e_ 14 (vC (.int 3))) aR)) (fW (am 7) (fF (vC (.int 1))) rZ)))
 (yr (xr (xq (cL cH (ao (am 11) (ao (am 6) (ao (am 7) aR)))))) (jb (vC (.bl false))) kF)))) kF)) env
def sU:En->Res Fl:=λenv=>(jb (FZ (F6 "bool" (am 15)) (am 15))) env
def sV:En->Res Fl:=λenv=>
 (bm (mq 15 (cL qB (ao (am 11) (ao (ja (ao (am 6) (ao (am 7) aR))) aR))))
 sU) env
def mV:En->Res Fl:=λenv=>
 (bm (nE (md (fW (am 0) (fF (am 4)) (fF (v2 eZ (am 4) (vC (.int 60)))))) (gN 12) jx)
 sV) env
def sW:En->Res Fl:=λenv=>
 (bm (yr (Li (vB (v2 Em (am 10) (am 8))) (Li (vB (v2 Em (am 9) (ja (ao (am 2) (ao (am 3) (ao (am 5) aR)))))) (xr (xq (cL cH (ao (am 11) (ao (am 6) (ao (am 7) aR)))))))) (jb (vC (.bl false))) kF)
 mV) env
def sX:En->Res Fl:=λenv=>
 (bm (mq 11 (cL jV (ao (am 9) (ao (am 10) aR))))
 sW) env
def sY:En->Res Fl:=λenv=>
 (bm (bt 10 (L0 (e_ 8 (vC (.int 0))) (kf iu (ao (e_ 8 (vC (.int 1))) aR)) (kf iu (ao (e_ 8 (vC (.int 2))) aR))))
 sX) env
def wq:En->Res Fl:=λenv=>
 (bm (bt 9 (ja (ao (am 2) (ao (am 3) (ao (kf iu (ao (am 5) aR)) aR)))))
 sY) env
def qC:En->Res Fl:=λenv=>
 (bm (mq 8 (cL bU (ao (am 6) (ao (am 7) (ao (cL aH (ao (am 0) (ao (vC (.int 3)) aR))) (ao (am 2) (ao (am 3) aR)))))))
 wq) env
def wt:En->Res Fl:=λenv=>
 (bm (mq 7 (cL dt (ao (cL aH (ao (am 0) (ao (vC (.int 2)) aR))) (ao (am 3) aR))))
 qC) env
def wu:En->Res Fl:=λenv=>
 (bm (bt 6 (v2 cw (cL aH (ao (am 0) (ao (vC (.int 1)) aR))) (am 2)))
 wt) env
def qD:En->Res Fl:=λenv=>
 (bm (bt 5 (gG 1 [2,3] (md (fW (am 0) (fF (vC (.int 4))) (fF (am 4)))) (gN 0) (λ_=>.ok true) jv))
 wu) env
def ww:En->Res Fl:=λenv=>
 (bm (bt 4 (v2 eZ (vC (.int 4)) (v2 cw (v2 fQ (am 1) (vC (.int 12))) (v2 eZ (vC (.int 1)) (kf vT (ao (vC (.int 24)) (ao (kf F_ (ao (vC (.int 0)) (ao (v2 fQ (v2 FT (kf gn (ao (am 0) aR)) (vC (.int 4))) (vC (.int 2))) aR))) aR)))))))
 qD) env
def wx:En->Res Fl:=λenv=>
 (bm (bt 3 (v2 eZ (vC (.int 1)) (v2 cw (v2 fQ (am 1) (vC (.int 3))) (vC (.int 4)))))
 ww) env
def wy:En->Res Fl:=λenv=>
 (bm (bt 2 (v2 eZ (vC (.int 1)) (v2 cw (am 1) (vC (.int 3)))))
 wx) env
def EM:En->Res Fl:=
 (bm (mq 1 (cL aH (ao (am 0) (ao (vC (.int 0)) aR))))
 wy)
def sZ:List D->Res R:=kG N_law EM
set_option genInjectivity false in
structure Tx(K:SB) (mg:Str->Option SD) where
 Bl:Df K mg "_law_cell_at" dW cC
 ES:Df K mg "_law_rule" gT eO
 EV:Df K mg "_law_stack" fZ dq
 E1:Df K mg "_law_machine" dY cE
 EW:Df K mg "is_plain" f6 f7
 BC:Df K mg "refuse_unless_plain" bN bh
 yk:Df K mg "marked" js jt
 Bu:Df K mg "head_of" jS jT
 By:Df K mg "rules_by_head" de dg
 EU:Df K mg "forward" jU hZ
 D6:Df K mg "_law_taken" dw dz
 Bv:Df K mg "arrows_from" fg fj
 BB:Df K mg "along" qz qA
 EZ:Df K mg "takes" lu lz
 BD:Df K mg "law" sT wo
 Ie:mg "all"=none
 Bi:mg "any"=none
 D0:mg "bool"=none
 D1:mg "dict"=none
 nO:mg "isinstance"=none
 cV:mg "len"=none
 jB:mg "list"=none
 HW:mg "max"=none
 Ii:mg "min"=none
 mY:mg "range"=none
 Bj:mg "set"=none
 dC:mg "sorted"=none
 CS:Addr
 kS:gW K CS
 gS:mg "Spreading"=some (.ref CS)
 Ic:Mf K CS "__init__" "Spreading.__init__" Hy ["self","house","machine"]
 HS:Mk K CS Ic.f
 tw:Mf K CS "lead" "Spreading.lead" Hz ["self","start","sign","to"]
 Ib:Mf K CS "follow" "Spreading.follow" HA ["self","room","state"]
 H_:Mf K CS "mid_for" "Spreading.mid_for" HB ["self","room","sign"]
 HU:Mf K CS "take_rule" "Spreading.take_rule" HC ["self","rule","state"]
 Ia:Mf K CS "spread" "Spreading.spread" HD ["self"]
 HY:Mf K CS "machine" "Spreading.machine" DP ["self"]
section
variable{P:SC}{w:World}{K:SB}{mg:Str->Option SD}{base:Heap}(t:Tx K mg)
def cf:bu P w K mg base iT 1 t.Bl.f t.Bl.fd cC (m_ mg 2 aH):=
 ki t.Bl.h.fu kI λcdv A outer s H E hr=>
  have hu:=hr.units
  (au (iH (eB (Jb) (qv 1) (bK fU (by rfl) t.cV (by decide +kernel) (ag (qv 0) az)) (dE _)) (aS (cY (aE bf (aE uD (aE cP (aE cP (aE bf (cz (pv 0) (qv 1) (λ_ _=>rfl)) aB) aB) (aE uD (qv 1) (qv 1))) aB) aB))) dN)
    (aS (cY aB)))
def qE:bu P w K mg base iT 1 t.ES.f t.ES.fd eO (m_ mg 3 eQ):=
 ki t.ES.h.fu sc__law_rule λcdv A outer s H E hr=>
  have hu:=hr.units
  (au (aJ sc__law_rule.nd rfl (.inl rfl) (aE bf (aE uD (aE cP (aE bf (qv 0) aB) aB) aB) aB))
    (au (aJ sc__law_rule.nd rfl (.inl rfl) (aE bf (qv 0) (qv 1)))
    (au (aJ sc__law_rule.nd rfl (.inl rfl) (aE cm (qv 0) (qv 1)))
    (au (aJ sc__law_rule.nd rfl (.inl rfl) (aE bf (qv 0) (qv 2)))
    (au (aJ sc__law_rule.nd rfl (.inl rfl) (aE cm (qv 0) (qv 2)))
    (au (aJ sc__law_rule.nd rfl (.inl rfl) (aE bf (qv 0) (qv 1)))
    (au (aJ sc__law_rule.nd rfl (.inl rfl) (aE cm (qv 0) (qv 1)))
    (au (aJ sc__law_rule.nd rfl (.inl rfl) (aE bf (qv 0) aB))
    (au (aJ sc__law_rule.nd rfl (.inl rfl) (aE cm (qv 0) aB))
    (aS (cY (dM (ag (qv 3) (ag (qv 4) (ag (qv 5) (ag (jd (dM (ag (aE bf (qv 0) (qv 2)) (ag (aE bf (aE cm (qv 0) (qv 2)) (qv 2)) az))) r_ (fG (qv 6))) az))))))))))))))))
def nL:bu P w K mg base iT 1 t.EV.f t.EV.fd dq (m_ mg 2 dt):=
 ki t.EV.h.fu sc__law_stack λcdv A outer s H E hr=>
  have hu:=hr.units
  (au (aJ sc__law_stack.nd rfl (.inl rfl) (uG az))
    (au (aJ sc__law_stack.nd rfl (.inl rfl) (aE cm (qv 0) aB))
    (au (k9 O7 rfl (iI (by rfl) t.mY (ag (aE bf (qv 0) aB) az)) (dc sc__law_stack.nd rfl (.inl rfl)) (au (k8 (pv 2) (aE bf (qv 3) (qv 1)))
    (aS (aJ sc__law_stack.nd rfl (.inl rfl) (aE cm (qv 3) (qv 1))))))
    (aS (cY (qv 2))))))
def kK:bu P w K mg base iT 1 t.E1.f t.E1.fd cE (m_ mg 5 bU):=
 ki t.E1.h.fu sc__law_machine λcdv A outer s H E hr=>
  have hu:=hr.units
  (au (aJ sc__law_machine.nd rfl (.inl rfl) (uG az))
    (au (aJ sc__law_machine.nd rfl (.inl rfl) (qv 0))
    (au (k9 O7 rfl (iI (by rfl) t.mY (ag (bK fU (by rfl) t.cV (by decide +kernel) (ag (qv 1) az)) az)) (dc sc__law_machine.nd rfl (.inl rfl)) (au (k8 (pv 5) (dM (ag (qv 6) (ag (cz (pv 1) (qv 7) (λ_ _=>rfl)) (ag (aE cP (qv 3) (qv 7)) az)))))
    (aS (aJ sc__law_machine.nd rfl (.inl rfl) (aE cP (qv 3) (qv 7))))))
    (au (aJ sc__law_machine.nd rfl (.inl rfl) (aE cP (qv 3) (bK fU (by rfl) t.cV (by decide +kernel) (ag (qv 1) az))))
    (au (aJ sc__law_machine.nd rfl (.inl rfl) (uG (ag (qv 6) az)))
    (au (aJ sc__law_machine.nd rfl (.inl rfl) (aE cm (qv 2) aB))
    (au (iH (eB (zJ) (bK fU (by rfl) t.cV (by decide +kernel) (ag (qv 1) az)) aB (dE _)) (aS (k9 O7 rfl (iI (by rfl) t.mY (ag (aE bf (qv 2) aB) az)) (dc sc__law_machine.nd rfl (.inl rfl)) (au (k8 (pv 5) (dM (ag (aE bf (qv 10) (qv 8)) (ag (aE bf (aE cm (qv 10) (qv 8)) (qv 4)) (ag (aE cP (qv 3) (aE bf (aE cm (qv 10) aB) (bK fU (by rfl) t.cV (by decide +kernel) (ag (qv 1) az)))) az)))))
    (aS (aJ sc__law_machine.nd rfl (.inl rfl) (aE cm (qv 10) aB)))))) dN)
    (au (iH (eB (Eo hu) (aE bf (aE cm (qv 2) aB) aB) aB (dE _)) (aS (k8 (pv 9) (aE bf (qv 10) (qv 8)))) dN)
    (aS (cY (dM (ag (qv 8) (ag (p5 (by rfl) hu (qv 5) (by rfl) t.dC (by decide +kernel) (by rfl) t.Bj (by decide +kernel)) (ag (nI (by rfl) (qv 9) (by rfl) t.dC (by decide +kernel) (by rfl) t.Bj (by decide +kernel)) az))))))))))))))
def s_:bu P w K mg base iT 1 t.EW.f t.EW.fd f7 (m_ mg 2 f9):=
 ki t.EW.h.fu sR λcdv A outer s H E hr=>
  have hu:=hr.units
  (aS (cY (bK (F8 (by rfl)) (by rfl) t.Ie (by decide +kernel) (ag (vQ rfl (cn.of (osc:=aw f6) (N:=N_is_plain) (tN:=["arrow"]) (capN:=["house"]) (caps:=[0]) rfl rfl (by decide +kernel)) (jc (cz (pv 1) aB (λ_ _=>rfl))) (by decide) (λcl C s3 H3 fp=>(dc mS rfl (.inl rfl))) (λcl C s3 H3 fp=>mh) (λcl C s3 H3 fp=>(FS (Jc) (cz (pv 0) aB (λ_ _=>rfl)) (cz (pv 1) aB (λ_ _=>rfl)) (dE _)))) az))))
def ga:bu P w K mg base iT 2 t.BC.f t.BC.fd bh (m_ mg 2 aX):=
 ki t.BC.h.fu f_ λcdv A outer s H E hr=>
  have hu:=hr.units
  (aS (iH (pS (uE (bL (s_ t) (hr.mono (by decide)) (by rfl) t.EW.h fE (ag (qv 0) (ag (qv 1) az)) (aA (aA bJ))))) (aS xJ) dN))
def oV:bu P w K mg base iT 1 t.yk.f t.yk.fd jt (m_ mg 1 cG):=
 ki t.yk.h.fu yb λcdv A outer s H E hr=>
  have hu:=hr.units
  (aS (cY (fD (z_ (by rfl) hu) (by rfl) t.D1 (by decide +kernel) (ag (vQ rfl (cn.of (osc:=aw js) (N:=mU) (tN:=["thing"]) (capN:=[]) (caps:=[]) rfl rfl (by decide +kernel)) (jc (qv 0)) (by decide) (λcl C s3 H3 fp=>(dc qy rfl (.inl rfl))) (λcl C s3 H3 fp=>mh) (λcl C s3 H3 fp=>(dM (ag (qv 0) (ag zG az))))) az))))
def oW:bu P w K mg base iT 1 t.tw.f t.tw.fd ["self","start","sign","to"] (d3 t.CS):=
 t.tw.h.fu.ok sc_SL (λ_ _ _ _ h=>uR h) λcdv A outer s H vs Q E hr h=>
  ⟨_,ay (bC (i:=4) sc_SL.nd rfl (Or.inl rfl) (d7 Pc O4 Ph iZ (d7 Pc O4 Ph iZ (bF (pv 0) rfl) (af (pv 1) (af bI ax))) (af (pv 2) (af bI ax))))
    (aC (nR (g0 (xG hr.units) (pv 3) (pv 4) rfl)
      (ay (kR (fB hr) (pv 4) (pv 3) lB rfl)
        (aC (bw (d7 P8 QL QM fq (bF (pv 0) rfl) (af (eV (af (pv 1) (af (pv 2) (af (pv 3) ax)))) ax)))))
      kN)),xS t.kS h⟩
def KC:bu P w K mg base iT 2 t.Ib.f t.Ib.fd ["self","room","state"] (gY t.CS):=
 t.Ib.h.fu.ok sc_SF (λ_ _ _ _ h=>qj h) λcdv A outer s H vs Q E hr h=>
  ⟨_,ay (bC (i:=3) sc_SF.nd rfl (Or.inl rfl) (d7 Pc O4 Ph iZ (bF (pv 0) rfl) (af (pv 2) (af bI ax))))
    (ay (nR (g0 (uJ hr.units) (pv 1) (pv 3) rfl) (aC BK) kN)
    (ay (kR (fB hr) (pv 3) (pv 1) lB rfl)
    (ay (nR (g0 (uJ hr.units) (pv 2) (bF (pv 0) rfl) rfl) (aC (kR (fB hr) (bF (pv 0) rfl) (pv 1) lB rfl)) kN)
    (aC (pB (b_ O7 rfl (zp (fw (fB hr) (bF (pv 0) rfl) (pv 2) bI ⟨rfl,rfl,rfl,rfl⟩)) (o5 rfl (bS (aO (i:=4) sc_SF.nd rfl (Or.inl rfl)) (bS (aO (i:=5) sc_SF.nd rfl (Or.inl rfl)) kP)))
      (aC (pB (b_ O7 rfl (pA (pv 5)) (aO (i:=6) sc_SF.nd rfl (Or.inl rfl))
        (aC (bw (di (pv 0) t.kS.cl t.tw.h.me (oW t) hr t.tw.h.bi .nil cK (af (pv 1) (af (pv 4) (af (pv 6) ax))))))))))))))),sD t.kS h⟩
def KD:bu P w K mg base iT 1 t.H_.f t.H_.fd ["self","room","sign"] (tF t.CS):=t.H_.h.fu.ok KB (λ_ _ _ _ h=>xT h) λcdv A outer s H vs Q E hr h=>⟨_,aC (eU (d7 Pc O4 Ph (lX hr.units) (bF (pv 0) rfl) (af (eV (af (pv 1) (af (pv 2) ax))) (af (yD op_add (bF (pv 0) rfl) (bo mC (by rfl) t.cV Sm (af (bF (pv 0) rfl) ax))) ax)))),Ak t.kS h⟩
def KF:bu P w K mg base iT 3 t.HU.f t.HU.fd ["self","rule","state"] (Bo t.CS):=
 t.HU.h.fu.ok sc_ST (λ_ _ _ _ h=>Al h) λcdv A outer s H vs Q E hr h=>
  have hr1:cI 1 _:=hr.mono (by decide)
  ⟨_,ay (bC (i:=3) sc_ST.nd rfl (Or.inl rfl) (bv ix_tup (pv 1) aQ (λ_ _=>rfl)))
    (aC (nR (g0 D9 (bo oK (by rfl) t.cV Sm (af (pv 3) ax)) aQ (dE _))
      (aC (bw (di (pv 0) t.kS.cl t.Ib.h.me (KC t) hr t.Ib.h.bi .nil cK (af (bv ix_tup (pv 1) aQ (λ_ _=>rfl)) (af (pv 2) ax)))))
      (aC (nR (g0 D9 (bo oK (by rfl) t.cV Sm (af (pv 3) ax)) aQ (dE _))
        (aC (bw (di (pv 0) t.kS.cl t.tw.h.me (oW t) hr1 t.tw.h.bi .nil cK (af (bv ix_tup (pv 1) aQ (λ_ _=>rfl)) (af (bv ix_tup (pv 3) aQ (λ_ _=>rfl)) (af (pv 2) ax))))))
        (ay (bC (i:=4) sc_ST.nd rfl (Or.inl rfl) (di (pv 0) t.kS.cl t.H_.h.me (KD t) hr1 t.H_.h.bi .nil cK (af (bv ix_tup (pv 1) aQ (λ_ _=>rfl)) (af (bv ix_tup (pv 3) aQ (λ_ _=>rfl)) ax))))
        (ay (bw (di (pv 0) t.kS.cl t.tw.h.me (oW t) hr1 t.tw.h.bi .nil cK (af (bv ix_tup (pv 1) aQ (λ_ _=>rfl)) (af (bv ix_tup (pv 3) aQ (λ_ _=>rfl)) (af (pv 4) ax)))))
        (aC (bw (di (pv 0) t.kS.cl t.tw.h.me (oW t) hr1 t.tw.h.bi .nil cK (af (pv 4) (af (bv ix_tup (pv 3) aQ (λ_ _=>rfl)) (af (pv 2) ax)))))))))))),C7 h⟩
def KG:bu P w K mg base iT 4 t.Ia.f t.Ia.fd ["self"] (gV t.CS):=
 t.Ia.h.fu.ok sc_SS (λ_ _ _ _ h=>ql h) λcdv A outer s H vs Q E hr h=>
  ⟨_,aC (yB O7 (qR (bF (pv 0) rfl) (λ_=>rfl))
    (ay (bC (i:=1) sc_SS.nd rfl (Or.inl rfl) (Fv P8 PySem.F.slot_list_pop PySem.F.type_list_pop Fy (bF (pv 0) rfl)))
    (ay (pB (b_ O7 rfl (pA (fw (fB hr) (bF (pv 0) rfl) (bv ix_tup (pv 1) aQ (λ_ _=>rfl)) bI ⟨rfl,rfl,rfl,rfl⟩)) (aO (i:=2) sc_SS.nd rfl (Or.inl rfl))
      (aC (bw (di (pv 0) t.kS.cl t.tw.h.me (oW t) (hr.mono (by decide)) t.tw.h.bi .nil cK (af (pv 2) (af (bv ix_tup (pv 1) aQ (λ_ _=>rfl)) (af (bv ix_tup (pv 1) aQ (λ_ _=>rfl)) ax))))))))
    (aC (Gr (b_ O7 rfl (C4 (fw (fB hr) (bF (pv 0) rfl) (eV (af (bv ix_tup (pv 1) aQ (λ_ _=>rfl)) (af (bv ix_tup (pv 1) aQ (λ_ _=>rfl)) ax))) rR ⟨rfl,rfl,rfl,rfl⟩)) (aO (i:=3) sc_SS.nd rfl (Or.inl rfl))
      (aC (bw (di (pv 0) t.kS.cl t.HU.h.me (KF t) hr t.HU.h.bi .nil cK (af (pv 3) (af (bv ix_tup (pv 1) aQ (λ_ _=>rfl)) ax)))))))))))
    ,sF t.kS h⟩
def HE:((["to"]:List Str)++(["start","sign"]:List Str)).Nodup:=by decide +kernel
def KH:bu P w K mg base iT 1 t.HY.f t.HY.fd ["self"] (mX t.CS):=
 t.HY.h.fu.ok sc_SK (λ_ _ _ _ h=>uU h) λcdv A outer s H vs Q E hr h=>
  ⟨_,ay (bC (i:=1) sc_SK.nd rfl (Or.inl rfl) (gu ax))
    (ay (b_ O7 rfl (bW (bo (jm rfl) (by rfl) t.dC (by decide +kernel) (af (bF (pv 0) rfl) ax))) (aO (i:=2) sc_SK.nd rfl (Or.inr rfl))
      (aC (b_ O7 rfl (bW (bo (jm rfl) (by rfl) t.dC (by decide +kernel) (af (pj (fB hr) (bF (pv 0) rfl) (pv 2) (λ_ _=>rfl)) ax))) (aO (i:=3) sc_SK.nd rfl (Or.inr rfl))
        (aC (bw (d7 P8 PySem.F.slot_list_extend PySem.F.type_list_extend wR (pv 1) (af (mB (tN:=["to"]) (capN:=["start","sign"]) (caps:=[2,3]) rfl (cn.of (osc:=aw DP) (N:=["self","arrows","start","sign"]) rfl rfl (by decide +kernel)) (bW (bo (jm rfl) (by rfl) t.dC (by decide +kernel) (af (pj (fB hr) (pj (fB hr) (bF (pv 0) rfl) (pv 2) (λ_ _=>rfl)) (pv 3) (λ_ _=>rfl)) ax)))) ax)))))))
    (aC (eU (eV (af (yD op_add (bF (pv 0) rfl) (bo mC (by rfl) t.cV Sm (af (bF (pv 0) rfl) ax))) (af (pv 1) (af (bo (jm rfl) (by rfl) t.dC (by decide +kernel) (af (bF (pv 0) rfl) ax)) ax))))))),
    xV t.kS rfl (λ_ _ _ _ _=>aO (i:=0) HE rfl (Or.inl rfl)) (λ_ _ _ _ _=>eV (af (pv 1) (af (pv 2) (af (pv 0) ax)))) h⟩
def u7:bu P w K mg base iT 1 t.Bu.f t.Bu.fd ["rule"] m7:=t.Bu.h.fu.ok u6 (λ_ _ _ _ h=>uV h) λcdv A outer s H vs Q E hr h=>⟨_,aC (eU (eV (af (bv ix_tup (pv 0) aQ (λ_ _=>rfl)) (af (bv ix_tup (pv 0) aQ (λ_ _=>rfl)) ax)))),xX h⟩
def jW:bu P w K mg base iT 2 t.By.f t.By.fd ["house"] Bp:=
 t.By.h.fu.ok sc_rules_by_head (λ_ _ _ _ h=>Au h) λcdv A outer s H vs Q E hr h=>
  ⟨_,ay (bC (i:=1) sc_rules_by_head.nd rfl (Or.inl rfl) lJ)
    (ay (b_ O7 rfl (bW (bv ix_tup (pv 0) aQ (λ_ _=>rfl))) (aO (i:=2) sc_rules_by_head.nd rfl (Or.inl rfl))
      (aC (Cw (Pp (Nat.add_le_add_left (by decide) _) hr.units) (d7 Pc O4 Ph (lX hr.units) (pv 1)
        (af (d6 (u7 t) hr rfl t.Bu.h.gl t.Bu.h.fu.kp t.Bu.h.bi .nil cK (af (pv 2) ax)) (af rR ax))) (pv 2) lB rfl)))
    (aC (eU (pv 1)))),Dc h⟩
def KI:bu P w K mg base iT 4 t.Ic.f t.Ic.fd ["self","house","machine"] (jC t.CS cG):=
 t.Ic.h.fu.ok KA (λ_ _ _ _ h=>sK h) λcdv A outer s H vs Q E hr h=>
  ⟨_,ay (iB (pv 0) (d6 (jW t) (hr.mono (by decide)) rfl t.By.h.gl t.By.h.fu.kp t.By.h.bi .nil cK (af (pv 1) ax)) rfl)
    (ay (iB (pv 0) (bv ix_tup (pv 2) aQ (λ_ _=>rfl)) rfl)
    (ay (iB (pv 0) bI rfl)
    (ay (iB (pv 0) (d6 (oV t) (hr.mono (by decide)) rfl t.yk.h.gl t.yk.h.fu.kp t.yk.h.bi .nil cK (af (bv ix_tup (pv 2) aQ (λ_ _=>rfl)) ax)) rfl)
    (ay (iB (pv 0) bI rfl) (ay (iB (pv 0) lJ rfl) (aC (iB (pv 0) (gu ax) rfl))))))),uW t.kS h rfl⟩
def u9:bu P w K mg base iT 7 t.EU.f t.EU.fd hZ (m_ mg 2 jV):=
 t.EU.h.fu.ok sc_forward (λ_ _ _ _ h=>h.1) λcdv A outer s H vs Q E hr h=>
  ⟨_,ay (bw (d6 (ga t) (hr.mono (by decide)) rfl t.BC.h.gl t.BC.h.fu.kp t.BC.h.bi .nil fE (af (pv 0) (af (pv 1) ax))))
    (ay (bC (i:=2) sc_forward.nd rfl (Or.inl rfl) (BV t.HS (KI t) (hr.mono (by decide)) rfl t.gS t.Ic.h.bi .nil cK (af (pv 0) (af (pv 1) ax))))
    (ay (b_ O7 rfl (bW (bv ix_tup (pv 1) aQ (λ_ _=>rfl))) (o5 rfl (bS (aO (i:=3) sc_forward.nd rfl (Or.inl rfl)) (bS (aO (i:=4) sc_forward.nd rfl (Or.inl rfl)) (bS (aO (i:=5) sc_forward.nd rfl (Or.inl rfl)) kP))))
      (aC (bw (di (pv 2) t.kS.cl t.tw.h.me (oW t) (hr.mono (by decide)) t.tw.h.bi .nil cK (af (pv 3) (af (pv 4) (af (pv 5) ax)))))))
    (ay (bw (qT (pv 2) t.kS.cl t.Ia.h.me (KG t) (hr.mono (by decide)) t.Ia.h.bi .nil cK))
    (aC (eU (qT (pv 2) t.kS.cl t.HY.h.me (KH t) (hr.mono (by decide)) t.HY.h.bi .nil cK)))))),xY h⟩
def yf:((["_law_state"]:List Str)++(["_law_machine_here"]:List Str)).Nodup:=by decide +kernel
def iA:bu P w K mg base iT 1 t.D6.f t.D6.fd dz (m_ mg 3 cH):=
 t.D6.h.fu.ok sc__law_taken (λ_ _ _ _ h=>h.1) λcdv A outer s H vs Q E hr h=>
  ⟨_,ay (bC (i:=3) sc__law_taken.nd rfl (Or.inl rfl) lJ)
    (ay (b_ O7 rfl (bW (bv ix_tup (pv 0) aQ (λ_ _=>rfl))) (o5 rfl (bS (aO (i:=4) sc__law_taken.nd rfl (Or.inl rfl)) (bS (aO (i:=5) sc__law_taken.nd rfl (Or.inl rfl)) (bS (aO (i:=6) sc__law_taken.nd rfl (Or.inl rfl)) kP))))
      (aC (bw (d7 P8 QL QM fq (d7 Pc O4 Ph (lX hr.units) (pv 3) (af (eV (af (pv 4) (af (pv 5) ax))) (af (gu ax) ax))) (af (pv 6) ax)))))
    (ay (bC (i:=7) sc__law_taken.nd rfl (Or.inl rfl) (gu (af (pv 1) ax)))
    (ay (b_ O7 rfl (bW (pv 2)) (aO (i:=5) sc__law_taken.nd rfl (Or.inl rfl))
      (ay (bC (i:=8) sc__law_taken.nd rfl (Or.inl rfl) bI)
      (ay (b_ O7 rfl (bW (pv 7)) (aO (i:=4) sc__law_taken.nd rfl (Or.inl rfl))
        (aC (b_ O7 rfl (bW (fw (fB hr) (pv 3) (eV (af (pv 4) (af (pv 5) ax))) (gu ax) ⟨rfl,rfl,rfl,rfl⟩)) (aO (i:=6) sc__law_taken.nd rfl (Or.inl rfl)) (aC (kR (fB hr) (pv 8) (pv 6) lB rfl)))))
      (aC (bC (i:=7) sc__law_taken.nd rfl (Or.inl rfl) (g6 (uz rfl) (by rfl) t.jB (by decide +kernel) (af (pv 8) ax)))))))
    (aC (eU (bo (oP rfl) (by rfl) t.Bi (by decide +kernel) (af (mB (tN:=["_law_state"]) (capN:=["_law_machine_here"]) (caps:=[0]) rfl (cn.of (osc:=aw dw) (N:=N__law_taken) rfl rfl (by decide +kernel)) (bW (pv 7))) ax))))))),
    uX rfl rfl rfl (λ_ _ _ _ _=>aO (i:=0) yf rfl (Or.inl rfl)) (λ_ _ _ _ _=>o6 wQ (pv 0) (bv ix_tup (pv 1) aQ (λ_ _=>rfl)) rfl) h⟩
def mW:bu P w K mg base iT 1 t.Bv.f t.Bv.fd ["machine"] Bn:=
 t.Bv.h.fu.ok sc_arrows_from (λ_ _ _ _ h=>AB h) λcdv A outer s H vs Q E hr h=>
  ⟨_,ay (bC (i:=1) sc_arrows_from.nd rfl (Or.inl rfl) bI)
    (ay (b_ O7 rfl (bW (bv ix_tup (pv 0) aQ (λ_ _=>rfl))) (o5 rfl (bS (aO (i:=2) sc_arrows_from.nd rfl (Or.inl rfl)) (bS (aO (i:=3) sc_arrows_from.nd rfl (Or.inl rfl)) (bS (aO (i:=4) sc_arrows_from.nd rfl (Or.inl rfl)) kP))))
      (aC (bw (d7 P8 QL QM fq (d7 Pc O4 Ph iZ (d7 Pc O4 Ph iZ (pv 1) (af (pv 2) (af bI ax))) (af (pv 3) (af (gu ax) ax))) (af (pv 4) ax)))))
    (aC (eU (pv 1)))),Dk h⟩
def A9:bu P w K mg base iT 2 t.BB.f t.BB.fd ["leading","states","sign"] (jD cG):=
 t.BB.h.fu.ok sc_along (λ_ _ _ _ h=>sM h) λcdv A outer s H vs Q E hr h=>
  ⟨_,ay (bC (i:=3) sc_along.nd rfl (Or.inl rfl) bI)
    (ay (pB (b_ O7 rfl (pA (pv 1)) (aO (i:=4) sc_along.nd rfl (Or.inl rfl))
      (aC (bw (d7 Pc PySem.F.slot_dict_update PySem.F.type_dict_update Dm (pv 3) (af (d6 (oV t) hr rfl t.yk.h.gl t.yk.h.fu.kp t.yk.h.bi .nil cK (af (fw (fB hr) (fw (fB hr) (pv 0) (pv 4) bI ⟨rfl,rfl,rfl,rfl⟩) (pv 2) (gu ax) ⟨rfl,rfl,rfl,rfl⟩) ax)) ax))))))
    (aC (eU (pv 3)))),uY h⟩
def yg:((["end"]:List Str)++(["here"]:List Str)).Nodup:=by decide +kernel
def A_:bu P w K mg base iT 3 t.EZ.f t.EZ.fd lz (m_ mg 2 qB):=
 t.EZ.h.fu.ok sc_takes (λ_ _ _ _ h=>h.1) λcdv A outer s H vs Q E hr h=>
  ⟨_,ay (bC (i:=2) sc_takes.nd rfl (Or.inl rfl) (d6 (mW t) (hr.mono (by decide)) rfl t.Bv.h.gl t.Bv.h.fu.kp t.Bv.h.bi .nil cK (af (pv 0) ax)))
    (ay (bC (i:=3) sc_takes.nd rfl (Or.inr rfl) (B7 (yN (bv ix_tup (pv 1) aQ (λ_ _=>rfl)) lB B6) rfl rfl (by simp) (by simp)))
    (ay (b_ O7 rfl (bW (bv ix_tup (pv 1) aQ (λ_ _=>rfl))) (aO (i:=4) sc_takes.nd rfl (Or.inl rfl)) (aC (bC (i:=3) sc_takes.nd rfl (Or.inr rfl) (d6 (A9 t) hr rfl t.BB.h.gl t.BB.h.fu.kp t.BB.h.bi .nil cK (af (pv 2) (af (pv 3) (af (pv 4) ax)))))))
    (aC (eU (bo (oP rfl) (by rfl) t.Bi (by decide +kernel) (af (mB (tN:=["end"]) (capN:=["here"]) (caps:=[3]) rfl (cn.of (osc:=aw lu) (N:=N_takes) rfl rfl (by decide +kernel)) (bW (bv ix_tup (pv 0) aQ (λ_ _=>rfl)))) ax)))))),
    uZ rfl rfl (λ_ _ _ _ _=>aO (i:=0) yg rfl (Or.inl rfl)) (λ_ _ _ _ _=>o6 (uJ hr.units) (pv 0) (pv 1) rfl) h⟩
def HF:bu P w K mg base iT 8 t.BD.f t.BD.fd wo (m_ mg 1 sZ):=
 ki t.BD.h.fu sc_law λcdv A outer s H E hr=>
  have hu:=hr.units
  (au (gM sc_law.nd rfl (.inl rfl) (bL (cf t) (hr.mono (by decide)) (by rfl) t.Bl.h fE (ag (qv 0) (ag aB az)) (aA (aA bJ))))
    (au (aJ sc_law.nd rfl (.inr rfl) (aE cP aB (aE bf (qv 1) aB)))
    (au (aJ sc_law.nd rfl (.inr rfl) (aE cP aB (aE bf (aE cm (qv 1) aB) aB)))
    (au (aJ sc_law.nd rfl (.inl rfl) (aE cP aB (aE bf (aE cm (qv 1) aB) (aE cP aB (bK (CU (by rfl)) (by rfl) t.Ii (by decide +kernel) (ag aB (ag (bK (Ga (by rfl)) (by rfl) t.HW (by decide +kernel) (ag aB (ag (aE cm (aE FU (bK fU (by rfl) t.cV (by decide +kernel) (ag (qv 0) az)) aB) aB) az))) az)))))))
    (au (rY rfl (cn.of (osc:=aw sT) (N:=N_law) (tN:=["_law_cell"]) (capN:=["_law_rooms","_law_signs"]) (caps:=[2,3]) rfl rfl (by decide +kernel)) sc_law.nd rfl rfl (jc (jd (qv 0) (fG aB) (fG (qv 4)))) (by decide) (λcl C s3 H3 fp=>(dc yd rfl (.inl rfl))) (λcl C s3 H3 fp=>mh) (λcl C s3 H3 fp=>(bL (qE t) (hr.mono (by decide)) (by rfl) t.ES.h fE (ag (qv 0) (ag (qv 1) (ag (qv 2) az))) (aA (aA (aA bJ))))))
    (au (aJ sc_law.nd rfl (.inr rfl) (aE bf (bL (cf t) (hr.mono (by decide)) (by rfl) t.Bl.h fE (ag (qv 0) (ag aB az)) (aA (aA bJ))) (qv 2)))
    (au (gM sc_law.nd rfl (.inr rfl) (bL (nL t) (hr.mono (by decide)) (by rfl) t.EV.h fE (ag (bL (cf t) (hr.mono (by decide)) (by rfl) t.Bl.h fE (ag (qv 0) (ag aB az)) (aA (aA bJ))) (ag (qv 3) az)) (aA (aA bJ))))
    (au (gM sc_law.nd rfl (.inl rfl) (bL (kK t) (hr.mono (by decide)) (by rfl) t.E1.h fE (ag (qv 6) (ag (qv 7) (ag (bL (cf t) (hr.mono (by decide)) (by rfl) t.Bl.h fE (ag (qv 0) (ag aB az)) (aA (aA bJ))) (ag (qv 2) (ag (qv 3) az))))) (aA (aA (aA (aA (aA bJ)))))))
    (au (aJ sc_law.nd rfl (.inl rfl) (dM (ag (qv 2) (ag (qv 3) (ag (fD k7 (by rfl) t.jB (by decide +kernel) (ag (qv 5) az)) az)))))
    (au (aJ sc_law.nd rfl (.inl rfl) (Jq (cz (pv 8) aB (λ_ _=>rfl)) (fD k7 (by rfl) t.jB (by decide +kernel) (ag (cz (pv 8) aB (λ_ _=>rfl)) az)) (fD k7 (by rfl) t.jB (by decide +kernel) (ag (cz (pv 8) aB (λ_ _=>rfl)) az))))
    (au (gM sc_law.nd rfl (.inl rfl) (bL (u9 t) (hr.mono (by decide)) (by rfl) t.EU.h fE (ag (qv 9) (ag (qv 10) az)) (aA (aA bJ))))
    (au (iH (PWD.pt (zL (eB (Ep hu) (qv 10) (qv 8) (dE _)) (zL (eB (Ep hu) (qv 9) (dM (ag (qv 2) (ag (qv 3) (ag (qv 5) az)))) (dE _)) (CB (pS (uE (bL (iA t) (hr.mono (by decide)) (by rfl) t.D6.h fE (ag (qv 11) (ag (qv 6) (ag (qv 7) az))) (aA (aA (aA bJ)))))))))) (aS (cY zG)) dN)
    (au (k9 O7 rfl (jc (jd (qv 0) (fG (qv 4)) (fG (aE cP (qv 4) aB)))) (dc sc_law.nd rfl (.inl rfl)) (au (rY rfl (cn.of (osc:=aw sT) (N:=N_law) (tN:=["_law_rule_here"]) (capN:=["_law_room","_law_stack_here"]) (caps:=[6,7]) rfl rfl (by decide +kernel)) sc_law.nd rfl rfl (jc (qv 5)) (by decide) (λcl C s3 H3 fp=>(dc ye rfl (.inl rfl))) (λcl C s3 H3 fp=>(zT (PWD.pt (CC (eB (zJ) (bK fU (by rfl) t.cV (by decide +kernel) (ag (qv 2) az)) aB (dE _)) (zK (eB (Eo hu) (dM (ag (cz (pv 0) aB (λ_ _=>rfl)) (ag (cz (pv 0) aB (λ_ _=>rfl)) az))) (dM (ag (qv 1) (ag (cz (pv 2) aB (λ_ _=>rfl)) az))) (dE _))))))) (λcl C s3 H3 fp=>(qv 0)))
    (aS (iH (eB (zJ) (bK fU (by rfl) t.cV (by decide +kernel) (ag (qv 13) az)) aB (dE _)) (au (aJ sc_law.nd rfl (.inl rfl) (cz (pv 13) (aE bf (qv 12) (bK fU (by rfl) t.cV (by decide +kernel) (ag (qv 13) az))) (λ_ _=>rfl)))
    (au (aJ sc_law.nd rfl (.inr rfl) (cz (pv 14) aB (λ_ _=>rfl)))
    (au (aJ sc_law.nd rfl (.inr rfl) (aE cP (fD k7 (by rfl) t.jB (by decide +kernel) (ag (cz (pv 14) aB (λ_ _=>rfl)) az)) (jd (qv 7) (fG aB) r_)))
    (aS (iH (pS (uE (bL (iA t) (hr.mono (by decide)) (by rfl) t.D6.h fE (ag (qv 11) (ag (qv 6) (ag (qv 7) az))) (aA (aA (aA bJ)))))) (aS (cY zG)) dN))))) dN))))
    (au (gM sc_law.nd rfl (.inl rfl) (bL (A_ t) (hr.mono (by decide)) (by rfl) t.EZ.h fE (ag (qv 11) (ag (dM (ag (qv 6) (ag (qv 7) az))) az)) (aA (aA bJ))))
    (aS (cY (F1 (F7 xD (by rfl) t.nO (by rfl) t.D0 (by decide +kernel) (qv 15)) (F0 (qv 15)))))))))))))))))))
end
def KJ{K KK:SB}{mg:Str->Option SD}{h:Heap}(X:K.In h)(G:h.Ns mainGlobals mg)(U:tq K KK)
 (Bl:FK K "_law_cell_at" dW) (ES:FK K "_law_rule" gT) (EV:FK K "_law_stack" fZ) (E1:FK K "_law_machine" dY) (EW:FK K "is_plain" f6) (BC:FK K "refuse_unless_plain" bN) (yk:FK K "marked" js) (Bu:FK K "head_of" jS) (By:FK K "rules_by_head" de) (EU:FK K "forward" jU) (D6:FK K "_law_taken" dw) (Bv:FK K "arrows_from" fg) (BB:FK K "along" qz) (EZ:FK K "takes" lu) (BD:FK K "law" sT)
 (z_all:nsIn K mainGlobals "all"=some none)
 (z_any:nsIn K mainGlobals "any"=some none)
 (z_bool:nsIn K mainGlobals "bool"=some none)
 (z_dict:nsIn K mainGlobals "dict"=some none)
 (z_isinstance:nsIn K mainGlobals "isinstance"=some none)
 (z_len:nsIn K mainGlobals "len"=some none)
 (z_list:nsIn K mainGlobals "list"=some none)
 (z_max:nsIn K mainGlobals "max"=some none)
 (z_min:nsIn K mainGlobals "min"=some none)
 (z_range:nsIn K mainGlobals "range"=some none)
 (z_set:nsIn K mainGlobals "set"=some none)
 (z_sorted:nsIn K mainGlobals "sorted"=some none)
 {CS:Addr} (cS:CK K KK "Spreading" CS) (nS_0:findIn KK (.ref CS) "rules"=some none) (nS_1:findIn KK (.ref CS) "states"=some none) (nS_2:findIn KK (.ref CS) "table"=some none) (nS_3:findIn KK (.ref CS) "ends"=some none) (nS_4:findIn KK (.ref CS) "followers"=some none) (nS_5:findIn KK (.ref CS) "mids"=some none) (nS_6:findIn KK (.ref CS) "due"=some none)
 {f_SI:Addr} (y_x_p:MK KK CS "__init__" "Spreading.__init__" Hy f_SI)
 {f_SL:Addr} (y_x_q:MK KK CS "lead" "Spreading.lead" Hz f_SL)
 {f_SF:Addr} (y_x_r:MK KK CS "follow" "Spreading.follow" HA f_SF)
 {f_SM:Addr} (y_x_s:MK KK CS "mid_for" "Spreading.mid_for" HB f_SM)
 {f_ST:Addr} (y_x_t:MK KK CS "take_rule" "Spreading.take_rule" HC f_ST)
 {f_SS:Addr} (y_x_u:MK KK CS "spread" "Spreading.spread" HD f_SS)
 {f_SK:Addr} (y_x_v:MK KK CS "machine" "Spreading.machine" DP f_SK)
 : ∃t:Tx KK mg,True:=by
 obtain⟨Bl⟩:=df (ps:=cC) X G U Bl;obtain⟨ES⟩:=df (ps:=eO) X G U ES;obtain⟨EV⟩:=df (ps:=dq) X G U EV;obtain⟨E1⟩:=df (ps:=cE) X G U E1;obtain⟨EW⟩:=df (ps:=f7) X G U EW;obtain⟨BC⟩:=df (ps:=bh) X G U BC;obtain⟨yk⟩:=df (ps:=jt) X G U yk;obtain⟨Bu⟩:=df (ps:=jT) X G U Bu;obtain⟨By⟩:=df (ps:=dg) X G U By;obtain⟨EU⟩:=df (ps:=hZ) X G U EU;obtain⟨D6⟩:=df (ps:=dz) X G U D6;obtain⟨Bv⟩:=df (ps:=fj) X G U Bv;obtain⟨BB⟩:=df (ps:=qA) X G U BB;obtain⟨EZ⟩:=df (ps:=lz) X G U EZ;obtain⟨BD⟩:=df (ps:=wo) X G U BD;have HS:=L8 cS y_x_p;obtain⟨Ic,rfl⟩:=mf (ps:=["self","house","machine"]) y_x_p;obtain⟨tw,rfl⟩:=mf (ps:=["self","start","sign","to"]) y_x_q;obtain⟨Ib,rfl⟩:=mf (ps:=["self","room","state"]) y_x_r;obtain⟨H_,rfl⟩:=mf (ps:=["self","room","sign"]) y_x_s;obtain⟨HU,rfl⟩:=mf (ps:=["self","rule","state"]) y_x_t;obtain⟨Ia,rfl⟩:=mf (ps:=["self"]) y_x_u;obtain⟨HY,rfl⟩:=mf (ps:=["self"]) y_x_v;exact⟨⟨Bl,ES,EV,E1,EW,BC,yk,Bu,By,EU,D6,Bv,BB,EZ,BD,Ps X G z_all,Ps X G z_any,Ps X G z_bool,Ps X G z_dict,Ps X G z_isinstance,Ps X G z_len,Ps X G z_list,Ps X G z_max,Ps X G z_min,Ps X G z_range,Ps X G z_set,Ps X G z_sorted,CS,⟨cS.cl,nS_0,nS_1,nS_2,nS_3,nS_4,nS_5,nS_6⟩,PySem.W.mg_of X G cS.b,Ic,HS,tw,Ib,H_,HU,Ia,HY⟩,True.intro⟩
def HG{l:PySem.W.OpenLaw}{w:World}{K:SB}{mg:Str->Option SD}{fa:Addr}(hfa:mg "law"=some (.ref fa)) (T:∃t:Tx K mg,True) :
 ∃fd:FuncData,(∀(s:Sz)(v:SD),BindsTo s fd ⟨[v],[]⟩ [("_law_script",v)])/\∀base:Heap,bu l.prog w K mg base iT 8 fa fd ["_law_script"] (Ll sZ):=by
 obtain⟨t,_⟩:=T;have e:=hfa.symm.trans t.BD.h.gl;cases e;obtain⟨oc,od,kV,doc,pm,an,cdv,ct,osl,efd,lk,hcd⟩:=t.BD.h.fu.ex;exact⟨t.BD.fd,λs v=>by rw[efd];exact .of_eq rfl,λbase=>bu.top (HF t)⟩
end W
namespace W
open PySem L2 L3
def lA(ns:List Int)(k:Int)(h0:0<=k)(h1:-18446744073709551616<k)(h2:k<18446744073709551616):aH [.lst (ns.map .int),.int k]=.ok (.val (.int (cell ns k)) true []):=by
 by_cases h:k<ns.length
 .have hd:decide (k<(ns.length:Int))=true:=OT h;obtain⟨a,ea,_⟩:=u4 h0 h;have ha:dG (ns.map D.int) k=some (.int a):=by rw[qx,ea];rfl
  simp_arith[aH,dX,Ov,hd,ha,h1,h2];unfold cell;rw[Ow h,ea];rfl
 .have hd:decide (k<(ns.length:Int))=false:=Po h;simp_arith[aH,dX,Ov,hd];unfold cell;rw[Ox h]
def KL(ns:List Int):aH [.lst (ns.map .int),.int 0]=.ok (.val (.int (cell ns 0)) true []):=lA ns 0 (by decide) (by decide) (by decide)
def KM(ns:List Int):aH [.lst (ns.map .int),.int 1]=.ok (.val (.int (cell ns 1)) true []):=lA ns 1 (by decide) (by decide) (by decide)
def KN(ns:List Int):aH [.lst (ns.map .int),.int 2]=.ok (.val (.int (cell ns 2)) true []):=lA ns 2 (by decide) (by decide) (by decide)
def KO(ns:List Int):aH [.lst (ns.map .int),.int 3]=.ok (.val (.int (cell ns 3)) true []):=lA ns 3 (by decide) (by decide) (by decide)
def DQ(c rooms signs:Int)(h1:0<rooms)(h2:rooms<1073741824)(h3:0<signs)(h4:signs<1073741824):eQ [.int c,.int rooms,.int signs]=.ok (.val (cT c rooms signs).d true []):=by have hm:∀(a b:Int) lo hi,cA [D.int a,D.int b] lo hi=(cA [a,b] lo hi).map D.int:=λa b lo hi=>mO D.int [a,b] lo hi;simp_arith[eQ,kn,h1,h2,h3,h4,hm,aZ];rfl
noncomputable def tD(t:iN):D:=.tup [.int t.1,.int t.2.1,.int t.2.2]
def wz(t:iN):(tD t).flat=true:=(rfl)
def HH(t:iN):(tD t).dep<=1:=Ou _
def Mc(n:Int)(ts:List iN)(es:List Int):D:=.tup [.int n,.lst (ts.map tD),.lst (es.map .int)]
def jy(n:Int)(ts:List iN)(es:List Int):(Mc n ts es).flat=false:=by unfold Mc;simp only[jq,dU,gR,mM,Bool.true_and,Q6]
noncomputable def EN:List Int->iN
 |[a,b,c]=>(a,b,c)
 |_=>(0,0,0)
noncomputable def yh(t:iN):List Int:=[t.1,t.2.1,t.2.2]
theorem wA(k:List Int):∀l,(nG k l).length<=l.length+1
 |[]=>by simp[nG]
 |h::t=>by
  have:=wA k t;unfold nG;split
  .simp
  .split<;>simp<;>lia
theorem tf:∀ks,(eJ ks).length<=ks.length
 |[]=>Ou _
 |k::r=>by have h1:=wA k (eJ r);have h2:=tf r;unfold eJ;simp only[OV];lia
def cU(ts:List iN):List iN:=(eJ (ts.map yh)).map EN
def Ba(ts:List iN):(cU ts).length<=ts.length:=by have:=tf (ts.map yh);unfold cU;rw[Ov];rw[Ov]at this;exact this
def DR(ts:List iN):(eJ (ts.map yh)).map sk=(cU ts).map tD:=by unfold cU;rw[OP];refine O0 λk hk=>?_;obtain⟨t,_,rfl⟩:=OB.mp ((gK k _).mp hk);rfl
def HI(ts:List iN)(h:ts.length<=63)(f:Bool)(al:List Nat):Jp (.val (.lst (ts.map tD)) f al)=.ok (.new ((cU ts).map tD) true):=by
 have e:(R.val (.lst (ts.map tD)) f al).d=.lst ((ts.map yh).map sk):=by rw[cB,OP];rfl
 rw[Hr e (by rw[Ov];exact h) (by rw[List.all_map,PR];intro t _;rfl),DR]
end W
namespace W
open PySem L2 L3 L4
abbrev vv(d:D)(f:Bool):Option Sl:=some (.val d f)
def marked_ok(es:List Int)(hl:es.length<=1000000):cG [.lst (es.map .int)]=.ok (.gd (bD (Aa es))):=by
 have h:=λ(env:En)(fr:Bool)=>hW (mk:=λd=>gN 0 d fr (gF env 1 [])) (test:=λ_=>.ok true) (elt:=dZ) D.int (λh=>.val (.tup [.int h,.bl true]) true []) es λc hc=>⟨_,rfl,rfl,by show dZ [some (.val (.int c) fr)]=_;simp_arith[dZ]⟩;have hc:∀env fr al,oR 1 [] (gN 0) (λ_=>.ok true) dZ env ⟨es.map .int,fr,al⟩=.ok (.new (es.map λh=>.tup [.int h,.bl true]) true):=λenv fr al=>by rw[lq (by rw[Ov];exact hl) (h env fr),wn,mR,mL (bZ _ _ λc=>rfl)]
 have hd2:∀f,jM [.new (es.map λh=>.tup [.int h,.bl true]) f]=.ok (.gd (bD (Aa es))):=λf=>by rw[A5 (xs:=es) rfl]
 simp_arith[cG,sS,hc,hd2]
def ti{n room:Int}{ts:List iN}{es st:List Int}(hl:ts.length<=1000)(he:es.length<=1000)(hs:st.length<=100000):∃b,cH [Mc n ts es,.int room,.lst (st.map .int)]=.ok (.val (.bl b) true [])/\(b=true↔Sp.AccM ts es room st):=Ax wb (C:=True) True.intro (n:=n) (r:=room) (by lia) (by lia) (by lia)
def Bb{n room:Int}{ts:List iN}{es st:List Int}(hl:ts.length<=1000)(he:es.length<=1000)(hs:st.length<=100000):∃b,qB [Mc n ts es,.tup [.int room,.lst (st.map .int)]]=.ok (.val (.bl b) true [])/\(b=true↔Sp.AccM ts es room st):=Ax Dh (C:=AC cG) (λl h=>marked_ok l h) (n:=n) (r:=room) (by lia) (by lia) (by lia)
end W
namespace W
open PySem L2 L3
def u_(t:iN):EN (yh t)=t:=(rfl)
def tj(ts:List iN)(t:iN):t∈cU ts↔t∈ts:=by
 unfold cU;constructor
 .intro h;obtain⟨l,hl,rfl⟩:=OB.mp h;obtain⟨u,hu,rfl⟩:=OB.mp ((gK l _).mp hl);rw[u_];exact hu
 .intro h;exact OB.mpr ⟨yh t,(gK _ _).mpr (OB.mpr ⟨t,h,rfl⟩),rfl⟩
theorem DS{asg:D->Bool->En->Option En}{fr:Bool}{body:En->Res Fl}(P:Nat->En->Prop):∀(m k:Nat)(env:En),P k env->
 (∀(j:Nat)(env:En),j<k+m->P j env->∃env1 env2,asg (.int (j:Nat)) fr env=some env1/\body env1=.ok (.nx env2)/\P (j+1) env2)->
 ∃cb,ff asg fr body ((List.range' k m).map λj=>D.int (j:Nat)) env=.ok (.nx cb)/\P (k+m) cb
 |0,k,env,h,_=>⟨env,rfl,h⟩
 |m+1,k,env,h,st=>by obtain⟨env1,env2,h1,h2,h3⟩:=st k env (by lia) h;obtain⟨cb,e1,e2⟩:=DS P m (k+1) env2 h3 λj e hj=>st j e (by lia);refine⟨cb,?_,by rw[show k+(m+1)=k+1+m by lia];exact e2⟩;rw[List.range'_succ,OH];unfold ff;rw[h1];dsimp only;rw[h2];exact e1
def DT{e0:Option Sl}{sg:Int}(h2:1<=sg)(h3:sg<=40)(m:Nat)(hm:m<=10)(c:Int) :
 ∃(w:List Int)(c':Int)(e4:Option Sl),w.length=m/\(∀x∈w,0<=x/\x<sg)/\ff (gN 4) true cD (eG 0 m) [e0,vv (.int sg) false,some (.own [] true),vv (.int c) true,none]=.ok (.nx [e0,vv (.int sg) false,some (.own (w.map .int) true),vv (.int c') true,e4]):=by
 obtain⟨cb,q1,w,c',e4,a1,a2,q2⟩:=DS (asg:=gN 4) (fr:=true) (body:=cD) (λk env=>∃(w:List Int)(c':Int)(e4:Option Sl),w.length=k/\(∀x∈w,0<=x/\x<sg)/\env=[e0,vv (.int sg) false,some (.own (w.map .int) true),vv (.int c') true,e4]) m 0 _ ⟨[],c,none,rfl,(λx hx=>by cases hx),rfl⟩ (λk env hk hp=>by
  obtain⟨w,c',e4,a1,a2,rfl⟩:=hp;refine⟨_,[e0,vv (.int sg) false,some (.own ((w++[c'%sg]).map .int) true),vv (.int (c'/sg)) true,vv (.int (k:Nat)) true],rfl,?_,w++[c'%sg],c'/sg,_,by rw[OC,a1];rfl,λx hx=>?_,rfl⟩
  .rw[O8];have b1:0<sg:=by lia
   have b2:sg<1073741824:=by lia
   have hap:(w.map D.int).length<1000000:=by rw[Ov];lia
   unfold cD;simp_arith[qu hap,b1,b2]
  .rcases OF.mp hx with z|z
   .exact a2 x z
   .obtain rfl:x=c'%sg:=by simpa using z
    exact⟨PZ _ (by lia),Pw _ (by lia)⟩)
 refine⟨w,c',e4,by rw[a1];lia,a2,?_⟩;rw[qw,R7];exact q1.trans (by rw[q2])
def Bc{sg:Int}(h2:1<=sg)(h3:sg<=40)(c:Int):∃w:List Int,w.length<=4/\(∀x∈w,0<=x/\x<sg)/\dt [.int c,.int sg]=.ok (.val (.lst (w.map .int)) true [2]):=by
 have m0:=PZ c (show(5:Int)≠0 by lia);have m5:=Pw c (show(0:Int)<5 by lia);obtain⟨w,c',e4,a1,a2,q⟩:=DT (e0:=vv (.int c) false) h2 h3 (c%5).toNat (by lia) (c/5);refine⟨w,by lia,a2,?_⟩;have m1:(-4611686018427387904:Int)<=c%5:=by lia
 have m2:c%5<4611686018427387904:=by lia
 simp_arith[dt,jr,AR,m1,m2,q]
noncomputable def eR(room ro:Int):Nat->Int
 |0=>room
 |k+1=>ro+(k:Int)
section
variable{room ro sg pick:Int}{w:List Int}
structure kM(ro sg n:Int) (as:List iN):Prop where
 b:∀a∈as,(0<=a.1/\a.1<n)/\(0<=a.2.1/\a.2.1<sg)/\ro<=a.2.2/\a.2.2<n
def kM.app{n:Int}{as:List iN}(h:kM ro sg n as){a:iN}(ha:(0<=a.1/\a.1<n)/\(0<=a.2.1/\a.2.1<sg)/\ro<=a.2.2/\a.2.2<n):kM ro sg n (as++[a]):=⟨λx hx=>(OF.mp hx).elim (h.b x) λe=>by rw[OM.mp e];exact ha⟩
def gp(room:Int)(w:List Int)(pick ro sg:Int)(as:List iN)(e6 e7 e8 e9 e10:Option Sl):En:=[vv (.int room) false,vv (.lst (w.map .int)) false,vv (.int pick) false,vv (.int ro) false,vv (.int sg) false,some (.own (as.map tD) true),e6,e7,e8,e9,e10]
def MU(h0:0<=room/\room<ro)(hw:∀x∈w,0<=x/\x<sg)(hl:w.length<=4){e7:Option Sl} :
 ∃as e7',ff (gN 7) true bz (eG 0 w.length) (gp room w pick ro sg [] (vv (.int room) true) e7 none none none)=.ok (.nx (gp room w pick ro sg as (vv (.int (eR room ro w.length)) true) e7' none none none))/\as.length=w.length/\kM ro sg (ro+w.length) as/\∀(j:Nat)(x:Int),w[j]?=some x->(eR room ro j,x,ro+(j:Int))∈as:=by
 obtain⟨cb,q1,as,e7',q2,a1,a2,a3⟩:=DS (asg:=gN 7) (fr:=true) (body:=bz) (λk env=>∃as e7',env=gp room w pick ro sg as (vv (.int (eR room ro k)) true) e7' none none none/\as.length=k/\kM ro sg (ro+w.length) as/\∀(j:Nat)(x:Int),j<k->w[j]?=some x->(eR room ro j,x,ro+(j:Int))∈as) w.length 0 _ ⟨[],e7,rfl,rfl,⟨λa ha=>by cases ha⟩,λj x hj=>by lia⟩ (λk env hk hp=>by
  obtain⟨as,e7',rfl,a1,a2,a3⟩:=hp;have hk':k<w.length:=by lia
  have hx:w[k]?=some w[k]:=OL hk';have hxw:=hw _ (Pn hx);have hat:dG (w.map D.int) ((k:Nat):Int)=some (.int w[k]):=by obtain⟨z,h1,h2⟩:=u4 (xs:=w) (k:=((k:Nat):Int)) (by lia) (by lia);rw[qx,h1];simp at h2;rw[hx]at h2;cases h2;rfl
  refine⟨_,gp room w pick ro sg (as++[(eR room ro k,w[k],ro+(k:Int))]) (vv (.int (ro+(k:Int))) true) (vv (.int (k:Nat)) true) none none none,rfl,?_,as++[(eR room ro k,w[k],ro+(k:Int))],_,rfl,by rw[OC,a1];rfl,a2.app ?_,λj x hj hjx=>?_⟩
  .have hap:(as.map tD).length<1000000:=by rw[Ov];lia
   unfold bz gp;rw[O8];simp_arith[hat,qu hap];rfl
  .refine⟨?_,hxw,by simp only[];lia,by simp only[];lia⟩;cases k with
   |zero=>simp only[eR];lia
   |succ k=>simp only[eR];lia
  .by_cases e:j<k
   .exact OX _ (a3 j x e hjx)
   .obtain rfl:j=k:=by lia
    rw[hx]at hjx;cases hjx;exact ON _ (by simp))
 refine⟨as,e7',?_,by rw[a1];lia,a2,λj x hjx=>a3 j x (by have:=(OG.mp hjx).1;lia) hjx⟩;rw[Nat.zero_add]at q2;rw[qw,R7];exact q1.trans (by rw[q2])
def HJ{ts:List iN}{es:List Int}(he:eR room ro w.length∈es)(h:∀(j:Nat)(x:Int),w[j]?=some x->(eR room ro j,x,ro+(j:Int))∈ts):Sp.AccM ts es room w:=by
 have key:∀(m j:Nat),m+j=w.length->Sp.AccM ts es (eR room ro j) (w.drop j):=λm=>by
  induction m with
  |zero=>intro j e;rw[List.drop_eq_nil_of_le (by lia)];show eR room ro j∈es;rw[show j=w.length by lia];exact he
  |succ m ih=>
   intro j e;have hj:j<w.length:=by lia
   rw[Qg hj];exact⟨ro+(j:Int),h j _ (OL hj),ih (j+1) (by lia)⟩
 exact key w.length 0 (by lia)
def MV(h0:1<=ro)(h1:ro<=8)(h2:1<=sg)(h3:sg<=40)(hl:w.length<=4)(hw:0<w.length)(m:Nat)(hm:m<=10)(c:Int){as:List iN}(A:kM ro sg (ro+w.length) as)(ha:as.length<=10){e6 e7 e9:Option Sl} :
 ∃as' c' e7',ff (gN 7) true bA (eG 0 m) (gp room w pick ro sg as e6 e7 (vv (.int (ro+w.length)) true) e9 (vv (.int c) true))=.ok (.nx (gp room w pick ro sg (as++as') e6 e7' (vv (.int (ro+w.length)) true) e9 (vv (.int c') true)))/\as'.length=m/\kM ro sg (ro+w.length) (as++as'):=by
 obtain⟨cb,q1,as',c',e7',q2,a1,a2⟩:=DS (asg:=gN 7) (fr:=true) (body:=bA) (λk env=>∃as' c' e7',env=gp room w pick ro sg (as++as') e6 e7' (vv (.int (ro+w.length)) true) e9 (vv (.int c') true)/\as'.length=k/\kM ro sg (ro+w.length) (as++as')) m 0 _ ⟨[],c,e7,by rw[Qj],rfl,by rw[Qj];exact A⟩ (λk env hk hp=>by
  obtain⟨as',c',e7',rfl,a1,a2⟩:=hp;have hap:((as++as').map tD).length<1000000:=by rw[Ov,OC];lia
  have b1:(0:Int)<ro+w.length:=by lia
  have b2:ro+(w.length:Int)<1073741824:=by lia
  have b3:0<sg:=by lia
  have b4:sg<1073741824:=by lia
  have b5:(0:Int)<w.length:=by lia
  have b6:(w.length:Int)<1073741824:=by lia
  refine⟨_,gp room w pick ro sg (as++(as'++[(c'%(ro+w.length),c'/(ro+w.length)%sg,ro+c'/3%w.length)])) e6 (vv (.int (k:Nat)) true) (vv (.int (ro+w.length)) true) e9 (vv (.int (c'/29)) true),rfl,?_,_,_,_,rfl,by rw[OC,a1];rfl,?_⟩
  .unfold bA gp;rw[<- Qs,O8 (l₁:=as++as')];simp_arith[Ov,qu hap,b1,b2,b3,b4,b5,b6];rfl
  .rw[<- Qs];have r1:=PZ c' (show ro+(w.length:Int)≠0 by lia);have r2:=Pw c' b1;have r3:=PZ (c'/(ro+w.length)) (show sg≠0 by lia);have r4:=Pw (c'/(ro+w.length)) b3;have r5:=PZ (c'/3) (show(w.length:Int)≠0 by lia);have r6:=Pw (c'/3) b5;exact a2.app ⟨⟨r1,r2⟩,⟨r3,r4⟩,by simp only[];lia,by simp only[];lia⟩)
 refine⟨as',c',e7',?_,by rw[a1];lia,a2⟩;rw[qw,R7,q1,q2]
end
theorem tm(k:Int):∀l,(mr k l).length<=l.length+1
 |[]=>by simp[mr]
 |h::t=>by
  have:=tm k t;unfold mr;split
  .simp
  .split<;>simp<;>lia
theorem oX:∀ks,(aD ks).length<=ks.length
 |[]=>Ou _
 |k::r=>by have h1:=tm k (aD r);have h2:=oX r;unfold aD;simp only[OV];lia
section
variable{room ro sg:Int}{w:List Int}
def KP(h0:0<=room/\room<ro)(m:Nat):0<=eR room ro m/\eR room ro m<ro+(m:Int)\/(m=0/\eR room ro m=room):=by
 cases m with
 |zero=>exact .inr ⟨rfl,rfl⟩
 |succ k=>left;simp only[eR];lia
def DU(xs:List Int)(h:xs.length<=63)(f:Bool)(al:List Nat):Ac (.val (.lst (xs.map .int)) f al)=.ok (.new ((aD xs).map .int) true):=by unfold Ac;rw[cB];dsimp only;rw[jR];dsimp only;rw[Ow h]
def tp(h0:0<=room/\room<ro)(h1:ro<=8)(h2:1<=sg)(h3:sg<=40)(hw:∀x∈w,0<=x/\x<sg)(hl:w.length<=4)(pick:Int) :
 ∃(ts:List iN)(es:List Int),bU [.int room,.lst (w.map .int),.int pick,.int ro,.int sg]=.ok (.val (Mc (ro+w.length) ts es) true [])/\kM ro sg (ro+w.length) ts/\ts.length<=9/\es.length<=2/\(∀e∈es,0<=e/\e<ro+w.length)/\Sp.AccM ts es room w:=by
 obtain⟨as,e7,q1,l1,A1,c1⟩:=MU (pick:=pick) (e7:=none) h0 hw hl;have p0:=PZ pick (show(6:Int)≠0 by lia);have p6:=Pw pick (show(0:Int)<6 by lia);have n0:(0:Int)<ro+w.length:=by lia
 have n1:ro+(w.length:Int)<1073741824:=by lia
 obtain⟨as',c',e7',q2,l2,A2⟩ : ∃as' c' e7',yr (vB (v2 FV (kf gn (ao (am 1) aR)) (vC (.int 0)))) (nE (F5 (ao (v2 cw (am 2) (vC (.int 6))) aR)) (gN 7) bA) kF (gp room w pick ro sg as (vv (.int (eR room ro w.length)) true) e7 (vv (.int (ro+w.length)) true) (some (.own [.int (eR room ro w.length)] true)) (vv (.int (pick/12)) true))=.ok (.nx (gp room w pick ro sg (as++as') (vv (.int (eR room ro w.length)) true) e7' (vv (.int (ro+w.length)) true) (some (.own [.int (eR room ro w.length)] true)) (vv (.int c') true)))/\as'.length<=5/\kM ro sg (ro+w.length) (as++as'):=by
  by_cases hp:0<w.length
  .obtain⟨as',c',e7',q,l,A⟩:=MV (room:=room) (pick:=pick) (e6:=vv (.int (eR room ro w.length)) true) (e7:=e7) (e9:=some (.own [.int (eR room ro w.length)] true)) (by lia) h1 h2 h3 hl hp (pick%6).toNat (by lia) (pick/12) A1 (by lia);refine⟨as',c',e7',?_,by lia,A⟩;have m1:(-4611686018427387904:Int)<=pick%6:=by lia
   have m2:pick%6<4611686018427387904:=by lia
   have hd:decide ((0:Int)<(w.length:Int))=true:=OT (by lia);unfold gp at q ⊢;simp_arith[Ov,hd,AR,m1,m2,q]
  .refine⟨[],pick/12,e7,?_,by simp,by rw[Qj];exact A1⟩;have hd:decide ((0:Int)<(w.length:Int))=false:=Po (by lia);rw[Qj];unfold gp;simp_arith[Ov,hd]
 have hs:0<=eR room ro w.length/\eR room ro w.length<ro+w.length:=by
  rcases KP h0 w.length with h|⟨h,h'⟩
  .exact h
  .rw[h'];lia
 have kA:=HI (as++as') (by rw[OC];lia);have kE:=λxs (h:xs.length<=63)=>DU xs h;have hT:∀(es:List Int),es.length<=2->eR room ro w.length∈es->(∀e∈es,0<=e/\e<ro+(w.length:Int))->kM ro sg (ro+w.length) (cU (as++as'))/\(cU (as++as')).length<=9/\(aD es).length<=2/\(∀e∈aD es,0<=e/\e<ro+(w.length:Int))/\Sp.AccM (cU (as++as')) (aD es) room w:=λes hl' hm hb=>by have l3:=Ba (as++as');rw[OC]at l3;refine⟨⟨λa ha=>A2.b a ((tj _ _).mp ha)⟩,by lia,?_,λe he=>hb e ((cQ e es).mp he),HJ ((cQ _ _).mpr hm) λj x hj=>(tj _ _).mpr (OX _ (c1 j x hj))⟩;exact O3 (oX es) hl'
 have m1:(-4611686018427387904:Int)<=(w.length:Int):=by lia
 have m2:(w.length:Int)<4611686018427387904:=by lia
 have s1:bt 5 (uF aR) (gH N__law_machine [.int room,.lst (w.map .int),.int pick,.int ro,.int sg])=.ok (.nx (gp room w pick ro sg [] none none none none none)):=by unfold gp;simp_arith
 have s2:bt 6 (am 0) (gp room w pick ro sg [] none none none none none)=.ok (.nx (gp room w pick ro sg [] (vv (.int room) true) none none none none)):=by unfold gp;simp_arith
 have s3:nE (F5 (ao (kf gn (ao (am 1) aR)) aR)) (gN 7) bz (gp room w pick ro sg [] (vv (.int room) true) none none none none)=.ok (.nx (gp room w pick ro sg as (vv (.int (eR room ro w.length)) true) e7 none none none)):=by unfold gp at q1 ⊢;simp only[RV]at q1 ⊢;simp_arith[Ov,AR,m1,m2,QG,q1]
 have s4:bt 8 (v2 eZ (am 3) (kf gn (ao (am 1) aR))) (gp room w pick ro sg as (vv (.int (eR room ro w.length)) true) e7 none none none)=.ok (.nx (gp room w pick ro sg as (vv (.int (eR room ro w.length)) true) e7 (vv (.int (ro+w.length)) true) none none)):=by unfold gp;simp_arith[Ov]
 have s5:bt 9 (uF (ao (am 6) aR)) (gp room w pick ro sg as (vv (.int (eR room ro w.length)) true) e7 (vv (.int (ro+w.length)) true) none none)=.ok (.nx (gp room w pick ro sg as (vv (.int (eR room ro w.length)) true) e7 (vv (.int (ro+w.length)) true) (some (.own [.int (eR room ro w.length)] true)) none)):=by unfold gp;simp_arith
 have s6:bt 10 (v2 fQ (am 2) (vC (.int 12))) (gp room w pick ro sg as (vv (.int (eR room ro w.length)) true) e7 (vv (.int (ro+w.length)) true) (some (.own [.int (eR room ro w.length)] true)) none)=.ok (.nx (gp room w pick ro sg as (vv (.int (eR room ro w.length)) true) e7 (vv (.int (ro+w.length)) true) (some (.own [.int (eR room ro w.length)] true)) (vv (.int (pick/12)) true))):=by unfold gp;simp_arith
 have fA:D.aY ((cU (as++as')).map tD)=true:=bZ _ _ wz;have r1:=PZ c' (show ro+(w.length:Int)≠0 by lia);have r2:=Pw c' n0;have go:∀(es:List Int),es.length<=2->yr (vB (v2 FW (v2 cw (v2 fQ (am 2) (vC (.int 6))) (vC (.int 2))) (vC (.int 1)))) (pW 9 (v2 cw (am 10) (am 8))) kF (gp room w pick ro sg (as++as') (vv (.int (eR room ro w.length)) true) e7' (vv (.int (ro+w.length)) true) (some (.own [.int (eR room ro w.length)] true)) (vv (.int c') true))=.ok (.nx (gp room w pick ro sg (as++as') (vv (.int (eR room ro w.length)) true) e7' (vv (.int (ro+w.length)) true) (some (.own (es.map .int) true)) (vv (.int c') true)))->bU [.int room,.lst (w.map .int),.int pick,.int ro,.int sg]=.ok (.val (Mc (ro+w.length) (cU (as++as')) (aD es)) true []):=λes he s8=>by
  have k2:=kE es (by lia);have s9:jb (ja (ao (am 8) (ao (Lo (am 5)) (ao (CV (am 9)) aR)))) (gp room w pick ro sg (as++as') (vv (.int (eR room ro w.length)) true) e7' (vv (.int (ro+w.length)) true) (some (.own (es.map .int) true)) (vv (.int c') true))=.ok (.rt (.val (Mc (ro+w.length) (cU (as++as')) (aD es)) true [])):=by unfold gp Mc;simp_arith[kA,k2,fA,aZ]
  unfold bU kG gU;rw[eM,s1,fI,jo,eM,s2,fI,jo,eM,s3,fI,jo,eM,s4,fI,jo,eM,s5,fI,jo,eM,s6,fI,jo,eM,q2,fI,jo,eM,s8,fI,jo,s9];rfl
 by_cases hc:pick/6%2=1
 .have hb:(pick/6%2==1)=true:=by rw[hc];rfl
  obtain⟨t1,t2,t3,t4,t5⟩:=hT [eR room ro w.length,c'%(ro+w.length)] (by simp) (by simp) (λe he=>by
   rcases OE.mp he with rfl|he
   .exact hs
   .rw[OM.mp he];exact⟨r1,r2⟩)
  refine⟨_,_,go [eR room ro w.length,c'%(ro+w.length)] (by simp) ?_,t1,t2,t3,t4,t5⟩;have hap:[D.int (eR room ro w.length)].length<1000000:=by simp
  unfold gp;simp_arith[GT,hb,hc,n0,n1,qu hap]
 .have hb:(pick/6%2==1)=false:=by simp[hc]
  obtain⟨t1,t2,t3,t4,t5⟩:=hT [eR room ro w.length] (by simp) (by simp) (λe he=>by rw[OM.mp he];exact hs);refine⟨_,_,go [eR room ro w.length] (by simp) ?_,t1,t2,t3,t4,t5⟩;unfold gp;simp_arith[GT,hb,hc]
end
def Lu(r:Rl):Sp.Rule:=(r.room,r.sign,r.to,r.put)
def iQ(ns:List Int)(sz ro sg un:Int)(RL:List Rl)(room:Int)(e7 e8 e9 e10:Option Sl)(M:D)(e12 e13 e14 e15:Option Sl):En:=[vv (.lst (ns.map .int)) false,vv (.int sz) true,vv (.int ro) true,vv (.int sg) true,vv (.int un) true,some (.own (RL.map Rl.d) true),vv (.int room) true,e7,e8,e9,e10,vv M true,e12,e13,e14,e15]
def Ir(e:Option Sl)(w:List Int):Prop:=e=vv (.lst (w.map .int)) true\/e=some (.own (w.map .int) true)
def qF(room:Int):List Int->Rl->Bool
 |[],_=>false
 |g::_,r=>g9 (.tup [.int r.room,.int r.sign]) (.tup [.int room,.int g])
def HK{room:Int}{w:List Int}{r:Rl}(h:qF room w r=true):∃q,w=r.sign::q/\r.room=room:=by
 cases w with
 |nil=>cases h
 |cons g q=>unfold qF at h;simp[g9,eqDs]at h;exact⟨q,by rw[h.2],h.1⟩
section
variable{ns:List Int}{sz ro sg un:Int}{RL:List Rl}{room:Int}{w:List Int}{e7 e8 e9 e10 e12 e13 e14 e15:Option Sl}{M:D}
def DV(hl:RL.length<=1000)(h7:Ir e7 w):gG 1 [6,7] (md (am 5)) (gN 0) h8 jw (iQ ns sz ro sg un RL room e7 e8 e9 e10 M e12 e13 e14 e15)=.ok (.new ((RL.filter (qF room w)).map Rl.d) true):=by
 generalize hE:iQ ns sz ro sg un RL room e7 e8 e9 e10 M e12 e13 e14 e15=env;have hf:D.aY (RL.map Rl.d)=true:=bZ _ _ Rl.flat;have hv:∃al,am 5 env=.ok (.val (.lst (RL.map Rl.d)) true al):=by rw[<- hE];unfold iQ;exact⟨_,by simp_arith[hf];rfl⟩
 obtain⟨al,hv⟩:=hv;have h:=jp (mk:=λd=>gN 0 d true (gF env 1 [6,7])) (test:=h8) (elt:=jw) Rl.d (qF room w) (λr=>.val r.d true []) RL λr _=>⟨[some (.val r.d true),some (.val (.int room) true),some (.val (.lst (w.map .int)) true)],by rw[<- hE];rcases h7 with rfl|rfl<;>rfl,by
  clear h7;cases w with
  |nil=>rw[show qF room [] r=false from rfl];unfold Rl.d;simp_arith[h8]
  |cons g q=>
   have e:g9 (.tup [.int r.room,.int r.sign]) (.tup [.int room,.int g])=qF room (g::q) r:=rfl;have hd:decide ((0:Int)<(((q.map D.int).length+1:Nat):Int))=true:=OT (by lia);unfold Rl.d;simp_arith[h8,GT,hd,e,aZ]
   skip,λ_=>by have:=r.flat;simp_arith[jw,this]⟩
 rw[AT,AQ,hv,fI,sO,fI,lq (by rw[Ov];lia) h,wn,mL (bZ _ _ Rl.flat)]
end
section
variable{ns:List Int}{sz ro sg un:Int}{RL:List Rl}{room:Int}{w:List Int}{e7 e8 e9 e10 e12 e13 e14 e15:Option Sl}{n:Int}{ts:List iN}{es:List Int}
def DW(hl:RL.length<=1000)(ht:ts.length<=1000)(hE:es.length<=1000)(hp:∀r∈RL,r.put.length<=2)(hC:∀r∈RL,∀q,Sp.AccM ts es r.room (r.sign::q)->Sp.AccM ts es r.to (r.put++q))(ha:Sp.AccM ts es room w)(hw:w.length<=10000)(h7:Ir e7 w){c:Int}{f12:Bool} :
 ∃room' w' e7' e13' e14',jx (iQ ns sz ro sg un RL room e7 e8 e9 e10 (Mc n ts es) (vv (.int c) f12) e13 e14 e15)=.ok (.nx (iQ ns sz ro sg un RL room' e7' e8 e9 e10 (Mc n ts es) (vv (.int c) f12) e13' e14' e15))/\Sp.AccM ts es room' w'/\w'.length<=w.length+1/\Ir e7' w':=by
 have hf:=DV (ns:=ns) (sz:=sz) (ro:=ro) (sg:=sg) (un:=un) (room:=room) (w:=w) (e7:=e7) (e8:=e8) (e9:=e9) (e10:=e10) (M:=Mc n ts es) (e12:=vv (.int c) f12) (e13:=e13) (e14:=e14) (e15:=e15) hl h7;have hm:∀r∈RL.filter (qF room w),r∈RL/\∃q,w=r.sign::q/\r.room=room:=λr h=>⟨(QX.mp h).1,HK (QX.mp h).2⟩;have hfl:=List.length_filter_le (qF room w) RL;generalize RL.filter (qF room w)=fs at hf hm hfl;have s1:bt 13 (gG 1 [6,7] (md (am 5)) (gN 0) h8 jw) (iQ ns sz ro sg un RL room e7 e8 e9 e10 (Mc n ts es) (vv (.int c) f12) e13 e14 e15)=.ok (.nx (iQ ns sz ro sg un RL room e7 e8 e9 e10 (Mc n ts es) (vv (.int c) f12) (some (.own (fs.map Rl.d) true)) e14 e15)):=by rw[ED,hf];rfl
 unfold jx;rw[eM,s1,fI,jo,JP];have hc:vB (v2 FV (kf gn (ao (am 13) aR)) (vC (.int 0))) (iQ ns sz ro sg un RL room e7 e8 e9 e10 (Mc n ts es) (vv (.int c) f12) (some (.own (fs.map Rl.d) true)) e14 e15)=.ok (decide ((0:Int)<((fs.map Rl.d).length:Int))):=by unfold iQ;simp_arith
 rw[hc,fI,Ov];by_cases h0:0<fs.length
 .rw[OT (show(0:Int)<(fs.length:Int) by lia),EA];have b1:(0:Int)<fs.length:=by lia
  have b2:(fs.length:Int)<1073741824:=by lia
  have r1:=PZ c (show(fs.length:Int)≠0 by lia);have r2:=Pw c b1;obtain⟨r,h1,h2⟩:=u4 (xs:=fs) (k:=c%(fs.length:Int)) r1 r2;have hrm:r∈fs:=Pn h2;obtain⟨hR,q,rfl,rfl⟩:=hm r hrm;have hat:dG (fs.map Rl.d) (c%(fs.length:Int))=some r.d:=by rw[qx,h1];rfl
  have hacc:=hC r hR q ha;have hpl:=hp r hR;obtain⟨b,hb,hbi⟩:=ti (n:=n) (room:=r.to) (ts:=ts) (es:=es) (st:=r.put++q) ht hE (by rw[OC];rw[OV]at hw;lia);obtain rfl:b=true:=hbi.mpr hacc;refine⟨r.to,r.put++q,some (.own ((r.put++q).map .int) true),some (.own (fs.map Rl.d) true),vv r.d true,?_,hacc,by simp;lia,.inr rfl⟩;have hfr:=r.flat;have s2:bt 14 (e_ 13 (v2 cw (am 12) (kf gn (ao (am 13) aR)))) (iQ ns sz ro sg un RL r.room e7 e8 e9 e10 (Mc n ts es) (vv (.int c) f12) (some (.own (fs.map Rl.d) true)) e14 e15)=.ok (.nx (iQ ns sz ro sg un RL r.room e7 e8 e9 e10 (Mc n ts es) (vv (.int c) f12) (some (.own (fs.map Rl.d) true)) (vv r.d true) e15)):=by unfold iQ;simp_arith[Ov,b1,b2,hat,hfr]
  have s3:bt 6 (e_ 14 (vC (.int 2))) (iQ ns sz ro sg un RL r.room e7 e8 e9 e10 (Mc n ts es) (vv (.int c) f12) (some (.own (fs.map Rl.d) true)) (vv r.d true) e15)=.ok (.nx (iQ ns sz ro sg un RL r.to e7 e8 e9 e10 (Mc n ts es) (vv (.int c) f12) (some (.own (fs.map Rl.d) true)) (vv r.d true) e15)):=by unfold iQ Rl.d;simp_arith[aZ]
  have a1:(r.put.map D.int).length+(q.map D.int).length<=1000000:=by simp only[Ov];simp only[OV]at hw;lia
  have f1:D.aY (r.put.map D.int++q.map D.int)=true:=by rw[<- O8];exact aZ _
  have ct:cA (D.int r.sign::q.map D.int) (some 1) none=q.map D.int:=A7 _;have s4:bt 7 (v2 eZ (kf iu (ao (e_ 14 (vC (.int 3))) aR)) (fW (am 7) (fF (vC (.int 1))) rZ)) (iQ ns sz ro sg un RL r.to e7 e8 e9 e10 (Mc n ts es) (vv (.int c) f12) (some (.own (fs.map Rl.d) true)) (vv r.d true) e15)=.ok (.nx (iQ ns sz ro sg un RL r.to (some (.own ((r.put++q).map .int) true)) e8 e9 e10 (Mc n ts es) (vv (.int c) f12) (some (.own (fs.map Rl.d) true)) (vv r.d true) e15)):=by
   unfold iQ Rl.d;rw[O8];rcases h7 with rfl|rfl
   .simp_arith[aZ,ct,AD a1,f1,O8]
   .simp_arith[aZ,ct,AD a1,f1,O8]
  have fM:=jy n ts es;have s5:yr (xr (xq (cL cH (ao (am 11) (ao (am 6) (ao (am 7) aR)))))) (jb (vC (.bl false))) kF (iQ ns sz ro sg un RL r.to (some (.own ((r.put++q).map .int) true)) e8 e9 e10 (Mc n ts es) (vv (.int c) f12) (some (.own (fs.map Rl.d) true)) (vv r.d true) e15)=.ok (.nx (iQ ns sz ro sg un RL r.to (some (.own ((r.put++q).map .int) true)) e8 e9 e10 (Mc n ts es) (vv (.int c) f12) (some (.own (fs.map Rl.d) true)) (vv r.d true) e15)):=by unfold iQ;simp_arith[fM,hb]
  rw[eM,s2,fI,jo,eM,s3,fI,jo,eM,s4,fI,jo,s5]
 .rw[Po (show ¬(0:Int)<(fs.length:Int) by lia),EB,EC];exact⟨room,w,e7,_,_,rfl,ha,by lia,h7⟩
end
end W
namespace W
open PySem L2 L3 L4
def DY(ro sg:Int)(RL:List Rl):D:=.tup [.int ro,.int sg,.lst (RL.map Rl.d)]
def Bd(ro sg:Int)(RL:List Rl):(DY ro sg RL).flat=false:=by unfold DY;simp only[jq,dU,gR,mM,Bool.true_and,Q6]
def Be{ro sg n:Int}{RL:List Rl}{ts:List iN}{es:List Int}(hl:ts.length<=1000)(ht:∀t∈ts,ro<=t.2.2):aX [DY ro sg RL,Mc n ts es]=.ok (.val .ba true []):=by
 have hp:f9 [DY ro sg RL,Mc n ts es]=.ok (.val (.bl true) true []):=by
  have h:=λ(e1:Option Sl)=>hW (mk:=λd=>gN 0 d false (gF [vv (DY ro sg RL) false,e1] 1 [0])) (test:=λ_=>.ok true) (elt:=cF) tD (λ_=>.val (.bl true) true []) ts λt h=>⟨_,rfl,rfl,by show cF [vv (tD t) false,vv (DY ro sg RL) false]=_;have hd:decide (ro<=t.2.2)=true:=OT (ht t h);unfold tD DY;simp_arith[cF,hd]⟩;have hx:∀(e1:Option Sl),oR 1 [0] (gN 0) (λ_=>.ok true) cF [vv (DY ro sg RL) false,e1] ⟨ts.map tD,false,[]⟩=.ok (.new (ts.map λ_=>D.bl true) true):=λe1=>by rw[lq (by rw[Ov];lia) (h e1),wn,mR,mL (bZ _ _ λc=>rfl)]
  simp_arith[f9,mT,Mc,hx,x_]
 simp_arith[aX,cN,Bd,jy,hp]
def srtI:Sp.Iz aD:=⟨λl x=>cQ x l,λl=>(jf l).imp λ{a b} h=>by lia⟩
def KQ(ro sg:Int):List (Int×Int):=(Sp.nums 0 ro).flatMap λa=>(Sp.nums 0 sg).map λb=>(a,b)
def DZ(sg m:Int):(Sp.box sg m).length=m.toNat*(sg.toNat*m.toNat):=by unfold Sp.box;simp[List.length_flatMap,List.map_const',List.sum_replicate_nat]
def HL{ro sg:Int}{m:Nat}{RL:List Rl}{ts:List iN}{es:List Int}(h0:1<=ro)(h1:ro<=3)(h2:1<=sg)(h3:sg<=4)(hm:m<=4)(hl:RL.length<=30)(hr:∀r∈RL,(0<=r.room/\r.room<ro)/\(0<=r.sign/\r.sign<sg)/\(0<=r.to/\r.to<ro)/\r.put.length<=2/\∀x∈r.put,0<=x/\x<sg)
 (A:kM ro sg (ro+m) ts) (ht:ts.length<=9) (he:es.length<=2) (hb:∀e∈es,0<=e/\e<ro+m):∃n' ts' es',jV [.tup [.int ro,.int sg,.lst (RL.map Rl.d)],Mc (ro+m) ts es]=.ok (.gd (Mc n' ts' es'))/\Sp.Fw ro sg (ro+m) (RL.map Lu) ts es n' ts' es'/\ts'.length<=1000/\es'.length<=63:=by
 have lk:(KQ ro sg).length=ro.toNat*sg.toNat:=by unfold KQ;rw[Sp.prod_len,Sp.nums_len,Sp.nums_len];simp
 have lk12:(KQ ro sg).length<=12:=by rw[lk];exact O3 (RR (show ro.toNat<=3 by lia) (show sg.toNat<=4 by lia)) (by decide)
 have lb:(Sp.box sg (ro+m+(KQ ro sg).length)).length<15000000:=by rw[DZ];exact Pp (RR (show _<=19 by lia) (RR (show sg.toNat<=4 by lia) (show _<=19 by lia))) (by decide)
 obtain⟨k,T,pp,x0,xf,x1,x2,x3,x4,x5,x6,x7,x8⟩:=Sp.run (ro:=ro) (n:=ro+m) (sg:=sg) (ks:=KQ ro sg) (RL:=RL.map Lu) (ts:=ts) (es:=es) (by lia) (by lia) lb (by lia) (by lia) (λr h=>by
  obtain⟨q,hq,rfl⟩:=OB.mp h;obtain⟨a,b,c,d,e⟩:=hr q hq;refine⟨c,e,λx y w hw=>?_⟩;have hx:=e x (by show x∈q.put;rw[show q.put=x::y::w from hw];simp);exact Qa.mpr ⟨q.to,Sp.nums_mem c.1 c.2,OB.mpr ⟨x,Sp.nums_mem hx.1 hx.2,rfl⟩⟩) (λa ha=>by
  obtain⟨a1,a2,a3⟩:=A.b a ha;exact⟨⟨a1,a2,by lia,a3.2⟩,a3.1⟩) hb
 have lo:=Sp.outs_len srtI x4 x2.to (by lia) (by lia) (by lia) (p:=15) (q:=16) (by lia) (by lia);have ls:15*(sg.toNat*16)<=960:=by lia
 have lo:(Sp.outs aD T).length<=1000:=by lia
 have le:(aD T.en).length<=63:=by
  have:=Sp.nodup_sub (U:=Sp.nums 0 (ro+m)) (srtI.n T.en) λe he=>by have:=x4.er e ((srtI.m _ _).mp he);exact Sp.nums_mem this.1 this.2
  rw[Sp.nums_len]at this;lia
 obtain⟨z1,z2,z3,z4⟩:=x4.small x3;refine⟨ro+m+T.mi.length,Sp.outs aD T,aD T.en,?_,Sp.run_fw srtI x2 x5 x6 x7,lo,le⟩;have pl:=Be (ro:=ro) (sg:=sg) (n:=ro+m) (RL:=RL) (ts:=ts) (es:=es) (by lia) λt h=>(A.b t h).2.2.1;exact GD (Fr:=aX) (Fm:=cG) ⟨by show[DY ro sg RL,Mc (ro+m) ts es]=[.tup [.int ro,.int sg,.lst ((RL.map Lu).map oM)],_];rw[OP];rfl,by rw[Ov];lia,xf,x1,⟨by lia,λs=>by have:=z2 s;lia,λs g=>by have:=z3 s g;lia,by lia⟩,by lia,marked_ok es (by lia),rfl⟩ pl
end W
namespace W
open PySem L2 L3
section
variable{ns:List Int}{sz ro sg un:Int}{RL:List Rl}{e8 e9 e10:Option Sl}{n:Int}{ts:List iN}{es:List Int}
theorem ji(hl:RL.length<=1000)(ht:ts.length<=1000)(hE:es.length<=1000)(hp:∀r∈RL,r.put.length<=2)(hC:∀r∈RL,∀q,Sp.AccM ts es r.room (r.sign::q)->Sp.AccM ts es r.to (r.put++q)){fr:Bool}:∀(cs:List Int){room:Int}{w:List Int}{e7 e12 e13 e14 e15:Option Sl},Sp.AccM ts es room w->Ir e7 w->w.length+cs.length<=10000->
 ∃room' w' e7' e12' e13' e14',ff (gN 12) fr jx (cs.map .int) (iQ ns sz ro sg un RL room e7 e8 e9 e10 (Mc n ts es) e12 e13 e14 e15)=.ok (.nx (iQ ns sz ro sg un RL room' e7' e8 e9 e10 (Mc n ts es) e12' e13' e14' e15))/\Sp.AccM ts es room' w'/\Ir e7' w'/\w'.length<=w.length+cs.length
 |[],room,w,e7,e12,e13,e14,e15,ha,h7,_=>⟨room,w,e7,e12,e13,e14,rfl,ha,h7,by simp⟩
 |c::cs,room,w,e7,e12,e13,e14,e15,ha,h7,hw=>by rw[OV]at hw;obtain⟨r1,w1,a7,a13,a14,q1,h1,l1,i1⟩:=DW (ns:=ns) (sz:=sz) (ro:=ro) (sg:=sg) (un:=un) (e8:=e8) (e9:=e9) (e10:=e10) (n:=n) (e13:=e13) (e14:=e14) (e15:=e15) (c:=c) (f12:=fr) hl ht hE hp hC ha (by lia) h7;obtain⟨r2,w2,b7,b12,b13,b14,q2,h2,i2,l2⟩:=ji hl ht hE hp hC (fr:=fr) cs (room:=r1) (w:=w1) (e7:=a7) (e12:=vv (.int c) fr) (e13:=a13) (e14:=a14) (e15:=e15) h1 i1 (by lia);refine⟨r2,w2,b7,b12,b13,b14,?_,h2,i2,by rw[OV];lia⟩;rw[OH,Hq (env1:=iQ ns sz ro sg un RL room e7 e8 e9 e10 (Mc n ts es) (vv (.int c) fr) e13 e14 e15) rfl,q1,fI,wl];exact q2
def HM(hl:RL.length<=1000)(ht:ts.length<=1000)(hes:es.length<=63)(hp:∀r∈RL,r.put.length<=2)(hC:∀r∈RL,∀q,Sp.AccM ts es r.room (r.sign::q)->Sp.AccM ts es r.to (r.put++q)){room:Int}{w:List Int}(ha:Sp.AccM ts es room w)(hw:w.length<=10)(hn:ns.length<=63){e7:Option Sl}(h7:Ir e7 w) :
 oE (mV (iQ ns sz ro sg un RL room e7 e8 e9 e10 (Mc n ts es) none none none none))=.ok (.val (.bl true) true []):=by
 have cl:=mP ns (some un) (some (un+60));obtain⟨room',w',e7',e12',e13',e14',q,h,i7,lw0⟩:=ji (ns:=ns) (sz:=sz) (ro:=ro) (sg:=sg) (un:=un) (e8:=e8) (e9:=e9) (e10:=e10) (n:=n) (fr:=true) hl ht (by lia) hp hC (cA ns (some un) (some (un+60))) (e12:=none) (e13:=none) (e14:=none) (e15:=none) ha h7 (by lia);have lw:w'.length<=100000:=by lia
 obtain⟨b,hT,hb⟩:=Bb (n:=n) (room:=room') (ts:=ts) (es:=es) (st:=w') ht (by lia) lw;obtain rfl:b=true:=hb.mpr h;have fM:=jy n ts es;have s1:nE (md (fW (am 0) (fF (am 4)) (fF (v2 eZ (am 4) (vC (.int 60)))))) (gN 12) jx (iQ ns sz ro sg un RL room e7 e8 e9 e10 (Mc n ts es) none none none none)=.ok (.nx (iQ ns sz ro sg un RL room' e7' e8 e9 e10 (Mc n ts es) e12' e13' e14' none)):=by
  have hs:md (fW (am 0) (fF (am 4)) (fF (v2 eZ (am 4) (vC (.int 60))))) (iQ ns sz ro sg un RL room e7 e8 e9 e10 (Mc n ts es) none none none none)=.ok ⟨(cA ns (some un) (some (un+60))).map .int,true,[]⟩:=by unfold iQ;simp_arith[mO,aZ]
  rw[EJ,hs,fI,AO,AS];exact q
 unfold mV;rw[eM,s1,fI,jo];unfold sV sU iQ;rcases i7 with rfl|rfl
 .simp_arith[fM,hT]
 .simp_arith[fM,hT]
end
section
variable{ns:List Int}{sz ro sg un:Int}{RL:List Rl}{room:Int}{w:List Int}
def HN(n:Int)(ts:List iN)(es:List Int):(Mc n ts es).dep<=5:=by unfold Mc;have h1:=mQ (xs:=ts) HH;have h2:=oU es;simp only[D.dep,D.ie];lia
def KR(h0:1<=ro)(h1:ro<=3)(h2:1<=sg)(h3:sg<=4)(hl:RL.length<=30)(hr:∀r∈RL,(0<=r.room/\r.room<ro)/\(0<=r.sign/\r.sign<sg)/\(0<=r.to/\r.to<ro)/\r.put.length<=2/\∀x∈r.put,0<=x/\x<sg)
 (hrm:0<=room/\room<ro) (hw:∀x∈w,0<=x/\x<sg) (hwl:w.length<=4) (hn:ns.length<=63) {e7:Option Sl} (q7:e7=vv (.lst (w.map .int)) true) :
 oE (qC [vv (.lst (ns.map .int)) false,vv (.int sz) true,vv (.int ro) true,vv (.int sg) true,vv (.int un) true,some (.own (RL.map Rl.d) true),vv (.int room) true,e7,none,none,none,none,none,none,none,none])=.ok (.val (.bl true) true []):=by
 subst q7;obtain⟨ts,es,hM,A,t1,t2,t3,t4⟩:=tp (w:=w) hrm (by lia) h2 (by lia) hw hwl (cell ns 3);obtain⟨n',ts',es',hF,F,u1,u2⟩:=HL h0 h1 h2 h3 hwl hl hr A t1 t2 t3;have acc:=F.mono t4;obtain⟨b,hb,hbi⟩:=ti (n:=n') (room:=room) (ts:=ts') (es:=es') (st:=w) u1 (by lia) (by lia);obtain rfl:b=true:=hbi.mpr acc;have f1:=jy (ro+w.length) ts es;have f2:=jy n' ts' es';have fR:D.aY (RL.map Rl.d)=true:=bZ _ _ Rl.flat;have fT:D.aY (ts.map tD)=true:=bZ _ _ wz;have d1:=HN (ro+w.length) ts es;have d2:D.dep (.tup [.int ro,.int sg,.lst (RL.map Rl.d)])<=50:=by have:=mQ (xs:=RL) Rl.dep;simp only[D.dep,D.ie];lia
 have ne1:∀f f' al al',Em (.val (Mc (ro+w.length) ts es) f al) (.val (Mc (ro+w.length) ts es) f' al')=.ok (.val (.bl false) true []):=λf f' al al'=>by rw[J3 (by rw[cB];lia) (by rw[cB];lia),cB,cB,gA];rfl
 have ne2:∀f f' al al',Em (.val (.tup [.int ro,.int sg,.lst (RL.map Rl.d)]) f al) (.val (.tup [.int ro,.int sg,.lst (RL.map Rl.d)]) f' al')=.ok (.val (.bl false) true []):=λf f' al al'=>by rw[J3 (by rw[cB];exact d2) (by rw[cB];exact d2),cB,cB,gA];rfl
 have L:=λe8 e9 e10=>HM (ns:=ns) (sz:=sz) (ro:=ro) (sg:=sg) (un:=un) (e8:=e8) (e9:=e9) (e10:=e10) (n:=n') (RL:=RL) (room:=room) (w:=w) (e7:=vv (.lst (w.map .int)) true) (by lia) u1 u2 (λr h=>(hr r h).2.2.2.1) (λr h q hq=>F.c (Lu r) (List.mem_map_of_mem h) (hr r h).2.2.2.1 q hq) acc (by lia) hn (.inl rfl);unfold iQ at L;unfold Mc at hM hF ne1 f1 hb f2 L;have kT:∀g1 g2,sn (.val (.int (ro+(w.length:Int))) true []) (.new (ts.map tD) g1) (.new (es.map .int) g2)=.ok (.gd (.tup [.int (ro+(w.length:Int)),.lst (ts.map tD),.lst (es.map .int)])):=λg1 g2=>Hx rfl fT (aZ es);simp_arith[qC,wq,sY,sX,sW,KO,hM,f1,fR,fT,aZ,DM,u3,wf,hF,f2,ne1,ne2,hb,kT];exact L _ _ _
end
def vc{e0 e1 e4:Option Sl}{rooms signs:Int}{g1 g2 fr:Bool}{es:List (Option Sl)}(h1:0<rooms)(h2:rooms<1073741824)(h3:0<signs)(h4:signs<1073741824)(xs:List Int)(hl:xs.length<=1000000) :
 oR 1 [2,3] (gN 0) (λ_=>.ok true) jv (e0::e1::some (.val (.int rooms) g1)::some (.val (.int signs) g2)::es) ⟨xs.map .int,fr,[]⟩=.ok (.new ((xs.map λc=>cT c rooms signs).map Rl.d) true):=by
 have h:=hW (mk:=λd=>gN 0 d fr (gF (e0::e1::some (.val (.int rooms) g1)::some (.val (.int signs) g2)::es) 1 [2,3])) (test:=λ_=>.ok true)
  (elt:=jv) D.int (λc=>.val (cT c rooms signs).d true []) xs λc hc=>⟨_,rfl,rfl,by show jv [some (.val (.int c) fr),some (.val (.int rooms) g1),some (.val (.int signs) g2)]=_;simp_arith[jv,DQ,h1,h2,h3,h4,Rl.flat]⟩
 rw[lq (by rw[Ov];exact hl) h,wn,mR,mL (bZ _ _ λc=>Rl.flat _),OP];rfl
def Oi(c ro sg:Int)(h0:1<=ro)(h2:1<=sg):(0<=(cT c ro sg).room/\(cT c ro sg).room<ro)/\(0<=(cT c ro sg).sign/\(cT c ro sg).sign<sg)/\(0<=(cT c ro sg).to/\(cT c ro sg).to<ro)/\(cT c ro sg).put.length<=2/\∀x∈(cT c ro sg).put,0<=x/\x<sg:=by
 have m:∀a b:Int,1<=b->0<=a%b/\a%b<b:=λa b h=>⟨PZ _ (by lia),Pw _ (by lia)⟩;refine⟨m _ _ h0,m _ _ h2,m _ _ h0,u5 c ro sg,λx hx=>?_⟩;have:=A6 _ _ _ x hx;simp at this;rcases this with rfl|rfl
 .exact m _ _ h2
 .exact m _ _ h2
def KS{ns:List Int}{sz ro sg un:Int}(h0:1<=ro)(h1:ro<=3)(h2:1<=sg)(h3:sg<=4)(hu:4<=un/\un<=28)(hn:ns.length<=63) :
 oE (qD [vv (.lst (ns.map .int)) false,vv (.int sz) true,vv (.int ro) true,vv (.int sg) true,vv (.int un) true,none,none,none,none,none,none,none,none,none,none,none])=.ok (.val (.bl true) true []):=by
 have b1:0<ro:=by lia
 have b2:ro<1073741824:=by lia
 have b3:0<sg:=by lia
 have b4:sg<1073741824:=by lia
 have hc:=λfr=>vc (e4:=none) (e0:=vv (.lst (ns.map .int)) false) (e1:=vv (.int sz) true) (g1:=true) (g2:=true) (fr:=fr) (es:=[vv (.int un) true,none,none,none,none,none,none,none,none,none,none,none]) b1 b2 b3 b4 (cA ns (some 4) (some un)) (by have:=mP ns (some 4) (some un);lia);have hcl:(cA ns (some 4) (some un)).length<=30:=by
  unfold cA;rw[PQ,Rg];have e1:HT.sIx ns.length 0 (some 4)=min 4 ns.length:=by simp[HT.sIx]
  have e2:HT.sIx ns.length ns.length (some un)=min un.toNat ns.length:=by simp[HT.sIx];lia
  rw[e1,e2];lia
 obtain⟨w,w1,w2,hS⟩:=Bc h2 (by lia) (cell ns 2);have r0:=PZ (cell ns 1) (show ro≠0 by lia);have r1:=Pw (cell ns 1) b1;have L:=KR (ns:=ns) (sz:=sz) (un:=un) (RL:=(cA ns (some 4) (some un)).map λc=>cT c ro sg) (room:=cell ns 1%ro) (w:=w) h0 h1 h2 h3 (by rw[Ov];exact hcl) (λr hr=>by obtain⟨c,_,rfl⟩:=OB.mp hr;exact Oi c ro sg h0 h2) ⟨r0,r1⟩ w2 w1 hn rfl;simp_arith[qD,wu,wt,mO,aZ,hc,KM,KN,b1,b2,hS];exact L
def HP(ns:List Int)(hl:ns.length<=63):sZ [.lst (ns.map .int)]=.ok (.val (.bl true) true []):=by
 have c0:=DO ns 0;generalize hq:(1:Int)+(if(if((ns.length:Int)-4)/2>0 then((ns.length:Int)-4)/2 else 0)<24 then(if((ns.length:Int)-4)/2>0 then((ns.length:Int)-4)/2 else 0)else 24)=q;have q0:1<=q/\q<=25:=by rw[<- hq];split<;>split<;>lia
 have b1:0<q:=by lia
 have b2:q<1073741824:=by lia
 have r0:=PZ (cell ns 0/12) (show q≠0 by lia);have r1:=Pw (cell ns 0/12) b1;have L:=KS (ns:=ns) (sz:=cell ns 0) (ro:=1+cell ns 0%3) (sg:=1+cell ns 0/3%4) (un:=4+cell ns 0/12%q) (by lia) (by lia) (by lia) (by lia) (by lia) hl;simp_arith[sZ,EM,wy,wx,ww,KL,Ov,hq,b1,b2];exact L
end W
open PySem PySem.W PyProof.Rows
set_option maxRecDepth 100000 in
set_option maxHeartbeats 0 in
theorem PySem.Challenge.cw_callwalk_k33_whole_runs_stay_inside_holds : PySem.Challenge.rw_callwalk_k33_whole_runs_stay_inside.Holds := by
 w_on;refine PySem.W.Ea ?_
 k_fill
 refine L2.zt (l:=PySem.Challenge.rw_callwalk_k33_whole_runs_stay_inside) (n:=63) (k:=8) (x:="_law_script") (CX:=fun w=>L2.iT) (sp:=fun _=>L3.Ll W.sZ) rfl (by decide) rfl ⟨rfl,by decide,by decide⟩ (fun w h Y=>PySem.W.kIn_of Y) ?kL ?F ?S ?C
 case kL=>exact fun w=>⟨by rfl,by rfl⟩
 case F=>
  intro w mg fa h KX G hmg
  refine' Exists.imp (fun _ z=>⟨z.1,fun base _ _=>z.2 base⟩) (W.HG hmg ?_)
  refine' (W.KJ KX G L2.xl (L4.fk ?_ ?_ ?_) (L4.fk ?_ ?_ ?_) (L4.fk ?_ ?_ ?_) (L4.fk ?_ ?_ ?_) (L4.fk ?_ ?_ ?_) (L4.fk ?_ ?_ ?_) (L4.fk ?_ ?_ ?_) (L4.fk ?_ ?_ ?_) (L4.fk ?_ ?_ ?_) (L4.fk ?_ ?_ ?_) (L4.fk ?_ ?_ ?_) (L4.fk ?_ ?_ ?_) (L4.fk ?_ ?_ ?_) (L4.fk ?_ ?_ ?_) (L4.fk ?_ ?_ ?_) ?_ ?_ ?_ ?_ ?_ ?_ ?_ ?_ ?_ ?_ ?_ ?_ ⟨?_,?_,?_,?_,?_,?_,?_⟩ ?_ ?_ ?_ ?_ ?_ ?_ ?_ (L4.mk ?_ ?_ ?_ ?_ ?_) (L4.mk ?_ ?_ ?_ ?_ ?_) (L4.mk ?_ ?_ ?_ ?_ ?_) (L4.mk ?_ ?_ ?_ ?_ ?_) (L4.mk ?_ ?_ ?_ ?_ ?_) (L4.mk ?_ ?_ ?_ ?_ ?_) (L4.mk ?_ ?_ ?_ ?_ ?_))
  all_goals try k_is
 case S=>exact fun w H a ns hl hS=>L3.F9 (fun ns hn=>⟨_,_,W.HP ns hn⟩) H a ns hl hS
 case C=>exact fun _ _ _ _ _ z=>z
