import PyProof.Rows.All
import Wide.All
import OpenK.AllK
import PySem.Challenge.RW_callwalk_k20_not_plain
section
open PySem PySem.W PyProof.Rows
def PySem.W.Vw:Program:={PySem.Challenge.pw_callwalk_k20_not_plain with main:={PySem.Challenge.pw_callwalk_k20_not_plain.main with body:=PySem.Challenge.pw_callwalk_k20_not_plain.main.body.filter fun s=>match s with|.FunctionDef n ..=>!(["way"]:List Str).contains n|.ClassDef ..=>true|_=>false}}
local macro_rules | `(tactic| o_head $H) => `(tactic| refine holds_open (q := PySem.W.Vw) (loose := ["way"]) (Xt := fun s => xlAt PySem.W.Vw [] s && recOk (RowW.records PySem.Challenge.rw_callwalk_k20_not_plain.row.toRowW) s) (XP := XL PySem.W.Vw []) (Yf := Hook.obs $H) (Ya := Hook.val $H) (YP := Hook.says $H) (N := 4900) (fun w => by kernel_rfl) (Hook.of $H) (Hook.keeps $H) (fun s e => xl_of s (Bool.and_eq_true_iff.mp e).1) XL.keeps (by rfl) (by rfl) (by rfl) (fun s e => recFacts_of (Bool.and_eq_true_iff.mp e).2) (by rfl) (by first | assumption | decide +kernel) (by decide +kernel) ⟨rfl, rfl, rfl, rfl, rfl, by decide +kernel⟩ ?_ ?_)
set_option Elab.async false
set_option maxRecDepth 100000
set_option maxHeartbeats 0
def PySem.W.Ea:=fun hc=>(by
 w_on;o_law;k_head;(· w_witness2)
 exact hc:PySem.Challenge.rw_callwalk_k20_not_plain.Holds)
end
set_option autoImplicit true
set_option Elab.async false
set_option linter.all false
set_option genSizeOf false
set_option genSizeOfSpec false
set_option compiler.extract_closed false
set_option maxRecDepth 100000
set_option maxHeartbeats 4000000
set_option bootstrap.genMatcherCode false
noncomputable section
open PySem.W(instObj hideAll lookIn plainGet hasDictIn isFn plainOver makesIn emptyDict keepIn kitOne fnOf codeIn excIn nsIn)
abbrev bj:=@PySem.wpAny_bind
abbrev bE:=@PySem.Heap.get?_push_of_some
abbrev bK:=@Nat.le_refl
abbrev bY:=@PySem.wpAny_pure
abbrev b_:=@if_pos
abbrev cg:=@List.mem_cons_of_mem
abbrev ci:=@List.getElem?_eq_some_iff
abbrev cC:=@List.mem_cons
abbrev cD:=@PySem.Heap.lt_size
abbrev cE:=@List.mem_cons_self
abbrev cF:=@if_neg
abbrev cG:=@List.length_map
abbrev cP:=@List.size_toArray
abbrev cQ:=@PySem.Heap.get?_push_size
abbrev cS:=@List.mem_iff_getElem?
abbrev du:=@List.not_mem_nil
abbrev dv:=@Bool.false_eq_true
abbrev dz:=@List.map_cons
abbrev d7:=@List.mem_map
abbrev e_:=@Nat.ne_of_lt
abbrev fD:=@List.mem_append
abbrev fM:=@Nat.lt_of_lt_of_le
abbrev fU:=@List.length_cons
abbrev gA:=@List.pairwise_iff_getElem
abbrev gC:=@Nat.le_trans
abbrev gV:=@List.length_append
abbrev gW:=@PySem.W.mg_of
abbrev io:=@decide_eq_true
abbrev ip:=@List.mem_singleton
abbrev iq:=@List.getElem?_map
abbrev jg:=@List.getElem?_set_self
abbrev jh:=@Bool.and_eq_true
abbrev ji:=@List.getElem?_set_ne
abbrev jj:=@List.mem_append_right
abbrev jk:=@Array.getElem?_toList
abbrev jl:=@List.mem_range
abbrev jT:=@Nat.zero_le
abbrev jV:=@PySem.W.mg_none_of
abbrev jX:=@List.mem_append_left
abbrev jY:=@PySem.sizeLine_eq
abbrev j3:=@List.nodup_nil
abbrev j5:=@List.nodup_cons
abbrev kg:=@List.map_map
abbrev kU:=@List.mem_of_getElem?
abbrev kW:=@decide_eq_false
abbrev kY:=@Option.some.inj
abbrev mC:=@PySem.wpAny_mono
abbrev mD:=@PyProof.Rows.slot_tuple_getitem
abbrev mJ:=@List.getElem?_eq_getElem
abbrev nT:=@Nat.lt_of_le_of_lt
abbrev nU:=@List.getElem?_append_right
abbrev nV:=@PySem.F.plainAttrs_dict
abbrev oC:=@PySem.W.kia_one
abbrev qm:=@List.take_of_length_le
abbrev qu:=@PySem.wpAny_holding
abbrev qz:=@PySem.F.slot_dict_setdefault
abbrev qB:=@if_false
abbrev qU:=@Array.length_toList
abbrev qV:=@PySem.Heap.SameBut.update
abbrev sk:=@List.all_eq_true
abbrev t7:=@of_decide_eq_true
abbrev t8:=@PySem.wpAny_setState_of
abbrev vG:=@Ne.symm
abbrev vN:=@Bool.false_ne_true
abbrev vP:=@List.mem_filter
abbrev vQ:=@PyProof.Rows.F.plain_set_update_loop
abbrev vS:=@Nat.shiftRight_eq_div_pow
abbrev vU:=@PySem.wpAny_call_entry
abbrev vV:=@List.map_congr_left
abbrev vW:=@PySem.Heap.get?_update_self
abbrev xB:=@PyProof.Rows.callWith_type1
abbrev Df:=@List.mem_filterMap
abbrev Do:=@List.map_append
abbrev Dp:=@List.length_eq_zero_iff
abbrev Dt:=@Int.eq_ofNat_of_zero_le
abbrev Dv:=@List.mem_of_mem_take
abbrev Gn:=@Array.getElem?_eq_some_iff
abbrev Gp:=@PySem.Heap.get?_update_other
abbrev Gr:=@Option.map_eq_some_iff
abbrev Gs:=@PySem.mem_of_lookup
abbrev Gw:=@PySem.wpAny_newObj_type
abbrev Gx:=@Classical.byContradiction
abbrev Gy:=@List.getElem?_append_left
abbrev Jv:=@List.append_nil
abbrev Jx:=@PySem.F.slot_dict_get
abbrev Jy:=@List.getElem?_eq_none
abbrev JF:=@List.pairwise_cons
abbrev JI:=@PySem.F.slot_list_append
abbrev KE:=@PySem.F.type_list_append
abbrev NZ:=@Int.emod_lt_of_pos
abbrev N0:=@List.length_take
abbrev N6:=@Bool.not_true
abbrev N8:=@PySem.F.plainAttrs_list
abbrev OY:=@Nat.add_sub_cancel_left
abbrev OZ:=@PySem.F.type_dict_setdefault
abbrev O0:=@List.Perm.refl
abbrev O1:=@List.take_add_one
abbrev O2:=@decide_eq_true_eq
abbrev O3:=@PySem.wpAny_execs_nil
abbrev O4:=@List.find?_cons
abbrev O5:=@PySem.Calls.callWith_builtin
abbrev O6:=@PySem.Calls.spliced_cons
abbrev O7:=@PySem.wpAny_Call_Name_kw
abbrev O8:=@List.take_append_drop
abbrev O9:=@PySem.Calls.evalArgs_plain
abbrev O_:=@PySem.wpAny_passesOwn
abbrev Pa:=@PySem.codeAny_builtin
abbrev Pb:=@List.nodup_append
abbrev Pc:=@List.pairwise_map
abbrev Pd:=@List.Pairwise.imp_of_mem
abbrev Pe:=@List.append_assoc
abbrev Pf:=@List.foldl_append
abbrev Pg:=@List.length_set
abbrev Ph:=@List.foldl_cons
abbrev Pi:=@PySem.PassesOwn.never
abbrev Pj:=@Int.emod_nonneg
abbrev Pk:=@List.map_nil
abbrev Pl:=@Int.le_trans
abbrev Pn:=@Nat.lt_irrefl
abbrev Po:=@List.filterMap_cons
abbrev Pp:=@congrArg
abbrev Pq:=@PySem.wpAny_callSpecial?_slot
abbrev Ps:=@Nat.lt_succ_self
abbrev Pt:=@List.nodup_range
abbrev Pu:=@List.lookup_cons
abbrev Pw:=@beq_iff_eq
abbrev Px:=@PySem.Heap.size_push
abbrev Py:=@PySem.F.entry_dict_get
abbrev PB:=@Bool.eq_iff_iff
abbrev PF:=@PySem.wpAny_truthy_bool
abbrev PH:=@PySem.Calls.spliced_nil
abbrev PJ:=@Nat.lt_succ_of_lt
abbrev PK:=@List.length_range
abbrev PL:=@List.flatMap_cons
abbrev PN:=@Int.fdiv_eq_ediv_of_nonneg
abbrev PP:=@PySem.Obj.data_mapDictKeys
abbrev PQ:=@List.mem_iff_getElem
abbrev PR:=@List.getElem?_zip_eq_some
abbrev PU:=@PyProof.Rows.F.entry_set_update_loop
abbrev PV:=@Nat.mul_le_mul
abbrev PX:=@List.length_drop
abbrev PY:=@List.filter_cons
abbrev PZ:=@if_true
abbrev P0:=@beq_eq_false_iff_ne
abbrev P3:=@PySem.codeAny_mono
abbrev P7:=@PySem.W.callWith_K
abbrev P8:=@PySem.tupleKind_room_in1
abbrev P9:=@PySem.W.KasT.kasWp_bind
abbrev P_:=@List.getElem?_replicate
abbrev Qa:=@PySem.wpAny_pyIter_list
abbrev Qb:=@Nat.lt_trichotomy
abbrev Qc:=@bne_self_eq_false
abbrev Qd:=@List.ext_getElem?
abbrev Qe:=@Nat.le_of_lt
abbrev Qf:=@List.length_replicate
abbrev Qg:=@PySem.wpAny_typeOf
abbrev Qh:=@List.length_singleton
abbrev Qi:=@PySem.call_meetsIn
abbrev Qj:=@PySem.F.args_dict_setdefault_3
abbrev Qk:=@List.set_getElem_self
abbrev Ql:=@Int.le_of_lt
abbrev Qm:=@PySem.wpAny_execs_cons
abbrev Qn:=@PySem.F.entry_dict_setdefault
abbrev Qo:=@List.eq_nil_of_length_eq_zero
abbrev Qp:=@PySem.codeAny_call_builtin
abbrev Qq:=@List.mem_of_mem_drop
abbrev Qr:=@List.pairwise_append
abbrev Qs:=@PySem.Around.under_plainId
abbrev Qu:=@List.length_take_le'
abbrev Qw:=@PySem.Paired.length
abbrev Qx:=@List.length_nil
abbrev Qy:=@PySem.W.plainGet_of
abbrev Qz:=@Nat.add_le_add_left
abbrev QA:=@Bool.or_eq_true
abbrev QB:=@List.length_pos_iff
abbrev QC:=@Nat.mul_le_mul_left
abbrev QD:=@PySem.W.of_hideAll
abbrev QE:=@Nat.ne_of_gt
abbrev QF:=@Nat.le_of_eq
abbrev QG:=@Nat.lt_or_gt_of_ne
abbrev QH:=@Bool.false_and
abbrev QI:=@PySem.boot_len
abbrev QJ:=@PySem.W.kitx_dict
abbrev QK:=@PySem.wpAny_call
abbrev QL:=@Int.toNat_natCast
abbrev QM:=@Nat.le_of_lt_succ
abbrev QN:=@List.getElem?_inj
abbrev QO:=@List.any_cons
abbrev QP:=@Bool.and_self
abbrev QQ:=@List.sum_cons
abbrev QR:=@Nat.mul_add
abbrev QS:=@List.perm_middle
abbrev QT:=@Nat.add_comm
abbrev QU:=@Nat.mod_lt
abbrev QV:=@Prod.ext
abbrev QW:=@or_false
abbrev QX:=PySem.Shared
abbrev QY:=PySem.W.Frag
abbrev QZ:=PySem.Program
abbrev Q0:=PySem.Value
abbrev Q1:=PySem.Around
def Q9(h : True := by rfl) : True := h
def Rc:Lean.Syntax:=Q9._auto_1
def Q2(h : True := by decide) : True := h
def Q_:Lean.Syntax:=Q2._auto_1
def Q7(h : ∀u : Unit, u = u := by intro _; rfl) : True := True.intro
def Rb:Lean.Syntax:=Q7._auto_1
def Q3(h : True := by first|exact .inl rfl|exact .inr rfl|assumption) : True := h
def Ra:Lean.Syntax:=Q3._auto_1
def Q5(h : True := by first|exact Or.inl rfl|exact Or.inr (Or.inl rfl)|exact Or.inr (Or.inr rfl)) : True := h
def Q8(h : True := by intro _ _; rfl) : True := h

namespace L2
open PySem PySem.Spec PyProof.Rows
noncomputable abbrev cJ:=Sum Int Str
noncomputable def lK:cJ->Q0->Bool
 |.inl k,v=>Value.isInt k v
 |.inr x,v=>Value.isStrOf x v
noncomputable def MT(w:World):cJ->Int
 |.inl k=>hashInt k
 |.inr x=>hashStr w x
def bx:∀{k:cJ}{v:Q0},lK k v=true->(∃i t,k=Sum.inl i/\v=Value.int i t)\/(∃x t,k=Sum.inr x/\v=Value.str x t)
 |.inl i,v,h=>by obtain⟨t,e⟩:=Value.isInt_shape (k:=i) (v:=v) h;exact .inl ⟨i,t,rfl,e⟩
 |.inr x,v,h=>by obtain⟨t,e⟩:=Value.isStrOf_shape (x:=x) (v:=v) h;exact .inr ⟨x,t,rfl,e⟩
def yJ(i:Int)(t:Tok):lK (.inl i) (.int i t)=true:=by simp[lK,Value.isInt]
def yK(x:Str)(t:Tok):lK (.inr x) (.str x t)=true:=by simp[lK,Value.isStrOf]
def GC(a b:Int):decide ((Sum.inl a:cJ)=Sum.inl b)=(a==b):=by grind
def GD(a b:Str):decide ((Sum.inr a:cJ)=Sum.inr b)=decide (a=b):=by grind
def GE(a:Int)(b:Str):decide ((Sum.inl a:cJ)=Sum.inr b)=false:=kW (λq=>nomatch q)
def GF(a:Str)(b:Int):decide ((Sum.inr a:cJ)=Sum.inl b)=false:=kW (λq=>nomatch q)
def aJ(prog:QZ)(w:World):PySem.KeyKind prog w cJ where
 is:=lK
 hash:=MT w
 inj:=λv a b ha hb=>by
  rcases bx ha with⟨i,t,rfl,rfl⟩|⟨x,t,rfl,rfl⟩
  .rcases bx hb with⟨j,u,rfl,e⟩|⟨y,u,rfl,e⟩
   .injection e with e1 _;rw[e1]
   .exact nomatch e
  .rcases bx hb with⟨j,u,rfl,e⟩|⟨y,u,rfl,e⟩
   .exact nomatch e
   .injection e with e1 _;rw[e1]
 byValue:=λk v h=>by rcases bx h with⟨i,t,rfl,rfl⟩|⟨x,t,rfl,rfl⟩<;>rfl
 pyHash:=λhv h=>by
  rcases bx hv with⟨i,t,rfl,rfl⟩|⟨x,t,rfl,rfl⟩
  .exact wpAny_pyHash_int h
  .exact wpAny_pyHash_str h
 eqBool:=λhu hv h=>by
  rcases bx hu with⟨i,t,rfl,rfl⟩|⟨x,t,rfl,rfl⟩
  .rcases bx hv with⟨j,u,rfl,rfl⟩|⟨y,u,rfl,rfl⟩
   .rw[GC]at h;exact wpAny_eqBool_int h
   .rw[GE]at h;exact SeqAt.EqAt.int_str i t y u _ _ _ _ h
  .rcases bx hv with⟨j,u,rfl,rfl⟩|⟨y,u,rfl,rfl⟩
   .rw[GF]at h;exact SeqAt.EqAt.str_int x t j u _ _ _ _ h
   .rw[GD]at h;exact wpAny_eqBool_str h
 «strs»:=λk x t v h=>by
  rcases bx h with⟨i,u,rfl,e⟩|⟨y,u,rfl,e⟩
  .exact nomatch e
  .injection e with e1 _;subst e1;cases v<;>rfl
def ug(prog:QZ)(w:World)(i:Int)(t:Tok):(aJ prog w).is (.inl i) (.int i t)=true:=yJ i t
def uh(prog:QZ)(w:World)(x:Str)(t:Tok):(aJ prog w).is (.inr x) (.str x t)=true:=yK x t
inductive V where
 |bL|bl (b:Bool)|int (i:Int)|str (x:Str)|Am (b:Array UInt8)|Gk (b:UInt64)|ref (a:Addr)|ty (n:String)
 deriving DecidableEq
noncomputable def RelV:V->Q0->Prop
 |.bL,u=>u=Value.none
 |.bl b,u=>u=Value.bool b
 |.int i,u=>∃t,u=Value.int i t
 |.str x,u=>∃t,u=Value.str x t
 |.Am b,u=>∃t,u=Value.bytes b t
 |.Gk b,u=>∃t,u=Value.float b t
 |.ref a,u=>u=Value.ref a
 |.ty n,u=>u=Value.type n
abbrev Vals:List V->List Q0->Prop:=Paired RelV
theorem Vals.length(r:Vals xs us):xs.length=us.length:=Qw r
theorem Vals.get:∀{xs:List V}{us:List Q0}{i:Nat}{x:V},Vals xs us->xs[i]?=some x->∃u,us[i]?=some u/\RelV x u
 |_,_,_,_,.nil,e=>by simp at e
 |_,_,0,_,.cons r _,e=>by simp at e;subst e;exact⟨_,rfl,r⟩
 |_,_,i+1,x,.cons _ t,e=>by obtain⟨u,h1,h2⟩:=Vals.get (i:=i) (x:=x) t (by simpa using e);exact⟨u,by simpa using h1,h2⟩
theorem Vals.append:∀{xs ys:List V}{us ws:List Q0},Vals xs us->Vals ys ws->Vals (xs++ys) (us++ws)
 |_,_,_,_,.nil,s=>s
 |_,_,_,_,.cons r t,s=>.cons r (Vals.append t s)
theorem Vals.take:∀{xs:List V}{us:List Q0}(n:Nat),Vals xs us->Vals (xs.take n) (us.take n)
 |_,_,0,_=>.nil
 |_,_,_+1,.nil=>.nil
 |_,_,n+1,.cons r t=>.cons r (Vals.take n t)
theorem Vals.drop:∀{xs:List V}{us:List Q0}(n:Nat),Vals xs us->Vals (xs.drop n) (us.drop n)
 |_,_,0,r=>r
 |_,_,_+1,.nil=>.nil
 |_,_,n+1,.cons _ t=>Vals.drop n t
def RelO:Option V->Option Q0->Prop
 |some v,some u=>RelV v u
 |none,none=>True
 |_,_=>False
def KV{κ:Type}:List (κ×V)->List (κ×Q0)->Prop:=Paired λ(p:κ×V)(q:κ×Q0)=>p.1=q.1/\RelV p.2 q.2
noncomputable def kV:cJ->V
 |.inl i=>.int i
 |.inr x=>.str x
inductive HO where
  
 |lst (xs:List V)
  
 |tup (xs:List V)
  
 |dK (kvs:List (cJ×V))|dT (kvs:List (List cJ×V))
  
 |set (S:Int->Bool) (n:Nat)
  
 |ins (C dx:Addr) (fs:List (Str×V))
  
 |own (x:Addr)
  
 |xd (fs:List (Str×V))
  
 |met (f x:Addr)
  
 |MR (lo hi:Int)
  
 |cV (o:Obj) (u:HO)
  
 |Di (ps:Array Q0)
  
 |ext (φ:Heap->Prop)
noncomputable abbrev Hp:=Addr->Option HO
noncomputable def aY(H:Hp)(a:Addr)(o:HO):Hp:=λb=>if b=a then some o else H b
def aw:aY H a o a=some o:=by unfold aY;rw[b_ rfl]
theorem aj(h:b≠a):aY H a o b=H b:=by unfold aY;rw[cF h]
def Aw{H:Hp}(h:H a=some o)(h':H b=some u)(d:o≠u):a≠b:=by intro e;subst e;rw[h]at h';exact d (kY h')
def ay{H:Hp}(h:H a=some o)(h':H b=none):a≠b:=by intro e;subst e;rw[h]at h';cases h'
section
variable(P:QZ)(w:World)
def ObjOk(H:Hp)(h:Heap)(a:Addr):HO->Prop
 |.lst xs=>xs.length<=sizeLine/\∃(its:List Q0)(n:Nat),Vals xs its/\h.get? a=some { cls:=.type "list",data:=.seq its.toArray n }
 |.tup xs=>xs.length<=sizeLine/\∃its:List Q0,Vals xs its/\IsTup h a its.toArray
 |.dK kvs=>kvs.length<=sizeLine/\(a==sysModules)=false/\∃vs,KV kvs vs/\h.DictOf (aJ P w) a vs
 |.dT kvs=>kvs.length<=sizeLine/\(a==sysModules)=false/\∃xs:List (List cJ×Addr×Q0),
  Paired (λ(p:List cJ×V)(q:List cJ×Addr×Q0)=>p.1=q.1/\H q.2.1=some (.tup (p.1.map kV))/\RelV p.2 q.2.2) kvs xs/\
  ∃o es ep,h.get? a=some o/\o.ExactDict/\o.data=.dict es ep/\es.toList=xs.map (entryOfKey (tupleKind (aJ P w)))/\(xs.map (·.1)).Nodup
 |.set S n=>h.SetOf (intKind P w) a S n
 |.ins C dx fs=>H dx=some (.own a)/\fs.length<=1000/\dx≠a/\h.get? a=some (instObj C dx)/\
  ∃mA,h.Ns1 dx mA/\(∀f,RelO (fs.lookup f) (mA f))/\PySem.Within mA (fs.map (·.1))
 |.own _=>∃o,h.get? a=some o
 |.xd fs=>∃mA,h.Ns1 a mA/\∀f,RelO (fs.lookup f) (mA f)
 |.MR lo hi=>∃t u v,h.get? a=some { cls:=.type "range",data:=.fields #[.int lo t,.int hi u,.int 1 v] }
 |.cV o u=>h.get? a=some o/\ObjOk H h a u
 |.Di ps=>h.get? a=some {cls:=.none,data:=.fields ps}
 |.met f x=>h.get? a=some (PySem.W.methodObj (.ref f) (.ref x))
 |.ext φ=>φ h/\(∃o,h.get? a=some o)/\∀h1 h2:Heap,φ h1->(∀o,h1.get? a=some o->h2.get? a=some o)->φ h2
def HOk(H:Hp)(h:Heap):Prop:=∀a o,H a=some o->ObjOk P w H h a o
end
section
theorem ObjOk.lt(x:ObjOk P w H h a o):a<h.objs.size:=by
 cases o with
 |lst xs=>obtain⟨_,_,_,_,e⟩:=x;exact cD e
 |tup xs=>obtain⟨_,_,_,p⟩:=x;exact p.lt
 |dK kvs=>obtain⟨_,_,_,_,o,_,_,e,_⟩:=x;exact cD e
 |dT kvs=>obtain⟨_,_,_,_,o,_,_,e,_⟩:=x;exact cD e
 |set S n=>obtain⟨o,_,_,_,e,_⟩:=x;exact cD e
 |ins C dx fs=>obtain⟨_,_,_,e,_⟩:=x;exact cD e
 |own y=>obtain⟨_,e⟩:=x;exact cD e
 |xd fs=>obtain⟨_,⟨_,_,_,e,_⟩,_⟩:=x;exact cD e
 |MR lo hi=>obtain⟨_,_,_,e⟩:=x;exact cD e
 |cV ob u=>obtain⟨e,_⟩:=x;exact cD e
 |Di ps=>exact cD (show h.get? a=some _ from x)
 |met f y=>exact cD (show h.get? a=some _ from x)
 |ext φ=>obtain⟨_,⟨_,e⟩,_⟩:=x;exact cD e
def Paired.Mz{α β:Type}{F G:α->β->Prop}{l₁:List α}{l₂:List β}(h:Paired F l₁ l₂)(f:∀a b,F a b->G a b):Paired G l₁ l₂:=by
 induction h with
 |nil=>exact .nil
 |cons r _ ih=>exact .cons (f _ _ r) ih
def ObjOk.stay(x:ObjOk P w H h a o)(k:∀b u,(b=a\/H b=some (.own a))->h.get? b=some u->h'.get? b=some u)
 (ho:∀b,H b=some (.own a)->H' b=some (.own a)) (ht:∀b xs,H b=some (.tup xs)->H' b=some (.tup xs)):ObjOk P w H' h' a o:=by
 induction o with
 |lst xs=>obtain⟨z,its,n,r,e⟩:=x;exact⟨z,its,n,r,k _ _ (.inl rfl) e⟩
 |tup xs=>obtain⟨z,its,r,ob,e,c⟩:=x;exact⟨z,its,r,ob,k _ _ (.inl rfl) e,c⟩
 |dK kvs=>obtain⟨z,y,vs,r,ob,es,ep,e,c⟩:=x;exact⟨z,y,vs,r,ob,es,ep,k _ _ (.inl rfl) e,c⟩
 |dT kvs=>obtain⟨z,y,xs,r,ob,es,ep,e,c⟩:=x;exact⟨z,y,xs,Paired.Mz r λp q z=>⟨z.1,ht _ _ z.2.1,z.2.2⟩,ob,es,ep,k _ _ (.inl rfl) e,c⟩
 |set S n=>obtain⟨ob,es,ep,t,e,c⟩:=x;exact⟨ob,es,ep,t,k _ _ (.inl rfl) e,c⟩
 |ins C dx fs=>obtain⟨d,z,ne,e,mA,⟨od,es,ep,e2,c⟩,r⟩:=x;exact⟨ho _ d,z,ne,k _ _ (.inl rfl) e,mA,⟨od,es,ep,k _ _ (.inr d) e2,c⟩,r⟩
 |own y=>obtain⟨ob,e⟩:=x;exact⟨ob,k _ _ (.inl rfl) e⟩
 |xd fs=>obtain⟨mA,⟨od,es,ep,e,c⟩,r⟩:=x;exact⟨mA,⟨od,es,ep,k _ _ (.inl rfl) e,c⟩,r⟩
 |MR lo hi=>obtain⟨t,u,v,e⟩:=x;exact⟨t,u,v,k _ _ (.inl rfl) e⟩
 |cV ob u ih=>obtain⟨e,q⟩:=x;exact⟨k _ _ (.inl rfl) e,ih q⟩
 |Di ps=>have e:h.get? a=some {cls:=.none,data:=.fields ps}:=x;show h'.get? a=some {cls:=.none,data:=.fields ps};exact k a _ (.inl rfl) e
 |met f y=>have e:h.get? a=some (PySem.W.methodObj (.ref f) (.ref y)):=x;show h'.get? a=some (PySem.W.methodObj (.ref f) (.ref y));exact k a _ (.inl rfl) e
 |ext φ=>obtain⟨p,⟨o,e⟩,st⟩:=x;exact⟨st _ _ p λo q=>k _ _ (.inl rfl) q,⟨o,k _ _ (.inl rfl) e⟩,st⟩
theorem HOk.lt(x:HOk P w H h)(e:H a=some o):a<h.objs.size:=(x a o e).lt
def HOk.fresh(x:HOk P w H h)(e:h.objs.size<=a):H a=none:=by
 cases q:H a with
 |none=>rfl
 |some u=>exact absurd (fM (x.lt q) e) (Pn _)
def HOk.kept(x:HOk P w H h)(k:∀b u,h.get? b=some u->h'.get? b=some u):HOk P w H h':=λa o e=>(x a o e).stay (λb u _ q=>k b u q) (λ_ q=>q) λ_ _ q=>q
def HOk.laid(x:HOk P w H h)(k:∀b u,h.get? b=some u->h'.get? b=some u)(hp:h.objs.size<=a)(new:ObjOk P w (aY H a o) h' a o):HOk P w (aY H a o) h':=λb u e=>by
 have hn:=x.fresh hp;by_cases hb:b=a
 .subst hb;rw[aw]at e;cases e;exact new
 .rw[aj hb]at e;exact(x b u e).stay (λc v _ q=>k c v q) (λc q=>by rw[aj (ay q hn)];exact q) λc xs q=>by rw[aj (ay q hn)];exact q
end
def Rd(H:Hp)(a:Addr)(u:HO):Prop:=H a=some u\/∃o,H a=some (.cV o u)
def Rd.ok(r:Rd H a u)(x:HOk P w H h):ObjOk P w H h a u:=by
 rcases r with r|⟨o,r⟩
 .exact x a u r
 .obtain⟨_,q⟩:=x a _ r;exact q
noncomputable def JL:Option HO->Prop
 |some (.lst _)=>True
 |some (.dK _)=>True
 |some (.dT _)=>True
 |some (.set _ _)=>True
 |some (.ins _ _ _)=>True
 |some (.ext _)=>True
 |_=>False
section
def HOk.write(ok:HOk P w H h)(mu:JL (H x))(he:e=x\/H e=some (.own x))(k:∀b u,b≠e->h.get? b=some u->h'.get? b=some u)(heo:∃u,h'.get? e=some u)
 (new:ObjOk P w (aY H x o') h' x o'):HOk P w (aY H x o') h':=λb u q=>by
 have nown:∀c y,H c=some (.own y)->c≠x:=λc y r z=>by subst z;rw[r]at mu;exact mu
 have ntup:∀c xs,H c=some (.tup xs)->c≠x:=λc xs r z=>by subst z;rw[r]at mu;exact mu
 by_cases hb:b=x
 .subst hb;rw[aw]at q;cases q;exact new
 .rw[aj hb]at q;by_cases hbe:b=e
  .have q':H b=some (.own x):=by
    grind
   rw[q]at q';cases q';obtain⟨v,hv⟩:=heo;exact⟨v,by rw[hbe];exact hv⟩
  .refine(ok b u q).stay (λc v hc r=>k c v ?_ r) (λc r=>by rw[aj (nown c b r)];exact r) λc xs r=>by rw[aj (ntup c xs r)];exact r
   grind
end
def Qt(H:Hp)(b:Addr):Prop:=H b=none\/∃xs,H b=some (.tup xs)
structure Un(fs ex:List Addr) (H H':Hp) (h h':Heap):Prop where
 keep:∀b o,h.get? b=some o->Qt H b->b∉fs->b∉ex->h'.get? b=some o
 slot:∀b o,h.get? b=some o->H b=none->b∈fs->b∉ex->∃sl,h'.get? b=some {o with slots:=sl}
 free:∀b o,h.get? b=some o->H b=none->b∉ex->H' b=none
 there:∀b o,h.get? b=some o->b∉ex->∃o',h'.get? b=some o'
 jW:∀b xs,H b=some (.tup xs)->H' b=some (.tup xs)
 mK:∀b o u,H b=some (.cV o u)->H' b=some (.cV o u)
 n_:∀b ps,H b=some (.Di ps)->∃more,H' b=some (.Di (ps++more))
section
def Un.any(u:Un fs ex H H1 h h1)(q:h.get? b=some ob)(n:H b=none)(hx:b∉ex):∃sl,h1.get? b=some {ob with slots:=sl}:=by
 by_cases hb:b∈fs
 .exact u.slot b ob q n hb hx
 .exact⟨ob.slots,u.keep b ob q (.inl n) hb hx⟩
def Un.kept(k:∀b u,h.get? b=some u->h'.get? b=some u):Un fs ex H H h h':=⟨λb ob q _ _ _=>k b ob q,λb ob q _ _ _=>⟨ob.slots,k b ob q⟩,λ_ _ _ n _=>n,λb ob q _=>⟨ob,k b ob q⟩,λ_ _ q=>q,λ_ _ _ q=>q,λ_ ps q=>⟨#[],by rw[q];simp⟩⟩
def Un.refl:Un fs ex H H h h:=Un.kept λ_ _ q=>q
def Un.laid(k:∀b u,h.get? b=some u->h'.get? b=some u)(hp:h.objs.size<=a)(hn:H a=none):Un fs ex H (aY H a o) h h' where
 keep:=λb u q _ _ _=>k b u q
 slot:=λb u q _ _ _=>⟨u.slots,k b u q⟩
 free:=λb u q n _=>by rw[aj (e_ (fM (cD q) hp))];exact n
 there:=λb u q _=>⟨u,k b u q⟩
 jW:=λb xs q=>by rw[aj (ay q hn)];exact q
 mK:=λb u xs q=>by rw[aj (ay q hn)];exact q
 n_:=λb ps q=>⟨#[],by rw[aj (ay q hn),q];simp⟩
def Un.write(mu:JL (H x))(he:e=x\/H e=some (.own x))(k:∀b u,b≠e->h.get? b=some u->h'.get? b=some u)(heo:∃u,h'.get? e=some u):Un fs ex H (aY H x o) h h':=by
 have hx:∀b,H b=none->b≠x:=λb n z=>by subst z;rw[n]at mu;exact mu
 have hb:∀b,H b=none->b≠e:=λb n z=>by grind
 have hm:∀b u,H b=some u->¬JL (some u)->b≠x:=λb u q nm z=>by subst z;rw[q]at mu;exact nm mu
 refine⟨λb u q n _ _=>k b u (n.elim (hb b) λ⟨xs,ee⟩ z=>by rcases he with r|r;(·rw[<- r,<- z,ee]at mu;exact mu);(·rw[<- z,ee]at r;cases r)) q,λb u q n _ _=>⟨u.slots,k b u (hb b n) q⟩,λb u q n _=>by rw[aj (hx b n)];exact n,λb u q _=>?_,
  λb xs q=>by rw[aj (hm b _ q λz=>z)];exact q,λb u xs q=>by rw[aj (hm b _ q λz=>z)];exact q,λb ps q=>⟨#[],by rw[aj (hm b _ q λz=>z),q];simp⟩⟩
 by_cases hbe:b=e
 .subst hbe;exact heo
 .exact⟨u,k b u hbe q⟩
end
noncomputable def ui(h:Heap)(H:Hp):List Addr:=(List.range h.objs.size).filter λa=>(H a).isSome
def uj(h:Heap)(H:Hp):Heap:=hideAll h (ui h H)
def yL(h:Heap)(H:Hp):(uj h H).objs.size=h.objs.size:=PySem.W.hideAll_size _ _
def uk(e:h.get? b=some o)(n:H b=none):(uj h H).get? b=some o:=PySem.W.hideAll_get _ e λhm=>by have q:(H b).isSome=true:=(vP.mp hm).2;rw[n]at q;simp at q
def DB(e:(uj h H).get? b=some o):h.get? b=some o/\H b=none:=by
 have e':h.get? b=some o:=QD (ui h H) e;refine⟨e',?_⟩;cases q:H b with
 |none=>rfl
 |some x=>have hm:b∈ui h H:=vP.mpr ⟨jl.mpr (cD e'),by simp[q]⟩;have z:(uj h H).get? b=none:=PySem.W.hideAll_none (ui h H) hm;rw[z]at e;cases e
noncomputable def DC(g h:Heap)(L:Addr):List (Addr×Obj):=(List.range h.objs.size).filterMap λa=>if a=L\/(g.get? a).isSome=true then none else(h.get? a).map λo=>(a,o)
def rest(g h:Heap)(L d:Addr):List (Addr×Obj):=(DC g h L).filter λp=>decide (p.1≠d)
noncomputable def Ow:Q0->V
 |.str x _=>.str x
 |.ref a=>.ref a
 |_=>.bL
def DD(o:Obj):Option (Addr×List V):=match o.cls with
 |.type n=>if n=="kt" then(match o.data with
  |.seq its _=>(match its.toList with
   |.ref a::r=>some (a,r.map Ow)
   |_=>none)
  |_=>none)else none
 |_=>none
def JW(K:QY)(H:Hp):Prop:=∀p∈K,∀a xs,DD p.2=some (a,xs)->H a=some (.tup xs)
structure Mod(K:QY) (mg:Str->Option Q0) (base:Heap):Prop where
 JC:K.In base
 glob:base.Ns mainGlobals mg
 blt:∃mb,base.Ns builtinsNs mb/\∀x:Str,x≠"__name__"->mb x=bootBuiltins x
 nolimit:base.NoLimit
structure Cx where
 prog:QZ
 w:World
 K:QY
 mg:Str->Option Q0
 base:Heap
 A:Q1
 N:List Str
 s₀:QX
 H₀:Hp
 env:Env
 outer:List Env
 stack:List Env
 ex:List Addr
 fn:Str->Bool
 calm:Bool
 pn:List (Addr×Obj)
 xe:Q0->QX->Prop
abbrev wX(X:Cx){α:Type}(m:Sem α):(α->QX->Prop)->(Q0->QX->Prop)->QX->Prop:=wpAny (model X.prog X.w) X.A m
abbrev sE(X:Cx)(e:Expr)(es:List Expr):Prop:=starEach (e::es) X.env=(false,eval e X.env)::starEach es X.env
abbrev bT(X:Cx)(p:Pos)(es:List Expr):Prop:=(backTo p (starEach es X.env)).any (·.1)=false
abbrev dB(x:Str):Prop:=(x==("__debug__" : Str))=false
noncomputable def js(l:List Env):List Addr:=l.filterMap (·.frame)
abbrev Cx.fs(X:Cx):List Addr:=js X.outer
def MC(sc:Scope)(x:Str):Prop:=sc.names.lookup x=some .local\/sc.names.lookup x=some .cell\/sc.names.lookup x=some .free
def DE(sc:Scope)(x:Str):Prop:=sc.names.lookup x=some .local\/sc.names.lookup x=some .cell
def MU(env:Env)(h:Heap)(m:Str->Option Q0)(x:Str)(u:Q0):Prop:=(env.kindOf x=some .local/\m x=some u)\/((env.kindOf x=some .cell\/env.kindOf x=some .free)/\∃c,env.cells.lookup x=some c/\h.IsCell c (some u))
structure Cx.Ok(X:Cx):Prop where
 mod:Mod X.K X.mg X.base
 kind:X.env.scope.kind=.function
 glob:X.env.globals=mainGlobals
 blt:X.env.builtins=builtinsNs
 above:X.s₀.heap.objs.size<=X.env.locals
 inj:∀x y c,X.env.cells.lookup x=some c->X.env.cells.lookup y=some c->x=y
 has:∀x,(X.env.kindOf x=some .cell\/X.env.kindOf x=some .free)->∃c,X.env.cells.lookup x=some c
 Gq:∀x c,X.fn x=true->X.env.cells.lookup x=some c->X.s₀.heap.objs.size<=c
 hd:X.calm=true->X.A.handled=none
 frames:X.A.frames=some X.stack
 JG:X.stack=X.outer\/(X.stack=X.env::X.outer/\X.env.frame=some X.env.locals)
 My:∀b∈X.ex,b≠X.env.locals/\∀x c,X.env.cells.lookup x=some c->c≠b
 bs:∀b o,X.base.get? b=some o->X.s₀.heap.get? b=some o/\X.H₀ b=none
 Av:X.base.objs.size<=X.s₀.heap.objs.size
 vJ:∀b o,X.base.get? b=some o->b∉X.ex
 xD:∀b∈X.ex,b∉X.fs
 lC:X.s₀.heap.FunFrames X.base X.outer
 DA:∀b∈X.fs,X.H₀ b=none
 kt:JW X.K X.H₀
structure Inv(X:Cx) (aa:List (Addr×Obj)) (σ:List (Option V)) (H:Hp) (s:QX):Prop where
 ok:X.Ok
 os:s.os=X.s₀.os
 bare:AllBare s.gens
 base:Un X.fs X.ex X.H₀ H X.s₀.heap s.heap
 loc:∃m,s.heap.Ns X.env.locals m/\∀(i:Nat)(x:Str)(v:V),X.N[i]?=some x->σ[i]?=some (some v)->MC X.env.scope x->∃u,RelV v u/\MU X.env s.heap m x u
 cell:∀x c,X.env.cells.lookup x=some c->∃v,s.heap.IsCell c v
 free:H X.env.locals=none
 gB:∀x c,X.env.cells.lookup x=some c->H c=none
 pin:∀p∈X.pn++aa,s.heap.get? p.1=some p.2/\H p.1=none/\p.1≠X.env.locals/\p.1∉X.fs/\∀v,p.2.data≠.cell v
 aZ:HOk X.prog X.w H s.heap
 len:σ.length=X.N.length
section
variable{X:Cx}{aa:List (Addr×Obj)}{σ:List (Option V)}{H H':Hp}{s:QX}
def Cx.Ok.Oc(ok:X.Ok)(e:X.base.get? b=some o):b∉X.fs:=λhb=>by have:=(ok.lC.mem hb).1;rw[e]at this;cases this
theorem Inv.bs(I:Inv X aa σ H s):∀b o,X.base.get? b=some o->s.heap.get? b=some o/\H b=none:=λb o e=>⟨I.base.keep b o (I.ok.bs b o e).1 (.inl (I.ok.bs b o e).2) (I.ok.Oc e) (I.ok.vJ b o e),I.base.free b o (I.ok.bs b o e).1 (I.ok.bs b o e).2 (I.ok.vJ b o e)⟩
theorem Inv.kt(I:Inv X aa σ H s):JW X.K H:=λp hp a xs e=>I.base.jW a xs (I.ok.kt p hp a xs e)
def Inv.bk(I:Inv X aa σ H s):∀b o,X.base.get? b=some o->s.heap.get? b=some o:=λb o e=>(I.bs b o e).1
theorem Inv.mod(I:Inv X aa σ H s):Mod X.K X.mg X.base:=I.ok.mod
def Inv.kT(I:Inv X aa σ H s):X.K.In s.heap:=I.ok.mod.JC.keeps I.bk
theorem Inv.lt(I:Inv X aa σ H s):X.env.locals<s.heap.objs.size:=let ⟨_,hn,_⟩:=I.loc;hn.lt
def Inv.sz(I:Inv X aa σ H s):X.s₀.heap.objs.size<=s.heap.objs.size:=gC I.ok.above (Qe I.lt)
def Inv.N4(I:Inv X aa σ H s)(h:s.heap.objs.size<=a):a∉X.fs:=λhb=>by obtain⟨_,o,ho,_⟩:=I.ok.lC.mem hb;exact absurd (fM (cD ho) (gC I.sz h)) (Pn _)
def Inv.Dg(I:Inv X aa σ H s):∀x c,X.env.cells.lookup x=some c->c≠X.env.locals:=λx c e z=>by obtain⟨v,o,ho,hd⟩:=I.cell x c e;obtain⟨m,⟨o',es,ep,ho',hd',_⟩,_⟩:=I.loc;rw[z,ho']at ho;cases ho;rw[hd']at hd;cases hd
theorem Inv.lC(I:Inv X aa σ H s):s.heap.FunFrames X.base X.outer:=by
 have all:∀(l:List Env),(∀b∈js l,b∈X.fs)->X.s₀.heap.FunFrames X.base l->s.heap.FunFrames X.base l:=by
  intro l;induction l with
  |nil=>intro _ _;trivial
  |cons env r ih=>intro hs hl;obtain⟨hk,⟨L,o,hf,hn,ho,hd⟩,hr⟩:=hl;have hL:L∈X.fs:=hs L (by unfold js;rw[Po,hf];exact cE);obtain⟨sl,e⟩:=I.base.slot L o ho (I.ok.DA L hL) hL λz=>I.ok.xD L z hL;exact⟨hk,⟨L,_,hf,hn,e,hd⟩,ih (λb hb=>hs b (by unfold js;rw[Po,hf];exact cg _ hb)) hr⟩
 exact all X.outer (λ_ hb=>hb) I.ok.lC
theorem Inv.stack(I:Inv X aa σ H s):s.heap.FunFrames X.base X.stack:=by
 rcases I.ok.JG with e|⟨e,hf⟩
 .rw[e];exact I.lC
 .rw[e];obtain⟨m,hn,_⟩:=I.loc;refine .cons (by rw[I.ok.kind];decide) hf hn ?_ I.lC;exact Heap.get?_none_of_le (gC I.ok.Av I.ok.above)
def Inv.qA(I:Inv X aa σ H s):∀b∈js X.stack,b∈X.env.locals::X.fs:=λb hb=>by
 rcases I.ok.JG with e|⟨e,hf⟩
 .rw[e]at hb;exact cg _ hb
 .rw[e]at hb;unfold js at hb;rw[Po,hf]at hb;exact hb
def Inv.t4(I:Inv X aa σ H s):∀b∈js X.stack,H b=none:=λb hb=>by
 rcases cC.mp (I.qA b hb)with e|hb
 .rw[e];exact I.free
 .obtain⟨_,o,ho,_⟩:=I.ok.lC.mem hb;exact I.base.free b o ho (I.ok.DA b hb) λz=>I.ok.xD b z hb
def Inv.step{d':Drawn}{ch:List Addr}(I:Inv X aa σ H s)
 (hch:∀b∈ch,(b∈X.ex\/X.s₀.heap.objs.size<=b)/\b≠X.env.locals/\(∀x c,X.env.cells.lookup x=some c->c≠b)/\∀p∈X.pn++aa,p.1≠b)
 (keep:∀b o,b≠X.env.locals->b∉X.fs->b∉ch->s.heap.get? b=some o->Qt H b->h'.get? b=some o)
 (slot:∀b o,b≠X.env.locals->b∈X.fs->b∉ch->s.heap.get? b=some o->H b=none->∃sl,h'.get? b=some {o with slots:=sl}) (free:∀b o,b∉ch->s.heap.get? b=some o->H b=none->H' b=none)
 (there:∀b o,b∉ch->s.heap.get? b=some o->∃o',h'.get? b=some o')
 (jW:∀b xs,H b=some (.tup xs)->H' b=some (.tup xs)) (mK:∀b o u,H b=some (.cV o u)->H' b=some (.cV o u)) (n_:∀b ps,H b=some (.Di ps)->∃more,H' b=some (.Di (ps++more)))
 (ns:∀m,s.heap.Ns X.env.locals m->h'.Ns X.env.locals m) (aZ:HOk X.prog X.w H' h') (hg:AllBare g') :
 Inv X aa σ H' {s with heap:=h',gens:=g',drawn:=d',toks:=t'}:=by
 have neL:∀b o,X.s₀.heap.get? b=some o->b≠X.env.locals:=λb o e=>e_ (fM (cD e) I.ok.above);have neC:∀b o,X.s₀.heap.get? b=some o->b∉X.ex->b∉ch:=λb o e hx hb=>by
  rcases(hch b hb).1 with z|z
  .exact hx z
  .exact absurd (fM (cD e) z) (Pn _)
 have cellK:∀x c,X.env.cells.lookup x=some c->∀v,s.heap.IsCell c v->h'.IsCell c v:=λx c e v ⟨o,ho,hd⟩=>by
  have nch:c∉ch:=λz=>(hch c z).2.2.1 x c e rfl;by_cases hc:c∈X.fs
  .obtain⟨sl,q⟩:=slot c o (I.Dg x c e) hc nch ho (I.gB x c e);exact⟨_,q,hd⟩
  .exact⟨o,keep c o (I.Dg x c e) hc nch ho (.inl (I.gB x c e)),hd⟩
 refine⟨I.ok,I.os,hg,⟨λb o e n hb hx=>?_,λb o e n hb hx=>?_,λb o e n hx=>?_,λb o e hx=>?_,λb xs e=>jW b xs (I.base.jW b xs e),λb o xs e=>mK b o xs (I.base.mK b o xs e),λb ps e=>?_⟩,?_,λx c e=>?_,?_,λx c e=>?_,λp hp=>?_,aZ,I.len⟩
 .exact keep b o (neL b o e) hb (neC b o e hx) (I.base.keep b o e n hb hx) (n.imp (λn=>I.base.free b o e n hx) λ⟨xs,q⟩=>⟨xs,I.base.jW b xs q⟩)
 .obtain⟨sl,e1⟩:=I.base.slot b o e n hb hx;obtain⟨sl',e2⟩:=slot b _ (neL b o e) hb (neC b o e hx) e1 (I.base.free b o e n hx);exact⟨sl',e2⟩
 .obtain⟨o',e1⟩:=I.base.there b o e hx;exact free b o' (neC b o e hx) e1 (I.base.free b o e n hx)
 .obtain⟨o',e1⟩:=I.base.there b o e hx;exact there b o' (neC b o e hx) e1
 .obtain⟨m1,e1⟩:=I.base.n_ b ps e
  grind
 .obtain⟨m,hn,hl⟩:=I.loc;refine⟨m,ns m hn,λi x v e1 e2 e3=>?_⟩;obtain⟨u,r,l⟩:=hl i x v e1 e2 e3;refine⟨u,r,?_⟩;rcases l with l|⟨k,c,e,z⟩
  .exact .inl l
  .exact .inr ⟨k,c,e,cellK x c e _ z⟩
 .obtain⟨v,z⟩:=I.cell x c e;exact⟨v,cellK x c e v z⟩
 .obtain⟨m,⟨o,_,_,ho,_⟩,_⟩:=I.loc;exact free _ o (λz=>(hch _ z).2.1 rfl) ho I.free
 .obtain⟨v,o,ho,hd⟩:=I.cell x c e;exact free c o (λz=>(hch c z).2.2.1 x c e rfl) ho (I.gB x c e)
 .obtain⟨e,n,ne,nf,d⟩:=I.pin p hp;have nch:p.1∉ch:=λz=>(hch p.1 z).2.2.2 p hp rfl;exact⟨keep p.1 p.2 ne nf nch e (.inl n),free p.1 p.2 nch e n,ne,nf,d⟩
def Inv.un{t':Nat}(I:Inv X aa σ H s)(u:Un X.fs [] H H' s.heap h')(aZ:HOk X.prog X.w H' h'):Inv X aa σ H' {s with heap:=h',toks:=t'}:=by obtain⟨m,⟨o,es,ep,ho,r⟩,_⟩:=id I.loc;obtain⟨sl,hL⟩:=u.any ho I.free (by simp);exact I.step (g':=s.gens) (d':=s.drawn) (ch:=[]) (λ_ z=>nomatch z) (λb o _ hb _ e n=>u.keep b o e n hb (by simp)) (λb o _ hb _ e n=>u.slot b o e n hb (by simp)) (λb o _ e n=>u.free b o e n (by simp)) (λb o _ e=>u.there b o e (by simp)) u.jW u.mK u.n_ (λm' hm=>by obtain⟨o',es',ep',ho',r'⟩:=hm;rw[ho]at ho';cases ho';exact⟨_,es',ep',hL,r'⟩) aZ I.bare
def Inv.call{d':Drawn}{ch:List Addr}(I:Inv X aa σ H s)(u:Un (js X.stack) ch H H' s.heap h')(aZ:HOk X.prog X.w H' h')(hg:AllBare g')
 (hch:∀b∈ch,(b∈X.ex\/X.s₀.heap.objs.size<=b)/\b≠X.env.locals/\(∀x c,X.env.cells.lookup x=some c->c≠b)/\∀p∈X.pn++aa,p.1≠b) :
 Inv X aa σ H' {s with heap:=h',gens:=g',drawn:=d',toks:=t'}:=by
 obtain⟨m,⟨o,es,ep,ho,r⟩,_⟩:=id I.loc;obtain⟨sl,hL⟩:=u.any ho I.free λz=>(hch _ z).2.1 rfl;exact I.step (ch:=ch) hch (λb o hL hb hc e n=>u.keep b o e n (λz=>(cC.mp (I.qA b z)).elim hL hb) hc) (λb o _ _ hc e n=>u.any e n hc) (λb o hc e n=>u.free b o e n hc) (λb o hc e=>u.there b o e hc) u.jW u.mK u.n_ (λm' hm=>by obtain⟨o',es',ep',ho',r'⟩:=hm;rw[ho]at ho';cases ho';exact⟨_,es',ep',hL,r'⟩) aZ hg
def Inv.turned{it:Addr}(I:Inv X aa σ H s)(k:∀b o,b≠it->s.heap.get? b=some o->h'.get? b=some o)(hn:H it=none)(hL:it≠X.env.locals)
 (h1:it∈X.ex\/X.s₀.heap.objs.size<=it) (h2:∀x c,X.env.cells.lookup x=some c->c≠it) (h3:∀p∈X.pn++aa,p.1≠it):Inv X aa σ H {s with heap:=h',toks:=t'}:=by
 have nit:∀b u,H b=some u->b≠it:=λb u e z=>by rw[z,hn]at e;cases e
 refine I.step (g':=s.gens) (d':=s.drawn) (ch:=[it]) (λb hb=>?_) (λb o _ _ hc e _=>k b o (λz=>hc (by simp[z])) e) (λb o _ _ hc e _=>⟨o.slots,k b o (λz=>hc (by simp[z])) e⟩) (λ_ _ _ _ n=>n)
  (λb o hc e=>⟨o,k b o (λz=>hc (by simp[z])) e⟩) (λ_ _ e=>e) (λ_ _ _ e=>e) (λb ps e=>⟨#[],by rw[e];simp⟩) (λm hm=>?_) (λb u e=>?_) I.bare
 .have e:b=it:=by simpa using hb
  subst e;exact⟨h1,hL,h2,h3⟩
 .obtain⟨o,es,ep,ho,r⟩:=hm;exact⟨o,es,ep,k _ o (vG hL) ho,r⟩
 .refine(I.aZ b u e).stay (λc v hc q=>k c v ?_ q) (λ_ q=>q) λ_ _ q=>q;rcases hc with z|z
  .rw[z];exact nit b u e
  .exact nit c _ z
def Inv.tok(I:Inv X aa σ H s)(t:Nat):Inv X aa σ H {s with toks:=t}:=I.un (h':=s.heap) (t':=t) Un.refl I.aZ
theorem Inv.kept(I:Inv X aa σ H s)(k:∀b u,s.heap.get? b=some u->h'.get? b=some u):Inv X aa σ H {s with heap:=h',toks:=t'}:=I.un (Un.kept k) (I.aZ.kept k)
theorem Inv.laid(I:Inv X aa σ H s)(k:∀b u,s.heap.get? b=some u->h'.get? b=some u)(hp:s.heap.objs.size<=a)(new:ObjOk X.prog X.w (aY H a o) h' a o) :
 Inv X aa σ (aY H a o) {s with heap:=h',toks:=t'}:=I.un (Un.laid k hp (I.aZ.fresh hp)) (I.aZ.laid k hp new)
theorem Inv.write(I:Inv X aa σ H s)(mu:JL (H x))(he:e=x\/H e=some (.own x))(k:∀b u,b≠e->s.heap.get? b=some u->h'.get? b=some u)(heo:∃u,h'.get? e=some u)
 (new:ObjOk X.prog X.w (aY H x o) h' x o):Inv X aa σ (aY H x o) {s with heap:=h',toks:=t'}:=I.un (Un.write mu he k heo) (I.aZ.write mu he k heo new)
def Inv.yG(I:Inv X aa σ H s)(h:∀p∈pins',s.heap.get? p.1=some p.2/\H p.1=none/\p.1≠X.env.locals/\p.1∉X.fs/\∀v,p.2.data≠.cell v):Inv X pins' σ H s:=⟨I.ok,I.os,I.bare,I.base,I.loc,I.cell,I.free,I.gB,λp hp=>(fD.mp hp).elim (λz=>I.pin p (jX _ z)) (h p),I.aZ,I.len⟩
def oE{N:List Str}(hN:N.Nodup){i j:Nat}{x:Str}(a:N[i]?=some x)(b:N[j]?=some x):i=j:=by obtain⟨h1,e1⟩:=ci.mp a;obtain⟨h2,e2⟩:=ci.mp b;exact(List.getElem_inj hN).mp (e1.trans e2.symm)
def qW{E:Q0->QX->Prop}{x:Str}{v:V}{u:Q0}{Q:Unit->QX->Prop}(I:Inv X aa σ H s)(hN:X.N.Nodup)(hi:X.N[i]?=some x)(hx:DE X.env.scope x)(r:RelV v u)
 (h:∀s',Inv X aa (σ.set i (some v)) H s'->(∃a,Heap.SameBut a s.heap s'.heap/\(a=X.env.locals\/X.env.cells.lookup x=some a))->Q () s') (hf:autoParam (X.fn x=true\/X.env.scope.names.lookup x=some .local) Ra):wpAny M A (storeName X.env x u) Q E s:=by
 obtain⟨m,hn,hl⟩:=id I.loc;have hcls:(X.env.scope.kind==.class ||(X.env.scope.kind==.module&&X.env.locals != X.env.globals))=false:=by rw[I.ok.kind];rfl
 have hiσ:i<σ.length:=by rw[I.len];exact(ci.mp hi).1
 have Dg:=I.Dg;have tracked:∀{a:Addr}{h':Heap},(∃o,s.heap.get? a=some o/\H a=none)->Heap.SameBut a s.heap h'->HOk X.prog X.w H h':=λ{a h'} ha hs b ob e=>by
  obtain⟨_,_,hfree⟩:=ha;refine(I.aZ b ob e).stay (λc w' hc q=>(hs.2 c ?_).trans q) (λ_ q=>q) λ_ _ q=>q
  grind
 rcases hx with hk|hk
 .refine wpAny_storeName_local hk hn (λh' hn' hs=>?_) hcls;obtain⟨oL,_,_,hoL,_⟩:=id hn;refine h _ ⟨I.ok,I.os,I.bare,⟨λb o e n hb hx=>?_,λb o e n hb hx=>?_,I.base.free,λb o e hx=>?_,I.base.jW,I.base.mK,I.base.n_⟩,⟨_,hn',λj y v' e1 e2 e3=>?_⟩,λy c e=>?_,I.free,I.gB,λp hp=>?_,tracked ⟨oL,hoL,I.free⟩ hs,by simpa using I.len⟩ ⟨_,hs,.inl rfl⟩
  .exact(hs.2 b (e_ (fM (cD e) I.ok.above))).trans (I.base.keep b o e n hb hx)
  .obtain⟨sl,e1⟩:=I.base.slot b o e n hb hx;exact⟨sl,(hs.2 b (e_ (fM (cD e) I.ok.above))).trans e1⟩
  .obtain⟨o',e1⟩:=I.base.there b o e hx;exact⟨o',(hs.2 b (e_ (fM (cD e) I.ok.above))).trans e1⟩
  .by_cases hj:j=i
   .subst hj;rw[hi]at e1;cases e1;rw[jg hiσ]at e2;cases e2;exact⟨u,r,.inl ⟨hk,by simp⟩⟩
   .rw[ji (vG hj)]at e2;obtain⟨u',r',q⟩:=hl j y v' e1 e2 e3;refine⟨u',r',?_⟩;rcases q with⟨k,e⟩|⟨k,c,e,z⟩
    .refine .inl ⟨k,?_⟩;have:y≠x:=λe=>hj (oE hN e1 (e▸hi));simp[this,e]
    .exact .inr ⟨k,c,e,z.sameBut hs (Dg y c e)⟩
  .obtain⟨w',z⟩:=I.cell y c e;exact⟨w',z.sameBut hs (Dg y c e)⟩
  .obtain⟨e,n,ne,nf,d⟩:=I.pin p hp;exact⟨(hs.2 p.1 ne).trans e,n,ne,nf,d⟩
 .have hfn:X.fn x=true:=by
   rcases hf with z|z
   .exact z
   .rw[z]at hk;cases hk
  obtain⟨c,hc⟩:=I.ok.has x (.inl hk);obtain⟨w',z⟩:=I.cell x c hc;refine wpAny_storeName_cell I.ok.kind hk hc z (λh' hc' hs=>?_);obtain⟨oc,hoc,hocd⟩:=id z;refine h {s with heap:=h'} ⟨I.ok,I.os,I.bare,⟨λb o e n hb hx=>?_,λb o e n hb hx=>?_,I.base.free,λb o e hx=>?_,I.base.jW,I.base.mK,I.base.n_⟩,⟨m,hn.sameBut hs (vG (Dg x c hc)),λj y v' e1 e2 e3=>?_⟩,λy c' e=>?_,I.free,I.gB,λp hp=>?_,tracked ⟨oc,hoc,I.gB x c hc⟩ hs,by simpa using I.len⟩ ⟨c,hs,.inr hc⟩
  .exact(hs.2 b (e_ (fM (cD e) (I.ok.Gq x c hfn hc)))).trans (I.base.keep b o e n hb hx)
  .obtain⟨sl,e1⟩:=I.base.slot b o e n hb hx;exact⟨sl,(hs.2 b (e_ (fM (cD e) (I.ok.Gq x c hfn hc)))).trans e1⟩
  .obtain⟨o',e1⟩:=I.base.there b o e hx;exact⟨o',(hs.2 b (e_ (fM (cD e) (I.ok.Gq x c hfn hc)))).trans e1⟩
  .by_cases hj:j=i
   .subst hj;rw[hi]at e1;cases e1;rw[jg hiσ]at e2;cases e2;exact⟨u,r,.inr ⟨.inl hk,c,hc,hc'⟩⟩
   .rw[ji (vG hj)]at e2;obtain⟨u',r',q⟩:=hl j y v' e1 e2 e3;refine⟨u',r',?_⟩;rcases q with q|⟨k,c',e,z'⟩
    .exact .inl q
    .refine .inr ⟨k,c',e,z'.sameBut hs ?_⟩;rintro rfl;exact hj (oE hN e1 (I.ok.inj _ _ _ e hc▸hi))
  .by_cases hcc:c'=c
   .subst hcc;exact⟨_,hc'⟩
   .obtain⟨w2,z2⟩:=I.cell y c' e;exact⟨w2,z2.sameBut hs hcc⟩
  .obtain⟨e,n,ne,nf,d⟩:=I.pin p hp;refine⟨(hs.2 p.1 ?_).trans e,n,ne,nf,d⟩
   grind
def oF(I:Inv X aa σ H s)(hN:X.N.Nodup)(hi:X.N[i]?=some x)(hx:DE X.env.scope x)(r:RelV v u)
 (h:∀s',Inv X aa (σ.set i (some v)) H s'->Q () s') (hf:autoParam (X.fn x=true\/X.env.scope.names.lookup x=some .local) Ra):wpAny M A (storeName X.env x u) Q E s:=
 qW I hN hi hx r (λs' I' _=>h s' I') hf
def Inv.Gm(I:Inv X aa σ H s)(ho:s'.os=s.os)(u:Un (js X.stack) ch H H' s.heap s'.heap)(aZ:HOk X.prog X.w H' s'.heap)(hg:AllBare s'.gens)
 (hch:∀b∈ch,(b∈X.ex\/X.s₀.heap.objs.size<=b)/\b≠X.env.locals/\(∀x c,X.env.cells.lookup x=some c->c≠b)/\∀p∈X.pn++aa,p.1≠b):Inv X aa σ H' s':=by
 obtain⟨h',g',d',t',o'⟩:=s';have e:o'=s.os:=ho;subst e;exact I.call (g':=g') (t':=t') (d':=d') u aZ hg hch
end
abbrev XK:=Q0->Option Addr->Hp->Prop
noncomputable abbrev St:=List (Option V)
abbrev VK:=V->Hp->Prop
abbrev TE:=St->Hp->VK->Prop
abbrev TT:=St->Hp->(Bool->Hp->Prop)->Prop
abbrev TA:=St->Hp->(List V->Hp->Prop)->Prop
structure Ends where
 nx:St->Hp->Prop
 rt:VK
 bk:St->Hp->Prop:=λ_ _=>False
 ct:St->Hp->Prop:=λ_ _=>False
abbrev TS:=Ends->St->Hp->Prop
def EP(X:Cx)(aa:List (Addr×Obj))(σ:St)(Q:VK)(u:Q0)(s':QX):Prop:=∃v H',Inv X aa σ H' s'/\RelV v u/\Q v H'
def TP(X:Cx)(aa:List (Addr×Obj))(σ:St)(Q:Bool->Hp->Prop)(b:Bool)(s':QX):Prop:=∃H',Inv X aa σ H' s'/\Q b H'
def AP(X:Cx)(aa:List (Addr×Obj))(σ:St)(Q:List V->Hp->Prop)(us:List Q0)(s':QX):Prop:=∃vs H',Inv X aa σ H' s'/\Vals vs us/\Q vs H'
def SP(X:Cx)(aa:List (Addr×Obj))(D:Ends)(f:Flow)(s':QX):Prop:=
 match f with
 |.next=>∃σ' H',Inv X aa σ' H' s'/\D.nx σ' H'
 |.brk=>∃σ' H',Inv X aa σ' H' s'/\D.bk σ' H'
 |.cont=>∃σ' H',Inv X aa σ' H' s'/\D.ct σ' H'
 |.ret u=>∃v σ' H',Inv X aa σ' H' s'/\RelV v u/\D.rt v H'
def PE(X:Cx)(e:Expr)(t:TE):Prop:=∀(aa:List (Addr×Obj))(s:QX)(σ:St)(H:Hp)(Q:VK),Inv X aa σ H s->t σ H Q->wpAny (model X.prog X.w) X.A (eval e X.env) (EP X aa σ Q) X.xe s
def PT(X:Cx)(e:Expr)(t:TT):Prop:=∀(aa:List (Addr×Obj))(s:QX)(σ:St)(H:Hp)(Q:Bool->Hp->Prop),Inv X aa σ H s->t σ H Q->wpAny (model X.prog X.w) X.A (isTrue e X.env (eval e X.env)) (TP X aa σ Q) X.xe s
def PW(X:Cx)(e:Expr)(t:TT):Prop:=∀(whole:Sem Q0)(aa:List (Addr×Obj))(s:QX)(σ:St)(H:Hp)(Q:Bool->Hp->Prop),Inv X aa σ H s->t σ H Q->wpAny (model X.prog X.w) X.A (isTrue e X.env whole) (TP X aa σ Q) X.xe s
def PW.pt(h:PW X e t):PT X e t:=h _
def PA(X:Cx)(es:List Expr)(t:TA):Prop:=∀(pos:Pos)(aa:List (Addr×Obj))(s:QX)(σ:St)(H:Hp)(Q:List V->Hp->Prop),Inv X aa σ H s->t σ H Q->wpAny (model X.prog X.w) X.A (spliced (backTo pos (starEach es X.env))) (AP X aa σ Q) X.xe s
def PS(X:Cx)(st:Stmt)(t:TS):Prop:=∀(aa:List (Addr×Obj))(s:QX)(σ:St)(H:Hp)(D:Ends),Inv X aa σ H s->t D σ H->wpAny (model X.prog X.w) X.A (exec st X.env) (SP X aa D) X.xe s
def PSs(X:Cx)(st:List Stmt)(t:TS):Prop:=∀(aa:List (Addr×Obj))(s:QX)(σ:St)(H:Hp)(D:Ends),Inv X aa σ H s->t D σ H->wpAny (model X.prog X.w) X.A (execs st X.env) (SP X aa D) X.xe s
def cZ{α:Type}{t:Sem α}{Q Q':α->QX->Prop}{M:Model}{A:Q1}{E:Q0->QX->Prop}{s:QX}(h:wpAny M A t Q E s)(hQ:∀a s,Q a s->Q' a s):wpAny M A t Q' E s:=mC h hQ λ_ _ x=>x
section
variable{X:Cx}
noncomputable def aH(i:Nat):TE:=λσ H Q=>∃v,σ[i]?=some (some v)/\Q v H
noncomputable def tC(v:V):TE:=λ_ H Q=>Q v H
def Ax(hN:X.N[i]?=some x)(hv:MC X.env.scope x)(hd:autoParam (dB x) Q_) (hcd:autoParam ((x==("__classdict__" : Str))=false) Q_):PE X (.Name x pos) (aH i):=by
 intro aa s σ H Q I h;obtain⟨v,e,h⟩:=h;obtain⟨m,hn,hl⟩:=I.loc;obtain⟨u,r,l⟩:=hl i x v hN e hv;have fin:EP X aa σ Q u s:=⟨v,H,I,r,h⟩;rcases l with⟨hk,hm⟩|⟨hk,c,hc,hcell⟩
 .exact wpAny_Name (wpAny_loadName_local I.ok.kind hk hn hm fin) hd
 .rcases hk with hk|hk
  .exact wpAny_Name (wpAny_loadName_cell I.ok.kind hk hc hcell fin) hd
  .exact wpAny_Name (wpAny_loadName_free I.ok.kind hk hc hcell fin hcd) hd
def aP{i j pos}:PE X (.Constant (.int i) j pos) (tC (.int i)):=λ_ _ _ H _ I h=>wpAny_Constant_int ⟨.int i,H,I.tok _,⟨_,rfl⟩,h⟩
def JX{b j pos}:PE X (.Constant (.bool b) j pos) (tC (.bl b)):=λ_ _ _ H _ I h=>Constant_bool ⟨.bl b,H,I,rfl,h⟩
def mQ{j pos}:PE X (.Constant .none j pos) (tC .bL):=λ_ _ _ H _ I h=>Constant_none ⟨.bL,H,I,rfl,h⟩
def GG{x j pos}:PE X (.Constant (.str x) j pos) (tC (.str x)):=λ_ _ _ H _ I h=>Calls.Constant_str ⟨.str x,H,I.tok _,⟨_,rfl⟩,h⟩
def Gl(X:Cx)(x:Str):Prop:=X.env.kindOf x=some .globalImplicit
def ir(I:Inv X aa σ H s)(hg:Gl X x)(hm:X.mg x=some u)(h:Q u s)
 (hd:autoParam (dB x) Q_):wX X (eval (.Name x pos) X.env) Q E s:=
 Calls.Name_function_global I.ok.kind hg (Calls.loadGlobal_global (by rw[I.ok.glob];exact I.mod.glob.keeps I.bk) hm h) hd
def kZ(I:Inv X aa σ H s)(hg:Gl X x)(hm:X.mg x=none)(hv:bootBuiltins x=some u)(h:Q u s)
 (hn:autoParam (x≠"__name__") Q_) (hd:autoParam (dB x) Q_):wX X (eval (.Name x pos) X.env) Q E s:=by
 obtain⟨mb,h1,h2⟩:=I.mod.blt;exact Calls.Name_function_global I.ok.kind hg (Calls.loadGlobal_builtin (by rw[I.ok.glob];exact I.mod.glob.keeps I.bk) hm (by rw[I.ok.blt];exact h1.keeps I.bk) ((h2 x hn).trans hv) h) hd
def sq(hg:Gl X x)(hm:X.mg x=some u)(r:RelV v u)(hd:autoParam (dB x) Q_):PE X (.Name x pos) (tC v):=λ_ _ _ H _ I h=>ir I hg hm ⟨v,H,I,r,h⟩ hd
def xE(hg:Gl X x)(hm:X.mg x=none)(hv:bootBuiltins x=some u)(r:RelV v u)(hn:autoParam (x≠"__name__") Q_) (hd:autoParam (dB x) Q_):PE X (.Name x pos) (tC v):=λ_ _ _ H _ I h=>kZ I hg hm hv ⟨v,H,I,r,h⟩ hn hd
variable{a b:Expr}{ta tb:TE}{pos:Pos}
def PC(X:Cx)(op:CmpOp)(a b:Expr)(t:TE):Prop:=
 ∀(aa:List (Addr×Obj))(s:QX)(σ:St)(H:Hp)(Q:VK),Inv X aa σ H s->t σ H Q->
  wpAny (model X.prog X.w) X.A (eval a X.env) (λv s₁=>wpAny (model X.prog X.w) X.A (eval b X.env) (λu s₂=>wpAny (model X.prog X.w) X.A (compareOp op v u) (EP X aa σ Q) X.xe s₂) X.xe s₁) X.xe s
def Ay(b:Expr)(h:op≠.In)(h2:op≠.NotIn):behindInMarks op b=false:=by
 have e1:(op==CmpOp.In)=false:=by cases op<;>first|rfl|exact absurd rfl h
 have e2:(op==CmpOp.NotIn)=false:=by cases op<;>first|rfl|exact absurd rfl h2
 cases b<;>simp[behindInMarks,e1,e2]
noncomputable def MV(ta:TE):TE:=λσ H Q=>ta σ H λx H1=>Q (.bl (decide (x=.bL))) H1
def RelV.Dn(r:RelV x v):(v==Value.none)=decide (x=.bL):=by
 cases x with
 |bL=>cases r;rfl
 |bl _=>cases r;rfl
 |int _=>obtain⟨t,rfl⟩:=r;rfl
 |str _=>obtain⟨t,rfl⟩:=r;rfl
 |Am _=>obtain⟨t,rfl⟩:=r;rfl
 |Gk _=>obtain⟨t,rfl⟩:=r;rfl
 |ref _=>cases r;rfl
 |ty _=>cases r;rfl
def GH{j pos'}(ha:PE X a ta):PC X .Is a (.Constant .none j pos') (MV ta):=by intro aa s σ H Q I h;refine cZ (ha aa s σ H _ I h) λv s1 ⟨x,H1,I1,r1,q1⟩=>?_;exact Constant_none (is_none_gen ⟨.bl _,H1,I1,by rw[r1.Dn];rfl,q1⟩)
noncomputable def tB(t:TE):TT:=λσ H Q=>t σ H λx H1=>∃c,x=.bl c/\Q c H1
def GI(h:PC X op a b t)(h1:behindInMarks op b=false:=by first|exact Ay _ (by decide) (by decide)|rfl):PT X (.Compare a [op] [b] pos) (tB t):=by intro aa s σ H Q I hw;refine wpAny_isTrue_Compare1 (cZ (h aa s σ H _ I hw) λv s1 h1=>cZ h1 λu s2 h2=>cZ h2 λc s3 ⟨x,H1,I1,r1,q1⟩=>?_) h1;obtain⟨d,rfl,q⟩:=q1;cases r1;exact PF ⟨H1,I1,q⟩
def GJ(h:PE X e t)(he:autoParam (∀whole,isTrue e X.env whole=(do let v <- whole;standAt e.pos;holding [v] (truthy v))) Rb):PT X e (tB t):=by intro aa s σ H Q I hw;refine isTrue_plain (cZ (h aa s σ H _ I hw) λv s1 ⟨x,H1,I1,r1,q1⟩=>?_) (he _);obtain⟨d,rfl,q⟩:=q1;cases r1;exact PF ⟨H1,I1,q⟩
variable{tA tB':TT}{rest:List Expr}
noncomputable def Od(t u:TT):TT:=λσ H Q=>t σ H λc H1=>if c=true then Q true H1 else u σ H1 Q
noncomputable def JY(t:TT):TT:=λσ H Q=>t σ H λc H1=>Q (!c) H1
def Az(ha:PT X a tA):PW X (.BoolOp .Or [a] pos) tA:=by
 intro wh aa s σ H Q I h;refine isTrue_or (cZ (ha aa s σ H Q I h) λc s1 e=>?_);cases c with
 |false=>exact isTrue_or_nil e
 |true=>exact e
def FC(ha:PT X a tA)(hb:PW X (.BoolOp .Or (b::rest) pos) tB'):PW X (.BoolOp .Or (a::b::rest) pos) (Od tA tB'):=by
 intro wh aa s σ H Q I h;refine isTrue_or (cZ (ha aa s σ H _ I h) λc s1 ⟨H1,I1,q1⟩=>?_);cases c with
 |true=>exact⟨H1,I1,q1⟩
 |false=>exact hb wh aa s1 σ H1 Q I1 q1
def AA(ha:PT X a tA):PT X (.UnaryOp .Not a pos) (JY tA):=by intro aa s σ H Q I h;exact isTrue_not (ha aa s σ H (λc H1=>Q (!c) H1) I h)
noncomputable def Ox(t:TT)(ta tb:TE):TE:=λσ H Q=>t σ H λc H1=>if c=true then ta σ H1 Q else tb σ H1 Q
def AB(hc:PT X c tA)(ha:PE X a ta)(hb:PE X b tb):PE X (.IfExp c a b pos) (Ox tA ta tb):=by
 intro aa s σ H Q I h;refine wpAny_IfExp (cZ (hc aa s σ H _ I h) λd s1 ⟨H1,I1,q1⟩=>?_);cases d with
 |true=>exact ha aa s1 σ H1 Q I1 q1
 |false=>exact hb aa s1 σ H1 Q I1 q1
end
def SqL(K:QY)(H:Hp)(a:Addr)(xs:List V):Prop:=
 Rd H a (.lst xs)\/
  ∃(o:Obj)(its:Array Q0)(n:Nat),K.lookup a=some o/\o.cls=.type "list"/\o.dict=none/\o.data=.seq its n/\its.size<=sizeLine/\Vals xs its.toList
def SqT(K:QY)(H:Hp)(a:Addr)(xs:List V):Prop:=
 Rd H a (.tup xs)\/
  ∃(o:Obj)(its:Array Q0)(n:Nat),K.lookup a=some o/\o.cls=.type "tuple"/\o.data=.seq its n/\its.size<=sizeLine/\Vals xs its.toList
noncomputable def MW:Q0->Option V
 |.none=>some .bL
 |.bool b=>some (.bl b)
 |.int i _=>some (.int i)
 |.str x _=>some (.str x)
 |.bytes b _=>some (.Am b)
 |.float b _=>some (.Gk b)
 |.ref a=>some (.ref a)
 |.type n=>some (.ty n)
 |_=>none
def RelV.abs(r:RelV x u):MW u=some x:=by
 cases x with
 |bL=>cases r;rfl
 |bl _=>cases r;rfl
 |int _=>obtain⟨t,rfl⟩:=r;rfl
 |str _=>obtain⟨t,rfl⟩:=r;rfl
 |Am _=>obtain⟨t,rfl⟩:=r;rfl
 |Gk _=>obtain⟨t,rfl⟩:=r;rfl
 |ref _=>cases r;rfl
 |ty _=>cases r;rfl
def RelV.inj(r:RelV x u)(q:RelV y u):x=y:=kY (r.abs.symm.trans q.abs)
theorem Vals.inj{xs ys:List V}{us:List Q0}(h:Vals xs us)(k:Vals ys us):xs=ys:=by
 induction h generalizing ys with
 |nil=>cases k;rfl
 |cons r _ ih=>
  cases k with
  |cons r' t'=>rw[r.inj r',ih t']
section
def SqL.of{K:QY}(h:H a=some (.lst xs)):SqL K H a xs:=.inl (.inl h)
def SqT.of{K:QY}(h:H a=some (.tup xs)):SqT K H a xs:=.inl (.inl h)
def Inv.list(I:Inv X aa σ H s)(h:SqL X.K H a xs):∃its:List Q0,Vals xs its/\PlainL s.heap a its.toArray/\xs.length<=sizeLine:=by
 rcases h with h|⟨o,its,n,hk,hc,hd,hs,hz,r⟩
 .obtain⟨z,its,n,r,e⟩:=h.ok I.aZ;exact⟨its,r,⟨_,n,e,rfl,rfl,rfl⟩,z⟩
 .refine⟨its.toList,r,⟨o,n,I.kT a o hk,hc,hd,by simpa using hs⟩,?_⟩;have e:=r.length;simp only[qU]at e;lia
def Inv.tuple(I:Inv X aa σ H s)(h:SqT X.K H a xs):∃its:List Q0,Vals xs its/\IsTup s.heap a its.toArray/\xs.length<=sizeLine:=by
 rcases h with h|⟨o,its,n,hk,hc,hs,hz,r⟩
 .obtain⟨z,its,r,p⟩:=h.ok I.aZ;exact⟨its,r,p,z⟩
 .refine⟨its.toList,r,⟨o,I.kT a o hk,hc,n,by simpa using hs⟩,?_⟩;have e:=r.length;simp only[qU]at e;lia
def Inv.vL(I:Inv X aa σ H s)(h:SqL X.K H a xs)(h':SqL X.K H a ys):xs=ys:=by
 obtain⟨its,r,⟨o,n,e,_,_,d⟩,_⟩:=I.list h;obtain⟨its',r',⟨o',n',e',_,_,d'⟩,_⟩:=I.list h';rw[e]at e';cases e';rw[d]at d';injection d' with d1 _;have:its=its':=by simpa using Pp Array.toList d1
 subst this;exact r.inj r'
def Inv.Ak(I:Inv X aa σ H s)(h:SqT X.K H a xs)(h':SqT X.K H a ys):xs=ys:=by
 obtain⟨its,r,⟨o,e,_,n,d⟩,_⟩:=I.tuple h;obtain⟨its',r',⟨o',e',_,n',d'⟩,_⟩:=I.tuple h';rw[e]at e';cases e';rw[d]at d';injection d' with d1 _;have:its=its':=by simpa using Pp Array.toList d1
 subst this;exact r.inj r'
end
noncomputable abbrev Cx.oa(X:Cx)(E:Q0->QX->Prop):Cx:={X with xe:=E}
abbrev Cx.GA(X:Cx):Cx:=X.oa λ_ _=>False
theorem Cx.Ok.oa{X:Cx}(ok:X.Ok)(E:Q0->QX->Prop):(X.oa E).Ok:=⟨ok.mod,ok.kind,ok.glob,ok.blt,ok.above,ok.inj,ok.has,ok.Gq,ok.hd,ok.frames,ok.JG,ok.My,ok.bs,ok.Av,ok.vJ,ok.xD,ok.lC,ok.DA,ok.kt⟩
def Cx.Ok.g_{X:Cx}{E:Q0->QX->Prop}(ok:(X.oa E).Ok):X.Ok:=⟨ok.mod,ok.kind,ok.glob,ok.blt,ok.above,ok.inj,ok.has,ok.Gq,ok.hd,ok.frames,ok.JG,ok.My,ok.bs,ok.Av,ok.vJ,ok.xD,ok.lC,ok.DA,ok.kt⟩
section
theorem Inv.oa(I:Inv X aa σ H s)(E:Q0->QX->Prop):Inv (X.oa E) aa σ H s:=⟨I.ok.oa E,I.os,I.bare,I.base,I.loc,I.cell,I.free,I.gB,I.pin,I.aZ,I.len⟩
theorem Inv.g_(I:Inv (X.oa E) aa σ H s):Inv X aa σ H s:=⟨I.ok.g_,I.os,I.bare,I.base,I.loc,I.cell,I.free,I.gB,I.pin,I.aZ,I.len⟩
theorem SP.g_(h:SP (X.oa E) aa D f s'):SP X aa D f s':=by
 cases f with
 |next=>obtain⟨σ',H',I,q⟩:=h;exact⟨σ',H',I.g_,q⟩
 |brk=>obtain⟨σ',H',I,q⟩:=h;exact⟨σ',H',I.g_,q⟩
 |cont=>obtain⟨σ',H',I,q⟩:=h;exact⟨σ',H',I.g_,q⟩
 |ret u=>obtain⟨v,σ',H',I,r,q⟩:=h;exact⟨v,σ',H',I.g_,r,q⟩
theorem PSs.GA{st:List Stmt}(h:PSs X.GA st t):PSs X st t:=λaa s σ H D I hw=>mC (h aa s σ H D (I.oa _) hw) (λ_ _ q=>q.g_) λ_ _ z=>False.elim z
end
section
variable{X:Cx}{st:Stmt}{rest:List Stmt}{t u:TS}
noncomputable def um:TS:=λD σ H=>D.nx σ H
noncomputable def fk(t u:TS):TS:=λD σ H=>t {D with nx:=u D} σ H
def lL:PSs X [] um:=λ_ _ σ H _ I h=>O3 ⟨σ,H,I,h⟩
def ba(h1:PS X st t)(h2:PSs X rest u):PSs X (st::rest) (fk t u):=by
 intro aa s σ H D I h;refine Qm (cZ (h1 aa s σ H {D with nx:=u D} I h) λf s1 q=>?_);cases f with
 |next=>obtain⟨σ',H',I',q⟩:=q;exact h2 aa s1 σ' H' D I' q
 |ret v=>exact q
 |brk=>exact q
 |cont=>exact q
def a_(h1:PS X st t):PSs X [st] t:=by
 intro aa s σ H D I h;refine Qm (cZ (h1 aa s σ H D I h) λf s1 q=>?_);cases f with
 |next=>exact O3 q
 |ret v=>exact q
 |brk=>exact q
 |cont=>exact q
def Inv.quiet(I:Inv X aa σ H s):interactive X.env=false:=by simp[interactive,I.ok.kind]
noncomputable def fJ(te:TE):TS:=λD σ H=>te σ H λ_ H1=>D.nx σ H1
def cv(he:PE X e te)(hs:autoParam (swapsWith e none pos.line X.env=pure false) Rc):PS X (.Expr e pos) (fJ te):=by intro aa s σ H D I h;exact wpAny_Expr_any (cZ (he aa s σ H _ I h) λv s1 ⟨x,H1,I1,r1,q1⟩=>⟨σ,H1,I1,q1⟩) I.quiet hs
noncomputable def yM(te:TE):TS:=λD σ H=>te σ H D.rt
def oG(he:PE X e te):PS X (.Return (some e) pos) (yM te):=by intro aa s σ H D I h;exact wpAny_Return_some (cZ (he aa s σ H _ I h) λv s1 ⟨x,H1,I1,r1,q1⟩=>⟨x,σ,H1,I1,r1,q1⟩)
noncomputable def vZ(c:TT)(t u:TS):TS:=λD σ H=>c σ H λb H1=>if b=true then t D σ H1 else u D σ H1
def qX(hc:PT X c tc)(ha:PSs X a t)(hb:PSs X b u):PS X (.If c a b pos) (vZ tc t u):=by
 intro aa s σ H D I h;refine wpAny_If (cZ (hc aa s σ H _ I h) λd s1 ⟨H1,I1,q1⟩=>?_);cases d with
 |true=>exact ha aa s1 σ H1 D I1 q1
 |false=>exact hb aa s1 σ H1 D I1 q1
end
abbrev TG:=V->St->Hp->(St->Hp->Prop)->Prop
abbrev JM:=List V->St->Hp->(St->Hp->Prop)->Prop
def PG(X:Cx)(target:Expr)(t:TG):Prop:=
 ∀(aa:List (Addr×Obj))(s:QX)(σ:St)(H:Hp)(v:V)(u:Q0)(Q:St->Hp->Prop),Inv X aa σ H s->RelV v u->t v σ H Q->
  wpAny (model X.prog X.w) X.A (assign target X.env u) (λ_ s'=>∃σ' H',Inv X aa σ' H' s'/\Q σ' H') X.xe s
def GK(X:Cx)(ts:List Expr)(t:JM):Prop:=
 ∀(aa:List (Addr×Obj))(s:QX)(σ:St)(H:Hp)(vs:List V)(us:List Q0)(Q:St->Hp->Prop),Inv X aa σ H s->Vals vs us->t vs σ H Q->
  wpAny (model X.prog X.w) X.A (assignInOrder ((assignEach ts X.env).map (·.2)) us) (λ_ s'=>∃σ' H',Inv X aa σ' H' s'/\Q σ' H') X.xe s
section
noncomputable def aU(i:Nat):TG:=λv σ H Q=>Q (σ.set i (some v)) H
def bP(hN:X.N.Nodup)(hi:X.N[i]?=some x)(hx:DE X.env.scope x)(hf:autoParam (X.fn x=true\/X.env.scope.names.lookup x=some .local) Ra):PG X (.Name x pos) (aU i):=by intro aa s σ H v u Q I r h;exact wpAny_assign_Name (oF I hN hi hx r (λs' I'=>⟨_,H,I',h⟩) hf)
noncomputable def jm:JM:=λvs σ H Q=>vs=[]/\Q σ H
noncomputable def br(t:TG)(u:JM):JM:=λvs σ H Q=>∃v r,vs=v::r/\t v σ H λσ' H'=>u r σ' H' Q
def fV:GK X [] jm:=by intro aa s σ H vs us Q I r h;obtain⟨e,h⟩:=h;subst e;cases r;exact assignInOrder_nil ⟨σ,H,I,h⟩
def aI(h1:PG X e t)(h2:GK X es u)
 (hs:autoParam ((assignEach (e::es) X.env).map (·.2)=assign e X.env::(assignEach es X.env).map (·.2)) Rc):GK X (e::es) (br t u):=by
 intro aa s σ H vs us Q I r h;obtain⟨v,vr,e1,h⟩:=h;subst e1;cases r with
 |cons r rr=>rw[hs];refine assignInOrder_cons (cZ (h1 aa s σ H _ _ _ I r h) λ_ s1 ⟨σ1,H1,I1,q1⟩=>?_);exact h2 aa s1 σ1 H1 _ _ Q I1 rr q1
noncomputable def jn(K:QY)(n:Nat)(t:JM):TG:=λv σ H Q=>∃a xs,v=.ref a/\SqT K H a xs/\xs.length=n/\t xs σ H Q
def iu(hc:X.calm=true)(h:GK X es t)
 (hn:autoParam ((assignEach es X.env).length=n) Rc) (hst:autoParam ((assignEach es X.env).findIdx? (·.1)=none) Rc):PG X (.Tuple es k pos) (jn X.K n t):=by
 intro aa s σ H v u Q I r hw;obtain⟨a,xs,e1,hq,hl,hw⟩:=hw;subst e1;cases r;obtain⟨its,rv,ht,hz⟩:=I.tuple hq;refine assign_Tuple_tuple (I.ok.hd hc) ht (by simp[hn,<- hl,rv.length]) hst λh' hx=>?_;have I1:Inv X aa σ H {s with heap:=h'}:=I.kept (t':=s.toks) λb o e=>hx b o (e_ (cD e)) e;exact h aa _ σ H xs _ Q I1 (by simpa using rv) hw
noncomputable def lM(te:TE)(g:TG):TS:=λD σ H=>te σ H λx H1=>g x σ H1 D.nx
def GL(he:PE X e te)(hg:PG X tg g)(hs:autoParam (swapsWithSole [tg] e pos.line X.env=pure false) Rc)(hw:autoParam (swappedStores [tg] e X.env=pure none) Rc)
 (h1:autoParam ((assignEach [tg] X.env).map (·.2)=[assign tg X.env]) Rc):PS X (.Assign [tg] e pos) (lM te g):=by
 intro aa s σ H D I h;refine wpAny_Assign_stores (cZ (he aa s σ H _ I h) λv s1 ⟨x,H1,I1,r1,q1⟩=>?_) hs hw;rw[h1];exact cZ (hg aa s1 σ H1 x v _ I1 r1 q1) λ_ s2 q=>q
def iz(hN:X.N.Nodup)(hi:X.N[i]?=some x)(hx:DE X.env.scope x)(he:PE X e te)(hs:autoParam (swapsWith e (some (.Name x pos')) pos.line X.env=pure false) Rc)(hf:autoParam (X.fn x=true\/X.env.scope.names.lookup x=some .local) Ra) :
 PS X (.Assign [.Name x pos'] e pos) (lM te (aU i)):=by
 intro aa s σ H D I h;refine wpAny_Assign_Name (cZ (he aa s σ H _ I h) λv s1 ⟨y,H1,I1,r1,q1⟩=>?_) hs;exact oF I1 hN hi hx r1 (λs2 I2=>⟨_,H1,I2,q1⟩) hf
end
section
def AC(c:TT)(tb:TS):TS:=λD σ H=>∃W:Nat->St->Hp->Prop,(∃m,W m σ H)/\∀m σ H,W m σ H->
 c σ H λb H1=>if b=true then ∃N:St->Hp->Prop,(∀σ' H',N σ' H'->∃m',m'<m/\W m' σ' H')/\tb {D with nx:=N,ct:=N,bk:=D.nx} σ H1 else D.nx σ H1
def AD(hp:PassesOwn (model X.prog X.w) X.A X.env X.xe)(hc:PT X c tc)(hb:PSs X body tb):PS X (.While c body [] pos) (AC tc tb):=by
 intro aa s σ H D I h;obtain⟨W,⟨m0,w0⟩,turn⟩:=h;refine wpAny_While (codeAny_whileLoop (λn s'=>∃σ' H',Inv X aa σ' H' s'/\W n σ' H') ?_ m0 ⟨σ,H,I,w0⟩);rintro n s1 ⟨σ1,H1,I1,w1⟩;refine O_ hp (cZ (hc aa s1 σ1 H1 _ I1 (turn n σ1 H1 w1)) λb s2 ⟨H2,I2,q2⟩=>?_);cases b with
 |true=>
  obtain⟨N,hN,q2⟩:=q2;rw[b_ rfl];refine O_ hp (cZ (hb aa s2 σ1 H2 _ I2 q2) λf s3 q3=>?_);cases f with
  |next=>obtain⟨σ3,H3,I3,n3⟩:=q3;obtain⟨m',hm,w3⟩:=hN σ3 H3 n3;exact⟨m',hm,σ3,H3,I3,w3⟩
  |cont=>obtain⟨σ3,H3,I3,n3⟩:=q3;obtain⟨m',hm,w3⟩:=hN σ3 H3 n3;exact⟨m',hm,σ3,H3,I3,w3⟩
  |brk=>exact q3
  |ret v=>exact q3
 |false=>rw[cF vN];exact O3 ⟨σ1,H2,I2,q2⟩
end
structure It where
 go:Nat->Hp->Prop
 GB:Nat->Hp->V->Hp->Prop
 stop:Nat->Hp->Prop
def ki(X:Cx)(aa:List (Addr×Obj))(H:Hp)(b:Addr):Prop:=H b=none/\b≠X.env.locals/\b∉X.fs/\(b∈X.ex\/X.s₀.heap.objs.size<=b)/\(∀x c,X.env.cells.lookup x=some c->c≠b)/\∀p∈X.pn++aa,p.1≠b
def Inv.vF(I:Inv X aa σ H s)(hb:s.heap.objs.size<=b)(hn:H' b=none):ki X aa H' b:=by
 refine⟨hn,QE (fM I.lt hb),I.N4 hb,.inr (gC I.sz hb),λx c e z=>?_,λp hp z=>?_⟩
 .obtain⟨v,q⟩:=I.cell x c e;exact absurd (fM q.lt (by rw[z];exact hb)) (Pn _)
 .exact absurd (fM (cD (I.pin p hp).1) (by rw[z];exact hb)) (Pn _)
structure Turn(P:QZ) (w:World) (K:QY) (tg:Expr) (J:It) (fp:List Addr) (it:Addr) (tn:Nat->Heap->Prop):Prop where
 mem:it∈fp
 obj:∀i h,tn i h->∀b∈fp,∃o,h.get? b=some o/\∀v,o.data≠.cell v
 keep:∀i h h',tn i h->(∀b∈fp,∀o,h.get? b=some o->h'.get? b=some o)->tn i h'
 item:∀(X:Cx),X.prog=P->X.w=w->X.K=K->X.calm=true->∀(i:Nat)(aa:List (Addr×Obj))(s:QX)(σ:St)(H:Hp)(E:Q0->QX->Prop),Inv X aa σ H s->(∀b∈fp,ki X aa H b)->tn i s.heap->J.go i H->
  wpAny (model P w) X.A (pyNext (.ref it)) (λr s1=>∃u,r=some u/\
   wpAny (model P w) X.A (letOwnedTupleGo tg (.ref it) u) (λ_ s2=>∃x H',Inv X aa σ H' s2/\RelV x u/\J.GB i H x H'/\tn (i+1) s2.heap/\∀b∈fp,H' b=none) E s1) E s
 done:∀(X:Cx),X.prog=P->X.w=w->X.K=K->X.calm=true->∀(i:Nat)(aa:List (Addr×Obj))(s:QX)(σ:St)(H:Hp)(E:Q0->QX->Prop),Inv X aa σ H s->(∀b∈fp,ki X aa H b)->tn i s.heap->J.stop i H->
  wpAny (model P w) X.A (pyNext (.ref it)) (λr s1=>r=none/\Inv X aa σ H s1) E s
 self:∀(A:Q1)(i:Nat)(s:QX)(Q:Q0->QX->Prop)(E:Q0->QX->Prop),tn i s.heap->Q (.ref it) s->wpAny (model P w) A (pyIter (.ref it)) Q E s
abbrev TI:=St->Hp->(It->Hp->Prop)->Prop
def Oe(X:Cx)(aa:List (Addr×Obj))(σ:St)(tg:Expr)(R:It->Hp->Prop)(itv:Q0)(s2:QX):Prop:=∃(it:Addr)(fp:List Addr)(tn:Nat->Heap->Prop)(J:It)(H':Hp),itv=.ref it/\Inv X aa σ H' s2/\Turn X.prog X.w X.K tg J fp it tn/\tn 0 s2.heap/\(∀b∈fp,ki X aa H' b)/\R J H'
def PI(X:Cx)(tg iter:Expr)(wi:TI):Prop:=
 ∀(aa:List (Addr×Obj))(s:QX)(σ:St)(H:Hp)(R:It->Hp->Prop),Inv X aa σ H s->wi σ H R->
  wpAny (model X.prog X.w) X.A (eval iter X.env) (λv s1=>wpAny (model X.prog X.w) X.A (pyIter v) (Oe X aa σ tg R) X.xe s1) X.xe s
def AE(ho:s.heap.get? it=some o)(hc:o.cls=.type n)(hd:o.data=.fields vs)
 (hn:["enumerate","zip","dict_itemiterator","dict_reverseitemiterator","odict_iterator","itertools.zip_longest","itertools.pairwise"].contains n=false) (hQ:Q () s):wpAny M A (letOwnedTupleGo tg (.ref it) u) Q E s:=by
 unfold letOwnedTupleGo;cases tg<;>first
  |exact bY hQ
  |(cases u<;>first
     |exact bY hQ
     |(refine bj (wpAny_load ho ?_)
       rw[hc,hd];show wpAny M A (if(["enumerate","zip","dict_itemiterator","dict_reverseitemiterator","odict_iterator","itertools.zip_longest","itertools.pairwise"].contains n&&vs[0]?==some (rawInt _))=true then _ else _) Q E s;rw[cF (by intro h;rw[hn,QH]at h;cases h)];exact bY hQ))
noncomputable def DF(K:QY)(a:Addr):It:=⟨λi H=>∃xs x,SqL K H a xs/\xs[i]?=some x,λi H x H'=>H'=H/\∀xs,SqL K H a xs->xs[i]?=some x,λi H=>∃xs,SqL K H a xs/\xs.length<=i⟩
noncomputable def MX(K:QY)(a:Addr):It:=⟨λi H=>∃xs x,SqT K H a xs/\xs[i]?=some x,λi H x H'=>H'=H/\∀xs,SqT K H a xs->xs[i]?=some x,λi H=>∃xs,SqT K H a xs/\xs.length<=i⟩
noncomputable def ME(lo:Int)(n:Nat):It:=⟨λi _=>i<n,λi H x H'=>H'=H/\x=.int (lo+i),λi _=>n<=i⟩
def qY{K:QY}{tg:Expr}(a it:Addr):Turn P w K tg (DF K a) [it] it (λi h=>h.IsListIter it a i) where
 mem:=by simp
 obj:=λi h st b hb=>by
  have e:b=it:=by simpa using hb
  subst e;obtain⟨o,e,c,d⟩:=st;exact⟨o,e,λv z=>by rw[d]at z;cases z⟩
 keep:=λi h h' st k=>st.at λo e=>k it (by simp) o e
 item:=by intro X hP hw hK hc i aa s σ H E I hf st hg;subst hP hw hK;obtain⟨xs,x,hq,hx⟩:=hg;obtain⟨its,rv,p,hz⟩:=I.list hq;obtain⟨u,hu,ru⟩:=rv.get hx;obtain⟨f0,f1,f2,f3,f4,f5⟩:=hf it (by simp);refine wpAny_pyNext_list_item st p.isList (x:=u) (by simpa using hu) λh' st' sb=>?_;have I1:Inv X aa σ H {s with heap:=h'}:=I.turned (t':=s.toks) (λb o hb e=>(sb.2 b hb).trans e) f0 f1 f3 f4 f5;obtain⟨o,e,c,d⟩:=id st';exact⟨u,rfl,AE (s:={s with heap:=h'}) e c d (by decide) ⟨x,H,I1,ru,⟨rfl,λys hy=>by rw[I.vL hy hq];exact hx⟩,st',λb hb=>(hf b hb).1⟩⟩
 done:=by intro X hP hw hK hc i aa s σ H E I hf st hg;subst hP hw hK;obtain⟨xs,hq,hx⟩:=hg;obtain⟨its,rv,p,hz⟩:=I.list hq;obtain⟨f0,f1,f2,f3,f4,f5⟩:=hf it (by simp);have hl:=rv.length;exact wpAny_pyNext_list_end (I.ok.hd hc) st p.isList (by simp;lia) λh' eb=>⟨rfl,I.turned (t':=s.toks) (λb o hb e=>eb b o hb e) f0 f1 f3 f4 f5⟩
 self:=λ_ _ _ _ _ st h=>wpAny_pyIter_listiter st h
def v4{K:QY}{tg:Expr}(a it:Addr):Turn P w K tg (MX K a) [it] it (λi h=>h.IsTupleIter it a i) where
 mem:=by simp
 obj:=λi h st b hb=>by
  have e:b=it:=by simpa using hb
  subst e;obtain⟨o,e,c,d⟩:=st;exact⟨o,e,λv z=>by rw[d]at z;cases z⟩
 keep:=λi h h' st k=>st.at λo e=>k it (by simp) o e
 item:=by intro X hP hw hK hc i aa s σ H E I hf st hg;subst hP hw hK;obtain⟨xs,x,hq,hx⟩:=hg;obtain⟨its,rv,p,hz⟩:=I.tuple hq;obtain⟨u,hu,ru⟩:=rv.get hx;obtain⟨f0,f1,f2,f3,f4,f5⟩:=hf it (by simp);refine wpAny_pyNext_tuple_item st (show s.heap.IsTuple a its.toArray from p) (x:=u) (by simpa using hu) λh' st' sb=>?_;have I1:Inv X aa σ H {s with heap:=h'}:=I.turned (t':=s.toks) (λb o hb e=>(sb.2 b hb).trans e) f0 f1 f3 f4 f5;obtain⟨o,e,c,d⟩:=id st';exact⟨u,rfl,AE (s:={s with heap:=h'}) e c d (by decide) ⟨x,H,I1,ru,⟨rfl,λys hy=>by rw[I.Ak hy hq];exact hx⟩,st',λb hb=>(hf b hb).1⟩⟩
 done:=by intro X hP hw hK hc i aa s σ H E I hf st hg;subst hP hw hK;obtain⟨xs,hq,hx⟩:=hg;obtain⟨its,rv,p,hz⟩:=I.tuple hq;obtain⟨f0,f1,f2,f3,f4,f5⟩:=hf it (by simp);have hl:=rv.length;exact wpAny_pyNext_tuple_end (I.ok.hd hc) st (show s.heap.IsTuple a its.toArray from p) (by simp;lia) λh' eb=>⟨rfl,I.turned (t':=s.toks) (λb o hb e=>eb b o hb e) f0 f1 f3 f4 f5⟩
 self:=λ_ _ _ _ _ st h=>wpAny_pyIter_tupleiter st h
def v5{K:QY}{tg:Expr}(it:Addr)(lo:Int)(n:Nat):Turn P w K tg (ME lo n) [it] it (λi h=>IsRangeIter h it (lo+(i:Nat)*1) ((n:Int)-(i:Nat)) 1) where
 mem:=by simp
 obj:=λi h st b hb=>by grind
 keep:=λi h h' st k=>k it (by simp) _ st
 item:=by intro X hP hw hK hc i aa s σ H E I hf st hg;subst hP hw hK;obtain⟨f0,f1,f2,f3,f4,f5⟩:=hf it (by simp);have W:=Walks.range (prog:=X.prog) (w:=X.w) (I.ok.hd hc) it lo 1 n;refine W.item i s _ _ hg st λv h' tk hv st' kk=>?_;obtain⟨t,rfl⟩:=hv;have I1:Inv X aa σ H {s with heap:=h',toks:=tk}:=I.turned (λb o hb e=>kk b o (by simpa using hb) e) f0 f1 f3 f4 f5;refine⟨_,rfl,AE (s:={s with heap:=h',toks:=tk}) (n:="range_iterator") st' rfl rfl (by decide) ⟨.int (lo+i),H,I1,⟨t,?_⟩,⟨rfl,rfl⟩,st',λb hb=>(hf b hb).1⟩⟩;rw[Int.mul_one]
 done:=by intro X hP hw hK hc i aa s σ H E I hf st hg;subst hP hw hK;obtain⟨f0,f1,f2,f3,f4,f5⟩:=hf it (by simp);exact wpAny_pyNext_range_end (I.ok.hd hc) st (by have:n<=i:=hg;lia) λh' eb=>⟨rfl,I.turned (t':=s.toks) (λb o hb e=>eb b o hb e) f0 f1 f3 f4 f5⟩
 self:=λ_ _ _ _ _ st h=>wpAny_pyIter_rangeiter st h
section
def kC(K:QY)(tl:TE):TI:=λσ H R=>tl σ H λx H1=>∃a,x=.ref a/\(∃xs,SqL K H1 a xs)/\R (DF K a) H1
def iA{tl:TE}(hl:PE X l tl):PI X tg l (kC X.K tl):=by
 intro aa s σ H R I h;refine cZ (hl aa s σ H _ I h) λv s1 ⟨x,H1,I1,r1,q1⟩=>?_;obtain⟨a,e,⟨xs,hq⟩,q⟩:=q1;subst e;cases r1;obtain⟨its,rv,p,hz⟩:=I1.list hq;refine Qa p.isList ?_;refine⟨s1.heap.objs.size,[s1.heap.objs.size],_,_,H1,rfl,I1.kept (t':=s1.toks) λb o e=>bE _ e,qY a _,⟨_,cQ _ rfl,rfl,rfl⟩,λb hb=>?_,q⟩;have e:b=s1.heap.objs.size:=by simpa using hb
 subst e;exact I1.vF (bK _) (I1.aZ.fresh (bK _))
def AF{s:QX}{R:It->Hp->Prop}{E:Q0->QX->Prop}{lo hi:Int}{t u v:Tok}{tk:Nat}(I:Inv X aa σ H s)(h1:-(2^62)<=lo)(h2:lo<2^62)(h3:-(2^62)<=hi)(h4:hi<2^62)
 (q:R (ME lo (hi-lo).toNat) H):wX X (pyIter (.ref s.heap.objs.size)) (Oe X aa σ tg R) E { s with heap:=s.heap.push { cls:=.type "range",data:=.fields #[.int lo t,.int hi u,.int 1 v] },toks:=tk }:=by
 refine wpAny_pyIter_range (IsRange.new ..) (small_one h1 h2 h3 h4) ?_;have I1:Inv X aa σ H { s with heap:=s.heap.push { cls:=.type "range",data:=.fields #[.int lo t,.int hi u,.int 1 v] },toks:=tk }:=I.kept λb o e=>bE _ e;refine⟨(s.heap.push { cls:=.type "range",data:=.fields #[.int lo t,.int hi u,.int 1 v] }).objs.size,[(s.heap.push { cls:=.type "range",data:=.fields #[.int lo t,.int hi u,.int 1 v] }).objs.size],_,_,H,rfl,
  I1.kept (t':=tk) λb o e=>bE _ e,v5 _ lo (hi-lo).toNat,?_,λb hb=>?_,q⟩
 .have e1:lo+((0:Nat):Int)*1=lo:=by simp
  have e2:(((hi-lo).toNat:Nat):Int)-((0:Nat):Int)=Builtin.Range.rangeSize lo hi 1:=by rw[rangeSize_one];split<;>lia
  show IsRangeIter _ _ (lo+((0:Nat):Int)*1) ((((hi-lo).toNat:Nat):Int)-((0:Nat):Int)) 1;rw[e1,e2];exact cQ _ rfl
 .have e:b=(s.heap.push { cls:=.type "range",data:=.fields #[.int lo t,.int hi u,.int 1 v] }).objs.size:=by simpa using hb
  subst e;exact I1.vF (bK _) (I1.aZ.fresh (bK _))
def JZ(ta:TA):TI:=λσ H R=>ta σ H λvs H1=>∃j:Int,vs=[.int j]/\-(2^62)<=j/\j<2^62/\R (ME 0 j.toNat) H1
def yN{a:Expr}{ta:TA}{p pos:Pos}(hg:Gl X "range") (hm:X.mg "range"=none) (ha:PA X [a] ta) (hs:autoParam (starEach [a] X.env=[(false,eval a X.env)]) Rc):PI X tg (.Call (.Name "range" p) [a] [] pos) (JZ ta):=by
 intro aa s σ H R I h;refine Call_ (kZ I hg hm boot_range (xB (cZ (ha pos aa s σ H _ I h) λus s1 ⟨vs,H1,I1,r1,q1⟩=>?_) hs rfl));obtain⟨j,e,q1,q2,q⟩:=q1;subst e;cases r1 with
 |cons r rr=>cases rr;obtain⟨t,rfl⟩:=r;exact call_range_1 (AF I1 (by lia) (by lia) q1 q2 (by simpa using q))
def nW(wi:TI)(g:TG)(tb:TS):TS:=λD σ H=>wi σ H λJ H1=>∃W:Nat->Nat->St->Hp->Prop,(∃m,W 0 m σ H1)/\∀i m σ H,W i m σ H->
 (J.stop i H/\D.nx σ H)\/(J.go i H/\∃N:St->Hp->Prop,(∀σ' H',N σ' H'->∃m',m'<m/\W (i+1) m' σ' H')/\∀x H',J.GB i H x H'->g x σ H' λσ2 H2=>tb {D with nx:=N,ct:=N,bk:=D.nx} σ2 H2)
noncomputable def oH(fp:List Addr)(h:Heap):List (Addr×Obj):=fp.filterMap λb=>(h.get? b).map λo=>(b,o)
def iB(hb:b∈fp)(e:h.get? b=some o):(b,o)∈oH fp h:=Df.mpr ⟨b,hb,by rw[e];rfl⟩
def yO(hp:p∈oH fp h):p.1∈fp/\h.get? p.1=some p.2:=by
 obtain⟨b,hb,e⟩:=Df.mp hp;cases q:h.get? b with
 |none=>rw[q]at e;cases e
 |some o=>rw[q]at e;have e':(b,o)=p:=kY e;subst e';exact⟨hb,q⟩
def Inv.pinned(I:Inv X aa σ H s)(hf:∀b∈fp,ki X aa H b)(ho:∀b∈fp,∃o,s.heap.get? b=some o/\∀v,o.data≠.cell v):Inv X (aa++oH fp s.heap) σ H s:=
 I.yG λp hp=>(fD.mp hp).elim (λz=>I.pin p (jj _ z)) λz=>by
  obtain⟨hb,e⟩:=yO z;obtain⟨f0,f1,f2,_⟩:=hf p.1 hb
  grind
def Inv.mI(I:Inv X (aa++pl) σ H s):Inv X aa σ H s:=I.yG λp hp=>I.pin p (jj _ (jX _ hp))
def iC(hp:PassesOwn (model X.prog X.w) X.A X.env X.xe)(hc:X.calm=true)(hi:PI X tg iter wi)(hg:PG X tg g)(hb:PSs X body tb)
 (hs:autoParam (∀x,foldedSetIterable iter X.env x=pure x) Rb):PS X (.For tg iter body [] pos) (nW wi g tb):=by
 intro aa s σ H D I h;refine wpAny_For (cZ (hi aa s σ H _ I h) λv s1 h1=>cZ h1 λitv s2 h2=>?_) hs;obtain⟨it,fp,tn,J,H2,e,I2,T,st2,f2,W,⟨m0,w0⟩,turn⟩:=h2;subst e;have stat:∀{H':Hp},(∀b∈fp,H' b=none)->∀b∈fp,ki X aa H' b:=λhn b hb=>⟨hn b hb,(f2 b hb).2⟩;refine codeAny_forLoop_any (λn s'=>∃i σ' H',Inv X aa σ' H' s'/\tn i s'.heap/\(∀b∈fp,H' b=none)/\W i n σ' H') ?_ m0 ⟨0,σ,H2,I2,st2,λb hb=>(f2 b hb).1,w0⟩;rintro n s3 ⟨i,σ3,H3,I3,st3,fr3,w3⟩;rcases turn i n σ3 H3 w3 with⟨stop,qn⟩|⟨go,N,hN,step⟩
 .refine O_ hp (cZ (T.done X rfl rfl rfl hc i aa s3 σ3 H3 X.xe I3 (stat fr3) st3 stop) λr s4 ⟨hr,I4⟩=>?_);subst hr;exact O3 ⟨σ3,H3,I4,qn⟩
 .refine O_ hp (cZ (T.item X rfl rfl rfl hc i aa s3 σ3 H3 X.xe I3 (stat fr3) st3 go) λr s4 ⟨u,hr,h4⟩=>?_);subst hr;refine O_ hp (cZ h4 λ_ s5 ⟨x,H5,I5,r5,y5,st5,fr5⟩=>?_);have I5':=I5.pinned (stat fr5) (T.obj _ _ st5);refine O_ hp (cZ (hg _ s5 σ3 H5 x u _ I5' r5 (step x H5 y5)) λ_ s6 ⟨σ6,H6,I6,q6⟩=>?_);refine O_ hp (cZ (hb _ s6 σ6 H6 _ I6 q6) λf s7 q7=>?_);have again:∀{σ7:St}{H7:Hp},Inv X (aa++oH fp s5.heap) σ7 H7 s7->N σ7 H7->∃m,m<n/\∃i σ' H',Inv X aa σ' H' s7/\tn i s7.heap/\(∀b∈fp,H' b=none)/\W i m σ' H':=λ{σ7 H7} I7 n7=>by obtain⟨m',hm,w7⟩:=hN σ7 H7 n7;refine⟨m',hm,i+1,σ7,H7,I7.mI,T.keep _ _ _ st5 λb hb o e=>(I7.pin (b,o) (jj _ (jj _ (iB hb e)))).1,λb hb=>?_,w7⟩;obtain⟨o,e,d⟩:=T.obj _ _ st5 b hb;exact(I7.pin (b,o) (jj _ (jj _ (iB hb e)))).2.1
  cases f with
  |next=>obtain⟨σ7,H7,I7,n7⟩:=q7;exact again I7 n7
  |cont=>obtain⟨σ7,H7,I7,n7⟩:=q7;exact again I7 n7
  |brk=>obtain⟨σ7,H7,I7,q7⟩:=q7;exact⟨σ7,H7,I7.mI,q7⟩
  |ret v=>obtain⟨x7,σ7,H7,I7,r7,q7⟩:=q7;exact⟨x7,σ7,H7,I7.mI,r7,q7⟩
end
def uq{K:QY}{a:Addr}{xs:List V}{g:TG}{tb:TS}{D:Ends}{σ:St}{H:Hp}(Pv:Nat->St->Hp->Prop)(h0:Pv 0 σ H)(hl:∀i σ H,i<=xs.length->Pv i σ H->SqL K H a xs)
 (hs:∀i x σ H,xs[i]?=some x->Pv i σ H->g x σ H λσ2 H2=>tb {D with nx:=Pv (i+1),ct:=Pv (i+1),bk:=D.nx} σ2 H2) (hd:∀σ H,Pv xs.length σ H->D.nx σ H) :
 ∃W:Nat->Nat->St->Hp->Prop,(∃m,W 0 m σ H)/\∀i m σ H,W i m σ H->
  ((DF K a).stop i H/\D.nx σ H)\/((DF K a).go i H/\∃N:St->Hp->Prop,(∀σ' H',N σ' H'->∃m',m'<m/\W (i+1) m' σ' H')/\∀x H',(DF K a).GB i H x H'->g x σ H' λσ2 H2=>tb {D with nx:=N,ct:=N,bk:=D.nx} σ2 H2):=by
 refine⟨λi m σ H=>m=xs.length-i/\i<=xs.length/\Pv i σ H,⟨xs.length,by simp,jT _,h0⟩,?_⟩;rintro i m σ H ⟨rfl,hi,p⟩;have q:=hl i σ H hi p;by_cases hlt:i<xs.length
 .refine .inr ⟨⟨xs,xs[i],q,by simp[hlt]⟩,Pv (i+1),λσ' H' p'=>⟨xs.length-(i+1),by lia,rfl,hlt,p'⟩,λx H' y=>?_⟩;obtain⟨e,y⟩:=y;subst e;exact hs i x σ _ (y xs q) p
 .have e:i=xs.length:=by lia
  subst e;exact .inl ⟨⟨xs,q,bK _⟩,hd σ H p⟩
abbrev R2:=V->V->Hp->VK->Prop
def OpR(X:Cx)(f:Q0->Q0->Sem Q0)(r:R2):Prop:=
 ∀(aa:List (Addr×Obj))(s:QX)(σ:St)(H:Hp)(x y:V)(v u:Q0)(Q:VK),Inv X aa σ H s->RelV x v->RelV y u->r x y H Q->
  wpAny (model X.prog X.w) X.A (f v u) (EP X aa σ Q) X.xe s
def MY(X:Cx)(f:Q0->Sem Q0)(r:V->Hp->VK->Prop):Prop:=
 ∀(aa:List (Addr×Obj))(s:QX)(σ:St)(H:Hp)(x:V)(v:Q0)(Q:VK),Inv X aa σ H s->RelV x v->r x H Q->
  wpAny (model X.prog X.w) X.A (f v) (EP X aa σ Q) X.xe s
def CallR(X:Cx)(f:Q0)(r:List V->Hp->VK->Prop):Prop:=
 ∀(aa:List (Addr×Obj))(s:QX)(σ:St)(H:Hp)(xs:List V)(us:List Q0)(Q:VK),Inv X aa σ H s->Vals xs us->r xs H Q->
  wpAny (model X.prog X.w) X.A (call f us) (EP X aa σ Q) X.xe s
def MZ(X:Cx)(r:V->Hp->(Bool->Hp->Prop)->Prop):Prop:=
 ∀(aa:List (Addr×Obj))(s:QX)(σ:St)(H:Hp)(x:V)(v:Q0)(Q:Bool->Hp->Prop),Inv X aa σ H s->RelV x v->r x H Q->
  wpAny (model X.prog X.w) X.A (truthy v) (TP X aa σ Q) X.xe s
noncomputable def k7(r:R2)(ta tb:TE):TE:=λσ H Q=>ta σ H λx H1=>tb σ H1 λy H2=>r x y H2 Q
noncomputable def Oy(r:V->Hp->VK->Prop)(ta:TE):TE:=λσ H Q=>ta σ H λx H1=>r x H1 Q
noncomputable def rI(C:Int->Int->Prop)(g:Int->Int->V):R2:=λx y H Q=>∃i j,x=.int i/\y=.int j/\C i j/\Q (g i j) H
noncomputable def xF(g:Int->Int->V):R2:=λx y H Q=>∃i j,x=.int i/\y=.int j/\Q (g i j) H
noncomputable def rU(g:Int->V):V->Hp->VK->Prop:=λx H Q=>∃i,x=.int i/\Q (g i) H
section
def GM(ha:PE X a ta)(hb:PE X b tb){R:V->V->Hp->Prop}(I:Inv X aa σ H s)
 (h:ta σ H λx H1=>tb σ H1 λy H2=>R x y H2) {Q:Q0->QX->Prop} {f:Q0->Q0->Sem Q0}
 (hf:∀v u s2 x y H2,Inv X aa σ H2 s2->RelV x v->RelV y u->R x y H2->wX X (f v u) Q X.xe s2) :
 wX X (eval a X.env) (λv s₁=>wX X (eval b X.env) (λu s₂=>wX X (f v u) Q X.xe s₂) X.xe s₁) X.xe s:=by
 refine cZ (ha aa s σ H _ I h) λv s1 ⟨x,H1,I1,r1,q1⟩=>?_;refine cZ (hb aa s1 σ H1 _ I1 q1) λu s2 ⟨y,H2,I2,r2,q2⟩=>?_;exact hf v u s2 x y H2 I2 r1 r2 q2
def oJ{op:Operator}(ho:OpR X (binaryOp op) r)(ha:PE X a ta)(hb:PE X b tb):PE X (.BinOp a op b pos) (k7 r ta tb):=by intro aa s σ H Q I h;exact wpAny_BinOp (GM ha hb I h λv u s2 x y H2 I2 rx ry q=>ho aa s2 σ H2 x y v u Q I2 rx ry q)
def J0(ho:MY X (unaryOp op) r)(ha:PE X a ta):PE X (.UnaryOp op a pos) (Oy r ta):=by intro aa s σ H Q I h;exact UnaryOp_ (cZ (ha aa s σ H _ I h) λv s1 ⟨x,H1,I1,r1,q1⟩=>ho aa s1 σ H1 x v Q I1 r1 q1)
def J1{f:Q0->Q0->Sem Q0}{C:Int->Int->Prop}{g:Int->Int->Int}
 (rule:∀(i j:Int)(t u:Tok)(s:QX)(Q:Q0->QX->Prop)(E:Q0->QX->Prop),C i j->Q (.int (g i j) s.toks) {s with toks:=s.toks+1}->wX X (f (.int i t) (.int j u)) Q E s) :
 OpR X f (rI C λi j=>.int (g i j)):=by
 intro aa s σ H x y v u Q I rx ry h;obtain⟨i,j,rfl,rfl,hc,q⟩:=h;obtain⟨t,rfl⟩:=rx;obtain⟨t',rfl⟩:=ry;exact rule i j t t' s _ _ hc ⟨.int (g i j),H,I.tok _,⟨_,rfl⟩,q⟩
def DG{f:Q0->Q0->Sem Q0}{g:Int->Int->Int}
 (rule:∀(i j:Int)(t u:Tok)(s:QX)(Q:Q0->QX->Prop)(E:Q0->QX->Prop),Q (.int (g i j) s.toks) {s with toks:=s.toks+1}->wX X (f (.int i t) (.int j u)) Q E s) :
 OpR X f (xF λi j=>.int (g i j)):=by
 intro aa s σ H x y v u Q I rx ry h;obtain⟨i,j,rfl,rfl,q⟩:=h;obtain⟨t,rfl⟩:=rx;obtain⟨t',rfl⟩:=ry;exact rule i j t t' s _ _ ⟨.int (g i j),H,I.tok _,⟨_,rfl⟩,q⟩
def GN{f:Q0->Q0->Sem Q0}{g:Int->Int->Bool}
 (rule:∀(i j:Int)(t u:Tok)(s:QX)(Q:Q0->QX->Prop)(E:Q0->QX->Prop),Q (.bool (g i j)) s->wX X (f (.int i t) (.int j u)) Q E s) :
 OpR X f (xF λi j=>.bl (g i j)):=by
 intro aa s σ H x y v u Q I rx ry h;obtain⟨i,j,rfl,rfl,q⟩:=h;obtain⟨t,rfl⟩:=rx;obtain⟨t',rfl⟩:=ry;exact rule i j t t' s _ _ ⟨.bl (g i j),H,I,rfl,q⟩
def J2(i j:Int):Prop:=0<j/\j<1073741824
def M7(i j:Int):Prop:=0<=j/\j<=1000000/\i.natAbs<2^64
def CMul(i j:Int):Prop:=(-(2^64)<i/\i<2^64)\/(-(2^64)<j/\j<2^64)
def CMul.ok(h:CMul i j):IntMulOk i j:=by
 rcases h with⟨h1,h2⟩|⟨h1,h2⟩
 .exact .of_left (intBits_le_64 h1 h2)
 .exact .of_right (intBits_le_64 h1 h2)
def v6(k:Nat):(0:Int)<=2^k:=by rw[two_pow_cast];exact Int.natCast_nonneg _
def op_add:OpR X (binaryOp .Add) (xF λi j=>.int (i+j)):=DG λ_ _ _ _ _ _ _ q=>add_int q
def GO:OpR X (binaryOp .Sub) (xF λi j=>.int (i-j)):=DG λ_ _ _ _ _ _ _ q=>sub_int q
def GP:OpR X (binaryOp .Mult) (rI CMul λi j=>.int (i*j)):=J1 λ_ _ _ _ _ _ _ hc q=>mul_int q hc.ok
def DH:OpR X (binaryOp .FloorDiv) (rI J2 λi j=>.int (i/j)):=J1 λi j _ _ _ _ _ hc q=>by have h1:(0:Int)<j:=hc.1;have h2:j<1073741824:=hc.2;exact floordiv_int (by lia) (by rw[PN i (by lia)];exact q) (.inl (PyProof.noPylong_small (by lia)))
def GQ:OpR X (binaryOp .Mod) (rI (λ_ j=>0<j) λi j=>.int (i%j)):=J1 λi j _ _ _ _ _ hc q=>by have h1:(0:Int)<j:=hc;exact mod_int' (by lia) (by rw[Int.fmod_eq_emod_of_nonneg i (by lia)];exact q)
def GR:OpR X (binaryOp .Pow) (rI M7 λi j=>.int (i^j.toNat)):=J1 λ_ _ _ _ _ _ _ hc q=>pow_int_small hc.1 hc.2.1 hc.2.2 q
def GS:OpR X (binaryOp .RShift) (rI (λ_ j=>0<=j) λi j=>.int (i/2^j.toNat)):=J1 λi j _ _ _ _ _ hc q=>rshift_int hc (by rw[PN i (v6 _)];exact q)
def GT:OpR X (binaryOp .BitAnd) (xF λi j=>.int (Builtin.bitAnd i j)):=DG λ_ _ _ _ _ _ _ q=>and_int q
def GU:OpR X (binaryOp .BitXor) (xF λi j=>.int (Builtin.bitXor i j)):=DG λ_ _ _ _ _ _ _ q=>xor_int q
def Oz{f:Q0->Sem Q0}{g:Int->Int}
 (rule:∀(i:Int)(t:Tok)(s:QX)(Q:Q0->QX->Prop)(E:Q0->QX->Prop),Q (.int (g i) s.toks) {s with toks:=s.toks+1}->wX X (f (.int i t)) Q E s) :
 MY X f (rU λi=>.int (g i)):=by
 intro aa s σ H x v Q I rx h;obtain⟨i,rfl,q⟩:=h;obtain⟨t,rfl⟩:=rx;exact rule i t s _ _ ⟨.int (g i),H,I.tok _,⟨_,rfl⟩,q⟩
def GV:MY X (unaryOp .USub) (rU λi=>.int (-i)):=Oz λ_ _ _ _ _ q=>neg_int q
end
noncomputable def M8:V->V->Bool
 |.bL,.bL=>true|.bL,.int _=>true|.int _,.bL=>true|.bL,.bl _=>true|.bl _,.bL=>true|.bL,.str _=>true|.str _,.bL=>true
 |.int _,.int _=>true|.bl _,.bl _=>true|.str _,.str _=>true|.Am _,.Am _=>true
 |.int _,.str _=>true|.str _,.int _=>true|.bl _,.str _=>true|.str _,.bl _=>true
 |_,_=>false
def JN:R2:=λx y H Q=>M8 x y=true/\Q (.bl (decide (x=y))) H
def DI:decide (V.int i=V.int j)=(i==j):=by rw[PB];simp
def GW:decide (V.bl i=V.bl j)=(i==j):=by rw[PB];simp
def DJ:decide (V.str i=V.str j)=(i==j):=by rw[PB];simp
def DM:decide (V.Am i=V.Am j)=(i.toList==j.toList):=by rw[PB];cases i;cases j;simp
section
def dD(I:Inv X aa σ H s)(q:Q (.bl k) H)(e:k=k'):EP X aa σ Q (.bool k') s:=by subst e;exact⟨.bl k,H,I,rfl,q⟩
def xG:OpR X (compareOp .Eq) JN:=by
 intro aa s σ H x y v u Q I rx ry h;obtain⟨hs,q⟩:=h;cases x with
 |bL=>
  cases rx;cases y with
  |bL=>cases ry;exact PySem.EqNone.eq_none_none (dD I q (by simp))
  |bl j=>cases ry;exact PySem.EqNone.eq_none_bool (dD I q (by simp))
  |int j=>obtain⟨t',rfl⟩:=ry;exact PySem.EqNone.eq_none_int (dD I q (by simp))
  |str j=>obtain⟨t',rfl⟩:=ry;exact PySem.EqNone.eq_none_str (dD I q (by simp))
  |_=>exact absurd (show false=true from hs) vN
 |bl i=>
  cases rx;cases y with
  |bL=>cases ry;exact PySem.EqNone.eq_bool_none (dD I q (by simp))
  |bl j=>cases ry;exact eq_bool (dD I q GW)
  |str j=>obtain⟨t',rfl⟩:=ry;exact PySem.EqMixed.eq_bool_str (dD I q (by simp))
  |_=>exact absurd (show false=true from hs) vN
 |int i=>
  obtain⟨t,rfl⟩:=rx;cases y with
  |bL=>cases ry;exact PySem.EqNone.eq_int_none (dD I q (by simp))
  |int j=>obtain⟨t',rfl⟩:=ry;exact eq_int (dD I q DI)
  |str j=>obtain⟨t',rfl⟩:=ry;exact PySem.EqMixed.eq_int_str (dD I q (by simp))
  |_=>exact absurd (show false=true from hs) vN
 |str i=>
  obtain⟨t,rfl⟩:=rx;cases y with
  |bL=>cases ry;exact PySem.EqNone.eq_str_none (dD I q (by simp))
  |bl j=>cases ry;exact PySem.EqMixed.eq_str_bool (dD I q (by simp))
  |int j=>obtain⟨t',rfl⟩:=ry;exact PySem.EqMixed.eq_str_int (dD I q (by simp))
  |str j=>obtain⟨t',rfl⟩:=ry;exact eq_str (dD I q DJ)
  |_=>exact absurd (show false=true from hs) vN
 |Am i=>
  obtain⟨t,rfl⟩:=rx;cases y with
  |Am j=>obtain⟨t',rfl⟩:=ry;exact PySem.W.eq_bytes (dD I q DM)
  |_=>exact absurd (show false=true from hs) vN
 |_=>cases y<;>exact absurd (show false=true from hs) vN
def FD:OpR X (compareOp .Lt) (xF λi j=>.bl (decide (i<j))):=GN λ_ _ _ _ _ _ _ q=>lt_int q
def FE:OpR X (compareOp .Gt) (xF λi j=>.bl (decide (j<i))):=GN λ_ _ _ _ _ _ _ q=>gt_int q
def J3:OpR X (compareOp .GtE) (xF λi j=>.bl (decide (j<=i))):=GN λ_ _ _ _ _ _ _ q=>ge_int q
def GX:OpR X (compareOp .Is) (λx y H Q=>y=.bL/\Q (.bl (decide (x=.bL))) H):=by
 intro aa s σ H x y v u Q I rx ry h;obtain⟨rfl,q⟩:=h;cases ry;refine is_none_gen (dD I q ?_);cases x<;>first
  |(cases rx;rfl)
  |(obtain⟨t,rfl⟩:=rx;rfl)
def OpR.or(h:OpR X f r)(h':OpR X f r'):OpR X f (λx y H Q=>r x y H Q\/r' x y H Q):=by
 intro aa s σ H x y v u Q I rx ry q;rcases q with q|q
 .exact h aa s σ H x y v u Q I rx ry q
 .exact h' aa s σ H x y v u Q I rx ry q
def cp(b:Expr)(h:autoParam (op≠.In) Q_)(h2:autoParam (op≠.NotIn) Q_):behindInMarks op b=false:=by
 have e1:(op==CmpOp.In)=false:=by cases op<;>first|rfl|exact absurd rfl h
 have e2:(op==CmpOp.NotIn)=false:=by cases op<;>first|rfl|exact absurd rfl h2
 cases b<;>simp[behindInMarks,e1,e2]
def xH(ho:OpR X (compareOp op) r)(ha:PE X a ta)(hb:PE X b tb)(hm:behindInMarks op b=false):PE X (.Compare a [op] [b] pos) (k7 r ta tb):=by intro aa s σ H Q I h;exact wpAny_Compare1 (GM ha hb I h λv u s2 x y H2 I2 rx ry q=>ho aa s2 σ H2 x y v u Q I2 rx ry q) hm
noncomputable def nH(t:TE):TT:=λσ H Q=>t σ H λx H'=>∃k,x=.bl k/\Q k H'
def iD(ho:OpR X (compareOp op) r)(ha:PE X a ta)(hb:PE X b tb)(hm:behindInMarks op b=false):PT X (.Compare a [op] [b] pos) (nH (k7 r ta tb)):=by intro aa s σ H Q I h;refine wpAny_isTrue_Compare1 (cZ (ha aa s σ H _ I h) λv s1 ⟨x,H1,I1,r1,q1⟩=>cZ (hb aa s1 σ H1 _ I1 q1) λu s2 ⟨y,H2,I2,r2,q2⟩=>cZ (ho aa s2 σ H2 x y v u _ I2 r1 r2 q2) λc s3 ⟨z,H3,I3,r3,k,e,q3⟩=>?_) hm;subst e;cases r3;exact PF ⟨H3,I3,q3⟩
def GY(K:QY)(x:V)(H:Hp)(k:Bool):Prop:=
 match x with
 |.bL=>k=false
 |.bl b=>k=b
 |.int i=>k=(i != 0)
 |.str y=>y.length<=sizeLine/\k=((y.length:Int) != 0)
 |.Am y=>y.size<=sizeLine/\k=((y.size:Int) != 0)
 |.ref p=>(∃xs,SqL K H p xs/\k=!xs.isEmpty)\/(∃xs,SqT K H p xs/\k=!xs.isEmpty)\/∃kvs,H p=some (.dK kvs)/\k=!kvs.isEmpty
 |_=>False
def v7{κ:Type}{kvs:List (κ×V)}{vs:List (κ×Q0)}(r:KV kvs vs):(!vs.isEmpty)=!kvs.isEmpty:=by cases r<;>rfl
def oK(r:Vals xs its):(!its.toArray.isEmpty)=!xs.isEmpty:=by cases r<;>simp
def mR:(sizeLine:Nat)<2^63:=by rw[jY];decide
def GZ:MZ X (λx H Q=>∃k,GY X.K x H k/\Q k H):=by
 intro aa s σ H x v Q I rx h;obtain⟨k,e,q⟩:=h;have hl:=mR;have hs:sizeLine=16777216:=jY;cases x with
 |bL=>cases rx;have e':k=false:=e;subst e';exact truthy_none ⟨H,I,q⟩
 |bl b=>cases rx;have e':k=b:=e;subst e';exact PF ⟨H,I,q⟩
 |int i=>obtain⟨t,rfl⟩:=rx;have e':k=(i != 0):=e;subst e';exact PySem.P.truthy_int ⟨H,I,q⟩
 |str y=>obtain⟨t,rfl⟩:=rx;obtain⟨hy,e'⟩ : y.length<=sizeLine/\k=((y.length:Int) != 0):=e;subst e';exact PySem.P.truthy_str (by lia) ⟨H,I.tok _,q⟩
 |Am y=>obtain⟨t,rfl⟩:=rx;obtain⟨hy,e'⟩ : y.size<=sizeLine/\k=((y.size:Int) != 0):=e;subst e';exact PySem.W.truthy_bytes (by lia) ⟨H,I.tok _,q⟩
 |ref p=>
  cases rx;have e':(∃xs,SqL X.K H p xs/\k=!xs.isEmpty)\/(∃xs,SqT X.K H p xs/\k=!xs.isEmpty)\/∃kvs,H p=some (.dK kvs)/\k=!kvs.isEmpty:=e;rcases e' with⟨xs,hx,e'⟩|⟨xs,hx,e'⟩|⟨kvs,hx,e'⟩
  .subst e';obtain⟨its,r,pl,hz⟩:=I.list hx;have cr:=r.length;exact wpAny_truthy_list pl.isList (by simp only[cP];lia) ⟨H,I.tok _,by rw[oK r];exact q⟩
  .subst e';obtain⟨its,r,pl,hz⟩:=I.tuple hx;have cr:=r.length;exact truthy_tuple pl (by simp only[cP];lia) ⟨H,I.tok _,by rw[oK r];exact q⟩
  .subst e';obtain⟨hz,hS,vs,r,m⟩ : kvs.length<=sizeLine/\(p==sysModules)=false/\∃vs,KV kvs vs/\s.heap.DictOf (aJ X.prog X.w) p vs:=I.aZ p _ hx;have cr:kvs.length=vs.length:=Qw r;exact wpAny_truthy_dict hS m (by lia) ⟨H,I.tok _,by rw[v7 r];exact q⟩
 |_=>exact(show False from e).elim
def AG(ha:PE X a ta)(he:∀whole,isTrue a X.env whole=(do let v <- whole;standAt a.pos;holding [v] (truthy v))) :
 PT X a (λσ H Q=>ta σ H λx H'=>∃k,GY X.K x H' k/\Q k H'):=by
 intro aa s σ H Q I h;exact isTrue_plain (cZ (ha aa s σ H _ I h) λv s1 ⟨x,H1,I1,r1,q1⟩=>GZ aa s1 σ H1 x v Q I1 r1 q1) (he _)
def v8:OpR X (binaryOp .Add) (λx y H Q=>∃i j,x=.str i/\y=.str j/\i.length+j.length<=sizeLine/\Q (.str (i++j)) H):=by intro aa s σ H x y v u Q I rx ry h;obtain⟨i,j,rfl,rfl,hz,q⟩:=h;obtain⟨t,rfl⟩:=rx;obtain⟨t',rfl⟩:=ry;exact add_str (λt' tk=>⟨.str (i++j),H,I.tok _,⟨_,rfl⟩,q⟩) hz
def gF(r:Vals [x] us):∃u,us=[u]/\RelV x u:=by
 cases r with
 |cons r1 r2=>cases r2;exact⟨_,rfl,r1⟩
def ur(r:Vals [x,y] us):∃u w',us=[u,w']/\RelV x u/\RelV y w':=by
 cases r with
 |cons r1 r2=>
  cases r2 with
  |cons r3 r4=>cases r4;exact⟨_,_,rfl,r1,r3⟩
def yP:CallR X (.type "int") (λxs H Q=>(∃i,xs=[.int i]/\Q (.int i) H)\/∃k,xs=[.bl k]/\Q (.int (if k then 1 else 0)) H):=by
 intro aa s σ H xs us Q I r h;rcases h with⟨i,rfl,q⟩|⟨k,rfl,q⟩
 .obtain⟨u,rfl,t,rfl⟩:=gF r;exact call_int_int ⟨.int i,H,I,⟨_,rfl⟩,q⟩
 .obtain⟨u,rfl,r1⟩:=gF r;cases r1;exact call_int_bool ⟨.int (if k then 1 else 0),H,I.tok _,⟨_,rfl⟩,q⟩
def ut:CallR X (.builtin "divmod") (λxs H Q=>∃i j,xs=[.int i,.int j]/\J2 i j/\∀p,H p=none->Q (.ref p) (aY H p (.tup [.int (i/j),.int (i%j)]))):=by intro aa s σ H xs us Q I r h;obtain⟨i,j,rfl,⟨h1,h2⟩,q⟩:=h;obtain⟨u,w',rfl,⟨t,rfl⟩,⟨t',rfl⟩⟩:=ur r;refine divmod_int (by lia) ?_ (.inl (PyProof.noPylong_small (by lia)));rw[PN i (by lia),Int.fmod_eq_emod_of_nonneg i (by lia)];have hn:H s.heap.objs.size=none:=I.aZ.fresh (bK _);refine⟨.ref s.heap.objs.size,_,?_,rfl,q _ hn⟩;refine I.laid (λb o e=>bE _ e) (bK _) ⟨by simp only[fU,Qx];rw[jY];decide,[.int (i/j) s.toks,.int (i%j) (s.toks+1)],.cons ⟨_,rfl⟩ (.cons ⟨_,rfl⟩ .nil),?_⟩;exact⟨_,cQ s.heap rfl,rfl,0,rfl⟩
end
structure xC(h:Heap) (x dx C:Addr) (mA:Str->Option Q0):Prop where
 obj:h.get? x=some (instObj C dx)
 ns:h.Ns1 dx mA
 ne:dx≠x
def yQ{h:Heap}{mA:Str->Option Q0}(n:h.Ns1 dx mA):∃od,h.get? dx=some od/\∀name,lookIn name od=some (mA name):=by
 obtain⟨o,es,ep,ho,hd,hk,_,hm⟩:=n;refine⟨o,ho,λname=>?_⟩;have e:=hm name;unfold nsFind findBy at e;rw[<- Array.find?_toList]at e;unfold lookIn;rw[hd];dsimp only;split
 .rename_i y q;rw[q]at e;exact Pp some e
 .rename_i q;rw[q]at e;have a:es.toList.any (·.refKey)=false:=by rw[List.any_eq_false];intro y hy;obtain⟨z,t,lB⟩:=hk y (Array.mem_toList_iff.mp hy);simp[DictEntry.refKey,lB]
  have a':¬es.toList.any (·.refKey)=true:=by rw[a];exact vN
  rw[cF a'];exact Pp some e
def xC.look(I:xC h x dx C mA):∃od,PySem.W.InstAt h x (instObj C dx) C (some od)/\∀name,lookIn name od=some (mA name):=
 let ⟨od,ho,hl⟩:=yQ I.ns
 ⟨od,⟨I.obj,rfl,rfl,ho⟩,hl⟩
section
variable{prog:QZ}{w:World}{A:Q1}{E:Q0->QX->Prop}{s:QX}{K:QY}{x dx C f:Addr}{mA:Str->Option Q0}{name:Str}{v:Q0}
def DN(X:K.In s.heap)(I:xC s.heap x dx C mA)(hg:plainGet K C name=true)(hh:hasDictIn K C=true)
 (ha:PySem.W.findIn K (.ref C) name=some none) (hv:mA name=some v) (hv':PySem.W.handedIn v=true) (h:Q v {s with toks:=s.toks+1}) :
 wpAny (model prog w) A (getAttr (.ref x) name expr) Q E s:=by
 obtain⟨od,J,hl⟩:=I.look;exact PySem.W.get_value X J (Qy hg).1 (PySem.W.findObj_own hh ha rfl (by rw[hl,hv])) hv' h
def AH(X:K.In s.heap)(I:xC s.heap x dx C mA)(hg:plainGet K C name=true)
 (hf:PySem.W.findIn K (.ref C) name=some (some (.ref f))) (ht:isFn K (.ref f)=true) (hv:mA name=none) (h:Q (.ref f,[.ref x]) s) :
 wpAny (model prog w) A (getMethod (.ref x) name pl) Q E s:=by
 obtain⟨od,J,hl⟩:=I.look;exact PySem.W.method_fn X J (Qy hg).1 (Qy hg).2 hf (Pw.mp ht) (by show(lookIn name od).map (·.isSome)=some false;rw[hl,hv];rfl) h
def DO(X:K.In s.heap)(I:xC s.heap x dx C mA)
 (hs:PySem.W.findIn K (.ref C) "__setattr__"=some (some (.builtin "object.__setattr__"))) (hp:plainOver K C=true) (ht:PySem.W.takerIn K C name=some none) (hh:hasDictIn K C=true)
 (hw:PySem.Within mA ns) (hsz:ns.length<=sizeLine)
 (h:∀h',xC h' x dx C (λy=>if y=name then some v else mA y)->Heap.SameBut dx s.heap h'->Q () {s with heap:=h',toks:=s.toks+2}) :
 wpAny (model prog w) A (setAttr (.ref x) name v) Q E s:=by
 obtain⟨od,J,hl⟩:=I.look;refine PySem.W.set_plain X J hs (PySem.W.osa_open (s:={s with toks:=s.toks+1}) (r:=none) X J hp ht λb=>?_);obtain⟨cd,hc,hd'⟩:=PySem.W.any_some hh;have hx:s.heap.get? x=some ⟨.ref C,some dx,.plain,#[]⟩:=I.obj;refine bj (bY (bj (bj (wpAny_loadPart hx (bj (PySem.W.Looks.here (s:={s with toks:=s.toks+1}) (PySem.W.looks_clsIn X hc) ?_))))));rw[hd'];refine bY (a:=some dx) (bj (bY (bj ?_)));refine wpAny_nsSet1 (s:={s with toks:=s.toks+1}) I.ns λh' hn2 hs2=>?_;obtain⟨oD,esD,epD,hoD,hdD,hcD⟩:=hn2.count (PySem.Within.cons name v hw);refine bj (wpAny_lookBehind hoD (by rw[hdD];exact pastItsLine_dict (gC hcD (by rw[fU];lia))) ?_);exact bY (h _ ⟨(hs2.2 _ (vG I.ne)).trans I.obj,hn2,I.ne⟩ hs2)
def AI(X:K.In s.heap)(hm:makesIn K C=true)
 (hi:PySem.W.findIn K (.ref C) "__init__"=some (some (.ref f))) (hf:PySem.W.typeIn K (.ref f)=some (.type "function"))
 (h:codeAny (model prog w) (A.under (.builtin "type.__call__" ⟨.ref C::vs,kw⟩)) (.call (.ref f) ⟨.ref (s.heap.objs.size+1)::vs,kw⟩) (PySem.W.InitBack (s.heap.objs.size+1) R)
   {s with heap:=(s.heap.push emptyDict).push (instObj C s.heap.objs.size)}) :
 codeAny (model prog w) A (.call (.ref C) ⟨vs,kw⟩) R s:=by
 obtain⟨hh,g,d,t,os⟩:=s;exact PySem.W.make_core (PySem.W.makes_of X hm) (PySem.W.looks_findIn X hi) (λself=>PySem.W.bind_fn X self hf) (.inl rfl) h
end
noncomputable def hI(f:Str)(v:V):List (Str×V)->List (Str×V)
 |[]=>[(f,v)]
 |(g,x)::r=>if g=f then(g,v)::r else(g,x)::hI f v r
theorem nI(f g:Str)(v:V):∀fs:List (Str×V),(hI f v fs).lookup g=if g=f then some v else fs.lookup g
 |[]=>by
  show List.lookup g [(f,v)]=_
  grind
 |(k,x)::r=>by
  have ih:=nI f g v r
  grind [hI]
theorem mS(f:Str)(v:V):∀fs:List (Str×V),f∈(hI f v fs).map (·.1)/\∀g,g∈fs.map (·.1)->g∈(hI f v fs).map (·.1)
 |[]=>⟨by simp[hI],λg h=>by simp at h⟩
 |(k,x)::r=>by
  obtain⟨i1,i2⟩:=mS f v r
  grind [hI]
theorem nJ(f:Str)(v:V):∀fs:List (Str×V),(hI f v fs).length<=fs.length+1
 |[]=>by simp[hI]
 |(k,x)::r=>by
  have ih:=nJ f v r;rw[show hI f v ((k,x)::r)=(if k=f then(k,v)::r else(k,x)::hI f v r)from rfl];by_cases hk:k=f
  .rw[b_ hk,fU,fU];lia
  .rw[cF hk,fU,fU];lia
def RelO.some_of(r:RelO (some v) o):∃u,o=some u/\RelV v u:=by
 cases o with
 |none=>exact(show False from r).elim
 |some u=>exact⟨u,rfl,r⟩
def RelO.none_of(r:RelO none o):o=none:=by
 cases o with
 |none=>rfl
 |some u=>exact(show False from r).elim
def yR(r:RelV v u):PySem.W.handedIn u=true:=by
 cases v with
 |bL=>cases(show u=Value.none from r);rfl
 |bl b=>cases(show u=Value.bool b from r);rfl
 |int i=>obtain⟨t,e⟩:=(show ∃t,u=Value.int i t from r);cases e;rfl
 |str x=>obtain⟨t,e⟩:=(show ∃t,u=Value.str x t from r);cases e;rfl
 |Am b=>obtain⟨t,e⟩:=(show ∃t,u=Value.bytes b t from r);cases e;rfl
 |Gk b=>obtain⟨t,e⟩:=(show ∃t,u=Value.float b t from r);cases e;rfl
 |ref a=>cases(show u=Value.ref a from r);rfl
 |ty n=>cases(show u=Value.type n from r);rfl
section
def og(aZ:HOk P w H h)(e:H a=some (.ins C dx fs)):∃mA,xC h a dx C mA/\(∀f,RelO (fs.lookup f) (mA f))/\PySem.Within mA (fs.map (·.1))/\fs.length<=1000/\H dx=some (.own a):=by obtain⟨d,z,ne,ob,mA,n,r,q⟩:=(show ObjOk P w H h a (.ins C dx fs)from aZ a _ e);exact⟨mA,⟨ob,n,ne⟩,r,q,z,d⟩
end
structure ue(K:QY) (C:Addr):Prop where
 pg:plainGet K C Str.empty=true
 hd:hasDictIn K C=true
 po:plainOver K C=true
 sa:PySem.W.findIn K (.ref C) "__setattr__"=some (some (.builtin "object.__setattr__"))
theorem ue.get{K:QY}(c:ue K C)(f:Str):plainGet K C f=true:=c.pg
def NoAttr(K:QY)(C:Addr)(f:Str):Prop:=PySem.W.findIn K (.ref C) f=some none
def NoAttr.taker{K:QY}(n:NoAttr K C f):PySem.W.takerIn K C f=some none:=by unfold PySem.W.takerIn;rw[show PySem.W.findIn K (.ref C) f=some none from n];rfl
structure Meth(K:QY) (C:Addr) (m:Str) (f:Addr):Prop where
 at_:PySem.W.findIn K (.ref C) m=some (some (.ref f))
 fn:isFn K (.ref f)=true
 kp:keepIn K (.ref f)=true
section
def v9(I:Inv X aa σ H s)(e:H a=some (.ins C dx fs))(c:ue X.K C)(n:NoAttr X.K C f)(l:fs.lookup f=some v)
 (h:∀u s',Inv X aa σ H s'->RelV v u->Q u s'):wpAny (model X.prog X.w) A (getAttr (.ref a) f b) Q E s:=by
 obtain⟨mA,O,r,_,_,_⟩:=og I.aZ e;obtain⟨u,hu,ru⟩:=RelO.some_of (v:=v) (o:=mA f) (by rw[<- l];exact r f);exact DN I.kT O (c.get f) c.hd n hu (yR ru) (h u _ (I.tok _) ru)
def oM(I:Inv X aa σ H s)(e:H a=some (.ins C dx fs))(c:ue X.K C)(k:Meth X.K C m g)(l:fs.lookup m=none)
 (h:Q (.ref g,[.ref a]) s):wpAny (model X.prog X.w) A (getMethod (.ref a) m pl) Q E s:=by
 obtain⟨mA,O,r,_,_,_⟩:=og I.aZ e;have hn:mA m=none:=RelO.none_of (by rw[<- l];exact r m);exact AH I.kT O (c.get m) k.at_ k.fn hn h
def v_(I:Inv X aa σ H s)(e:H a=some (.ins C dx fs))(c:ue X.K C)(n:NoAttr X.K C f)(hl:fs.length<1000)(ry:RelV y u)
 (h:∀s',Inv X aa σ (aY H a (.ins C dx (hI f y fs))) s'->Q () s'):wpAny (model X.prog X.w) A (setAttr (.ref a) f u) Q E s:=by
 obtain⟨mA,O,r,wi,_,ho⟩:=og I.aZ e;have hz:(fs.map (·.1)).length<=sizeLine:=by rw[cG,jY];lia
 refine DO I.kT O c.sa c.po n.taker c.hd wi hz λh' O' sb=>h _ ?_;have hd:∃o,h'.get? dx=some o:=let ⟨o,_,_,e',_⟩:=O'.ns;⟨o,e'⟩;refine I.write (x:=a) (e:=dx) (by rw[e];exact True.intro) (.inr ho) (λb q hb z=>(sb.2 b hb).trans z) hd ?_;refine⟨by rw[aj O.ne];exact ho,?_,O.ne,O'.obj,_,O'.ns,λg=>?_,λg hg=>?_⟩
 .have:=nJ f y fs;lia
 .grind [RelO,hI,nI]
 .by_cases q:g=f
  .rw[q];exact(mS f y fs).1
  .refine(mS f y fs).2 g (wi g λz=>hg ?_);show(if g=f then some u else mA g)=none;rw[cF q];exact z
def Inv.made(I:Inv X aa σ H s):Inv X aa σ (aY (aY H s.heap.objs.size (.own (s.heap.objs.size+1))) (s.heap.objs.size+1) (.ins C s.heap.objs.size []))
 {s with heap:=(s.heap.push emptyDict).push (instObj C s.heap.objs.size)}:=by
 have e1:(s.heap.push emptyDict).get? s.heap.objs.size=some emptyDict:=cQ s.heap rfl;have e2:((s.heap.push emptyDict).push (instObj C s.heap.objs.size)).get? (s.heap.objs.size+1)=some (instObj C s.heap.objs.size):=by
  have:=cQ (s.heap.push emptyDict) (o:=instObj C s.heap.objs.size) rfl
  rwa [Px]at this
 have e3:(s.heap.push emptyDict).Ns s.heap.objs.size (λ_=>none):=⟨emptyDict,#[],_,e1,rfl,(λe he=>absurd he (by simp)),λ_=>rfl⟩;have I1:=I.laid (a:=s.heap.objs.size) (o:=.own (s.heap.objs.size+1)) (h':=s.heap.push emptyDict) (t':=s.toks) (λb u q=>bE _ q) (bK _) ⟨_,e1⟩;refine I1.laid (a:=s.heap.objs.size+1) (o:=.ins C s.heap.objs.size []) (t':=s.toks) (λb u q=>bE _ q) (QF (Px _ _)) ?_;have ne:s.heap.objs.size≠s.heap.objs.size+1:=e_ (Ps _);refine⟨by rw[aj ne,aw],jT _,ne,e2,λ_=>none,(Heap.Ns1.of_empty e3).at λo q=>bE _ q,λ_=>True.intro,λy hy=>absurd rfl hy⟩
def DP(hb:attributeBase e f env (eval e env)=eval e env)
 (h:wpAny (model prog w) A (eval e env) (λo s₁=>wpAny (model prog w) A (getAttr o f true) Q E s₁) E s):wpAny (model prog w) A (eval (.Attribute e f pos) env) Q E s:=
 Attribute_any_ h (by rw[arm_eval_Attribute,hb])
end
def fO(K:QY)(ta:TE)(f:Str):TE:=λσ H Q=>ta σ H λx H1=>∃a C dx fs v,x=.ref a/\H1 a=some (.ins C dx fs)/\ue K C/\NoAttr K C f/\fs.lookup f=some v/\Q v H1
def sr(K:QY)(ta tv:TE)(f:Str):TS:=λD σ H=>tv σ H λy H1=>ta σ H1 λx H2=>∃a C dx fs,x=.ref a/\H2 a=some (.ins C dx fs)/\ue K C/\NoAttr K C f/\fs.length<1000/\
 D.nx σ (aY H2 a (.ins C dx (hI f y fs)))
section
def cU(he:PE X e ta)(hb:attributeBase e f X.env (eval e X.env)=eval e X.env):PE X (.Attribute e f pos) (fO X.K ta f):=by intro aa s σ H Q I h;refine DP hb (cZ (he aa s σ H _ I h) λu s1 z=>?_);obtain⟨x,H1,I1,rx,a,C,dx,fs,v,rfl,ea,c,n,l,q⟩:=z;obtain rfl:u=Value.ref a:=rx;exact v9 I1 ea c n l λu' s2 I2 ru=>⟨v,H1,I2,ru,q⟩
def jt(ha:PE X o ta)(hv:PE X value tv)(hs:swapsWith value (some (.Attribute o f pos')) pos.line X.env=pure false):PS X (.Assign [.Attribute o f pos'] value pos) (sr X.K ta tv f):=by intro aa s σ H D I h;refine plainObj_wpAny_Assign_Attribute (cZ (hv aa s σ H _ I h) λu s1 ⟨y,H1,I1,ry,q⟩=>cZ (ha aa s1 σ H1 _ I1 q) λov s2 z=>?_) hs;obtain⟨x,H2,I2,rx,a,C,dx,fs,rfl,ea,c,n,l,q2⟩:=z;obtain rfl:ov=Value.ref a:=rx;exact v_ I2 ea c n l ry λs3 I3=>⟨σ,_,I3,q2⟩
end
section
inductive nG(K:QY) (H:Hp):V->Q0->Prop where
 |bL:nG K H .bL (.type "NoneType")
 |bl (x:Bool):nG K H (.bl x) (.type "bool")
 |int (i:Int):nG K H (.int i) (.type "int")
 |str (x:Str):nG K H (.str x) (.type "str")
 |Gk (x:UInt64):nG K H (.Gk x) (.type "float")
 |lst {a:Addr} {xs:List V} (e:H a=some (.lst xs)):nG K H (.ref a) (.type "list")
 |cV {a:Addr} {o:Obj} {xs:List V} (e:H a=some (.cV o (.lst xs))):nG K H (.ref a) (.type "list")
 |tup {a:Addr} {xs:List V} (e:H a=some (.tup xs)):nG K H (.ref a) (.type "tuple")
 |dK {a:Addr} {kvs:List (cJ×V)} (e:H a=some (.dK kvs)):nG K H (.ref a) (.type "dict")
 |dT {a:Addr} {kvs:List (List cJ×V)} (e:H a=some (.dT kvs)):nG K H (.ref a) (.type "dict")
 |ins {a C dx:Addr} {fs:List (Str×V)} (e:H a=some (.ins C dx fs)) (cl:ue K C) (ha:PySem.W.findIn K (.ref C) "__class__"=some (some (.builtin "object.__class__")))
  (hn:PySem.W.specialIn K (.builtin "object.__class__") "__get__"=some (some (.builtin "getset_descriptor.__get__"))) (htk:PySem.W.takesIn K (.builtin "object.__class__")=some true)
  (hm:PySem.W.mroIn K C (.type "object")=some true):nG K H (.ref a) (.ref C)
def yS(I:Inv X aa σ H s)(rx:RelV x u)(ty:nG X.K H x t)(e:kitOne X.K t c=some b)(h:∀tk,Q (.bool b) {s with toks:=tk}) :
 wpAny (model X.prog X.w) A (call (.builtin "isinstance") [u,c]) Q E s:=by
 cases ty with
 |bL=>cases(show u=Value.none from rx);exact oC PySem.W.kitx_none I.kT True.intro e (λz=>nomatch z) h
 |bl y=>cases(show u=Value.bool y from rx);exact oC PySem.W.kitx_bool I.kT True.intro e (λz=>nomatch z) h
 |int i=>obtain⟨t,q⟩:=(show ∃t,u=Value.int i t from rx);cases q;exact oC PySem.W.kitx_int I.kT True.intro e (λz=>nomatch z) h
 |str y=>obtain⟨t,q⟩:=(show ∃t,u=Value.str y t from rx);cases q;exact oC PySem.W.kitx_str I.kT True.intro e (λz=>nomatch z) h
 |Gk y=>obtain⟨t,q⟩:=(show ∃t,u=Value.float y t from rx);cases q;exact oC PySem.W.kitx_float I.kT True.intro e (λz=>nomatch z) h
 |@lst a xs ea=>cases(show u=Value.ref a from rx);obtain⟨_,_,n,_,h1⟩:=(show ObjOk X.prog X.w H s.heap a (.lst xs)from I.aZ a _ ea);exact oC PySem.W.kitx_list I.kT ⟨_,h1,rfl⟩ e (λz=>nomatch z) h
 |@cV a ob xs ea=>cases(show u=Value.ref a from rx);obtain⟨_,_,_,n,_,h1⟩:=(show ObjOk X.prog X.w H s.heap a (.cV ob (.lst xs))from I.aZ a _ ea);exact oC PySem.W.kitx_list I.kT ⟨_,h1,rfl⟩ e (λz=>nomatch z) h
 |@tup a xs ea=>cases(show u=Value.ref a from rx);obtain⟨_,_,_,p⟩:=(show ObjOk X.prog X.w H s.heap a (.tup xs)from I.aZ a _ ea);obtain⟨o,h1,h2,_⟩:=p;exact oC PySem.W.kitx_tuple I.kT ⟨o,h1,h2⟩ e (λz=>nomatch z) h
 |@dK a kvs ea=>cases(show u=Value.ref a from rx);obtain⟨_,_,vs,_,p⟩:=(show ObjOk X.prog X.w H s.heap a (.dK kvs)from I.aZ a _ ea);obtain⟨o,es,ep,h1,h2,_⟩:=p;exact oC QJ I.kT ⟨o,h1,h2.1⟩ e (λz=>nomatch z) h
 |@dT a kvs ea=>cases(show u=Value.ref a from rx);obtain⟨_,_,xs,_,o,es,ep,h1,h2,_⟩:=(show ObjOk X.prog X.w H s.heap a (.dT kvs)from I.aZ a _ ea);exact oC QJ I.kT ⟨o,h1,h2.1⟩ e (λz=>nomatch z) h
 |@ins a C dx fs ea cl ha hn htk hm=>cases(show u=Value.ref a from rx);obtain⟨mA,O,_⟩:=og I.aZ ea;obtain⟨od,J,_⟩:=O.look;exact oC (PySem.W.kitx_own (cl.get _) cl.hd ha hn htk hm) I.kT J e (λz=>nomatch z) h
end
structure dj(k:Nat) (A:Q1):Prop where
 hd:A.handled=none
 dp:A.depth+3*k+5<recursionLimit
 un:A.units+16*k+200<cLine
def dj.mono(r:dj k A)(h:j<=k):dj j A:=⟨r.hd,by have:=r.dp;lia,by have:=r.un;lia⟩
theorem dj.deeper(r:dj (k+1) A)(env:Env):dj k (A.deeper env):=⟨r.hd,by have:=r.dp;show A.depth+1+3*k+5<_;lia,by have:=r.un;show A.units+3+16*k+200<_;lia⟩
def wa{A:Q1}{C:Addr}:(A.under (.builtin "type.__call__" ⟨.ref C::us,kw⟩)).depth=A.depth+1:=by
 first|rfl|simp[Around.under,Code.weight,Code.isCreation,Code.isGuard,Code.isCaller,Code.frames,Code.isFrame,guardIds]
def wb{A:Q1}{C:Addr}:(A.under (.builtin "type.__call__" ⟨.ref C::us,kw⟩)).units=A.units+1:=by
 first|rfl|simp[Around.under,Code.cUnits,Code.frames,Code.isFrame]
def dj.make(r:dj (k+1) A) (C:Addr) (us:List Q0) (kw:List (Str×Q0)):dj k (A.under (.builtin "type.__call__" ⟨.ref C::us,kw⟩)):=⟨r.hd,by have:=r.dp;rw[wa];lia,by have:=r.un;rw[wb];lia⟩
theorem dj.depth(r:dj k A):A.depth<recursionLimit:=by have:=r.dp;lia
theorem dj.units(r:dj k A):A.units+64<cLine:=by have:=r.un;lia
noncomputable def bF:TA:=λ_ H Q=>Q [] H
noncomputable def aB(ta:TE)(tr:TA):TA:=λσ H Q=>ta σ H λx H1=>tr σ H1 λxs H2=>Q (x::xs) H2
section
def aG:PA X [] bF:=λ_ _ _ _ H Q I h=>PH ⟨[],H,I,.nil,h⟩
def ai(ha:PE X e te)(hr:PA X es t)(hs:autoParam (starEach (e::es) X.env=(false,eval e X.env)::starEach es X.env) Rc):PA X (e::es) (aB te t):=by intro pos aa s σ H Q I h;rw[hs];show wpAny _ _ (spliced ((false,eval e X.env)::backTo pos (starEach es X.env))) _ _ s;refine O6 (cZ (ha aa s σ H _ I h) λu s1 ⟨x,H1,I1,r1,q1⟩=>?_);exact cZ (hr pos aa s1 σ H1 _ I1 q1) λus s2 ⟨xs,H2,I2,r2,q2⟩=>⟨x::xs,H2,I2,.cons r1 r2,q2⟩
def k8(t:TA):TE:=λσ H Q=>t σ H λxs H1=>xs.length<=sizeLine/\∀p,H1 p=none->Q (.ref p) (aY H1 p (.tup xs))
def uu(t:TA):TE:=λσ H Q=>t σ H λxs H1=>xs.length<=sizeLine/\∀p,H1 p=none->Q (.ref p) (aY H1 p (.lst xs))
def d9{x1}(h:PA X es t):PE X (.Tuple es x1 pos) (k8 t):=by intro aa s σ H Q I hq;refine wpAny_Tuple_spliced (cZ (h pos aa s σ H _ I hq) λus s1 ⟨xs,H1,I1,r,z,q⟩=>⟨by rw[<- r.length];exact z,?_⟩);have hf:H1 s1.heap.objs.size=none:=I1.aZ.fresh (bK _);refine⟨.ref s1.heap.objs.size,aY H1 s1.heap.objs.size (.tup xs),I1.laid (t':=s1.toks) (λb u e=>bE _ e) (bK _) ?_,rfl,q _ hf⟩;exact⟨z,us,r,⟨_,cQ _ rfl,rfl,_,rfl⟩⟩
def iE(h:PA X es t):PE X (.List es pos) (uu t):=by intro aa s σ H Q I hq;refine wpAny_List_spliced (cZ (h pos aa s σ H _ I hq) λus s1 ⟨xs,H1,I1,r,z,q⟩=>⟨by rw[<- r.length];exact z,?_⟩);have hf:H1 s1.heap.objs.size=none:=I1.aZ.fresh (bK _);refine⟨.ref s1.heap.objs.size,aY H1 s1.heap.objs.size (.lst xs),I1.laid (t':=s1.toks) (λb u e=>bE _ e) (bK _) ?_,rfl,q _ hf⟩;exact⟨z,us,0,r,cQ _ rfl⟩
end
abbrev Sp:=List V->Hp->VK->XK->Prop
abbrev Ao:=List Env->Hp->QX->XK->Q0->QX->Prop
structure xw(P:QZ) (w:World) (K:QY) (mg:Str->Option Q0) (base:Heap) (A:Q1) (outer:List Env) (s:QX) (H:Hp):Prop where
 frames:A.frames=some outer
 mod:Mod K mg base
 bs:∀b o,base.get? b=some o->s.heap.get? b=some o/\H b=none
 Av:base.objs.size<=s.heap.objs.size
 lC:s.heap.FunFrames base outer
 DA:∀b∈js outer,H b=none
 aZ:HOk P w H s.heap
 bare:AllBare s.gens
 kt:JW K H
def CE(outer:List Env)(P:QZ)(w:World)(H:Hp)(s:QX)(Q:VK)(u:Q0)(s':QX):Prop:=∃v H',s'.os=s.os/\AllBare s'.gens/\Un (js outer) [] H H' s.heap s'.heap/\HOk P w H' s'.heap/\RelV v u/\Q v H'
def CR(CX:Ao)(outer:List Env)(P:QZ)(w:World)(H:Hp)(s:QX)(Q:VK)(E:XK)(r:Result)(s':QX):Prop:=
 match r with
 |.ok (.ret u)=>CE outer P w H s Q u s'
 |.ok _=>False
 |.error e=>CX outer H s E e s'
structure bA(P:QZ) (w:World) (K:QY) (mg:Str->Option Q0) (base:Heap) (CX:Ao) (k:Nat) (f:Addr) (fd:FuncData) (ps:List Str) (sp:Sp):Prop where
 len:∀vs H Q E,sp vs H Q E->vs.length=ps.length
 run:∀(A:Q1)(outer:List Env)(s:QX)(H:Hp)(args:Args)(us:List Q0)(vs:List V)(Q:VK)(E:XK),dj k A->xw P w K mg base A outer s H->BindsTo s fd args (ps.zip us)->Vals vs us->sp vs H Q E->
  codeAny (model P w) A (.call (.ref f) args) (CR CX outer P w H s Q E) s
def bA.imp{P:QZ}{w:World}{K:QY}{mg:Str->Option Q0}{base:Heap}{CX:Ao}(F:bA P w K mg base CX k f fd ps sp)
 (h:∀vs H Q E,sp' vs H Q E->sp vs H Q E):bA P w K mg base CX k f fd ps sp':=
 ⟨λvs H Q E q=>F.len vs H Q E (h _ _ _ _ q),λA outer s H args us vs Q E hr he hb hv hs=>F.run A outer s H args us vs Q E hr he hb hv (h _ _ _ _ hs)⟩
def xw.make{P:QZ}{w:World}{K:QY}{mg:Str->Option Q0}{base:Heap}(e:xw P w K mg base A outer s H)(C:Addr)(us:List Q0)(kw:List (Str×Q0)) :
 xw P w K mg base (A.under (.builtin "type.__call__" ⟨.ref C::us,kw⟩)) outer s H:=⟨by first|exact e.frames|(simpa[Around.under,Code.envs,Code.isFrame,pushEnvs]using e.frames),e.mod,e.bs,e.Av,e.lC,e.DA,e.aZ,e.bare,e.kt⟩
section
def Inv.JD(I:Inv X aa σ H s):xw X.prog X.w X.K X.mg X.base X.A X.stack s H:=⟨I.ok.frames,I.ok.mod,I.bs,gC I.ok.Av I.sz,I.stack,I.t4,I.aZ,I.bare,I.kt⟩
def Inv.after(I:Inv X aa σ H s)(h:CE X.stack X.prog X.w H s Q u s'):EP X aa σ Q u s':=by obtain⟨v,H',os,bare,un,aZ,r,q⟩:=h;obtain⟨hh,g,d,t,os'⟩:=s';obtain rfl:os'=s.os:=os;exact⟨v,H',I.call (h':=hh) (g':=g) (d':=d) (t':=t) (ch:=[]) un aZ bare (λb z=>absurd z (by simp)),r,q⟩
end
noncomputable def xI(sp:Sp)(dvs:List V)(E:XK)(t:TA):TE:=λσ H Q=>t σ H λvs H1=>sp (vs++dvs) H1 Q E
def fR(C:Addr)(m:Str)(sp:Sp)(dvs:List V)(E:XK)(ta:TE)(t:TA):TE:=λσ H Q=>ta σ H λx H1=>∃a dx fs,x=.ref a/\H1 a=some (.ins C dx fs)/\fs.lookup m=none/\
 t σ H1 λvs H2=>sp (x::(vs++dvs)) H2 Q E
def xJ(C:Addr)(sp:Sp)(dvs:List V)(E:XK)(t:TA):TE:=λσ H Q=>t σ H λvs H1=>∀x dx,H1 x=none->H1 dx=none->dx≠x->
 sp (.ref x::(vs++dvs)) (aY (aY H1 dx (.own x)) x (.ins C dx [])) (λv H2=>v=.bL/\Q (.ref x) H2) E
def Binds(K:QY)(fd:FuncData)(ps:List Str)(ds:List Q0):Prop:=∀(s:QX)(us:List Q0),K.In s.heap->(us++ds).length=ps.length->BindsTo s fd ⟨us,[]⟩ (ps.zip (us++ds))
def Binds.all{K:QY}(h:∀us:List Q0,us.length=ps.length->bindArgs fd ⟨us,[]⟩=pure (ps.zip us)):Binds K fd ps []:=λs us _ hl=>by rw[Jv]at hl ⊢;exact .of_eq (h us hl)
def fP(CX:Ao)(X:Cx)(E:XK):Prop:=∀(aa:List (Addr×Obj))(σ:St)(H:Hp)(s:QX)(e:Q0)(s':QX),Inv X aa σ H s->CX X.stack H s E e s'->X.xe e s'
section
def wc(F:bA X.prog X.w X.K X.mg X.base CX k f fd ps sp)(hr:dj k X.A)(hb:Binds X.K fd ps ds)(hd:Vals dvs ds)(hx:fP CX X E)
 (I:Inv X aa σ H s) (r:Vals vs us) (h:sp (vs++dvs) H Q E):wX X (call (.ref f) us) (EP X aa σ Q) X.xe s:=by
 have r2:Vals (vs++dvs) (us++ds):=r.append hd;have hl:(us++ds).length=ps.length:=by rw[<- r2.length];exact F.len _ _ _ _ h
 refine QK (P3 (F.run X.A X.stack s H ⟨us,[]⟩ (us++ds) (vs++dvs) Q E hr I.JD (hb s us I.kT hl) r2 h) λr s' hq=>?_);cases r with
 |error e=>exact hx aa σ H s e s' I hq
 |ok fl=>
  cases fl with
  |ret u=>exact I.after hq
  |next=>exact False.elim hq
  |brk=>exact False.elim hq
  |cont=>exact False.elim hq
def ss(F:bA X.prog X.w X.K X.mg X.base CX k f fd ps sp)(hr:dj k X.A)(hg:Gl X x)(hm:X.mg x=some (.ref f))(hk:keepIn X.K (.ref f)=true)(hb:Binds X.K fd ps ds)(hd:Vals dvs ds)(hx:fP CX X E)
 (ha:PA X (e::es) t) (hdb:autoParam (dB x) Q_) (he:autoParam (sE X e es) Rc) (hpl:autoParam (bT X pos es) Rc) :
 PE X (.Call (.Name x p) (e::es) [] pos) (xI sp dvs E t):=by
 intro aa s σ H Q I h;refine O7 (ir I hg hm ?_ hdb);refine P7 (h₀:=X.base) I.ok.mod.JC hk (cZ (ha pos aa s σ H _ I h) λus s1 ⟨vs,H1,I1,r,q⟩=>⟨I1.kT,?_⟩) he hpl;exact wc F hr hb hd hx I1 r q
def fW(he:PE X o ta)(c:ue X.K C)(hm:Meth X.K C m f)(F:bA X.prog X.w X.K X.mg X.base CX k f fd ps sp)(hr:dj k X.A)(hb:Binds X.K fd ps ds)(hd:Vals dvs ds)(hx:fP CX X E)(ha:PA X (e::es) t)
 (hst:autoParam (starEach (e::es) X.env=(false,eval e X.env)::starEach es X.env) Rc) (hpl:autoParam (bT X pos es) Rc)
 (ht:autoParam (eval (.Call (.Attribute o m apos) (e::es) [] pos) X.env=(do
   let ov <- eval o X.env
   standAt apos.atName
   let (f,first) <- holding [ov] (getMethod ov m pl)
   callWith pos f first (backTo pos (starEach (e::es) X.env)) (backToKw pos (keywordEach [] X.env)))) Rc) :
 PE X (.Call (.Attribute o m apos) (e::es) [] pos) (fR C m sp dvs E ta t):=by
 intro aa s σ H Q I h;refine PySem.W.methodCall_KW (pl:=pl) (cZ (he aa s σ H _ I h) λu s1 z=>?_) ht;obtain⟨x,H1,I1,rx,a,dx,fs,rfl,ea,l,q⟩:=z;obtain rfl:u=Value.ref a:=rx;refine oM I1 ea c hm l ?_;refine P7 (first:=[.ref a]) (h₀:=X.base) I.ok.mod.JC hm.kp (cZ (ha pos aa s1 σ H1 _ I1 q) λus s2 ⟨vs,H2,I2,r,q2⟩=>⟨I2.kT,?_⟩) hst hpl;exact wc (us:=.ref a::us) (vs:=.ref a::vs) F hr hb hd hx I2 (.cons rfl r) q2
def oN(he:PE X o ta)(c:ue X.K C)(hm:Meth X.K C m f)(F:bA X.prog X.w X.K X.mg X.base CX k f fd ps sp)(hr:dj k X.A)(hb:Binds X.K fd ps ds)(hd:Vals dvs ds)(hx:fP CX X E)
 (ht:autoParam (eval (.Call (.Attribute o m apos) [] [] pos) X.env=(do
   let ov <- eval o X.env
   standAt apos.atName
   let (f,first) <- holding [ov] (getMethod ov m pl)
   callWith pos f first (backTo pos (starEach [] X.env)) (backToKw pos (keywordEach [] X.env)))) Rc) :
 PE X (.Call (.Attribute o m apos) [] [] pos) (fR C m sp dvs E ta bF):=by
 intro aa s σ H Q I h;refine PySem.W.methodCall_KW (pl:=pl) (cZ (he aa s σ H _ I h) λu s1 z=>?_) ht;obtain⟨x,H1,I1,rx,a,dx,fs,rfl,ea,l,q⟩:=z;obtain rfl:u=Value.ref a:=rx;refine oM I1 ea c hm l ?_;exact PySem.W.callWith_K0 (first:=[.ref a]) I1.kT hm.kp (wc (us:=[.ref a]) (vs:=[.ref a]) F hr hb hd hx I1 (.cons rfl .nil) q)
structure Mk(K:QY) (C f:Addr):Prop where
 makes:makesIn K C=true
 init:PySem.W.findIn K (.ref C) "__init__"=some (some (.ref f))
 fn:isFn K (.ref f)=true
 kp:keepIn K (.ref C)=true
def uv(M:Mk X.K C f)(F:bA X.prog X.w X.K X.mg X.base CX k f fd ps sp)(hr:dj (k+1) X.A)(hb:Binds X.K fd ps ds)(hd:Vals dvs ds)
 (hx:fP CX X E) (I:Inv X aa σ H s) (r:Vals vs us)
 (h:∀x dx,H x=none->H dx=none->dx≠x->sp (.ref x::(vs++dvs)) (aY (aY H dx (.own x)) x (.ins C dx [])) (λv H2=>v=.bL/\Q (.ref x) H2) E) :
 wX X (call (.ref C) us) (EP X aa σ Q) X.xe s:=by
 have hq:=h (s.heap.objs.size+1) s.heap.objs.size (I.aZ.fresh (Nat.le_succ _)) (I.aZ.fresh (bK _)) (e_ (Ps _));have I2:=Inv.made (C:=C) I;have r2:Vals (V.ref (s.heap.objs.size+1)::(vs++dvs)) (Value.ref (s.heap.objs.size+1)::(us++ds)):=.cons rfl (r.append hd);have hl:(Value.ref (s.heap.objs.size+1)::us++ds).length=ps.length:=by have e:=r2.length;rw[F.len _ _ _ _ hq]at e;exact e.symm
 refine QK (AI (f:=f) I.kT M.makes M.init (Pw.mp M.fn) (P3 (F.run _ X.stack _ _ ⟨Value.ref (s.heap.objs.size+1)::us,[]⟩ (Value.ref (s.heap.objs.size+1)::(us++ds)) _ _ E (hr.make C us [])
  (I2.JD.make C us []) (hb _ (Value.ref (s.heap.objs.size+1)::us) I2.kT hl) r2 hq) λr s' hq'=>?_))
 cases r with
 |error e=>exact hx aa σ _ _ e s' I2 hq'
 |ok fl=>
  cases fl with
  |ret u=>obtain⟨v,H',I3,rv,ev,q3⟩:=I2.after hq';subst ev;exact⟨rv,⟨V.ref (s.heap.objs.size+1),H',I3,rfl,q3⟩⟩
  |next=>exact False.elim hq'
  |brk=>exact False.elim hq'
  |cont=>exact False.elim hq'
def DQ(M:Mk X.K C f)(F:bA X.prog X.w X.K X.mg X.base CX k f fd ps sp)(hr:dj (k+1) X.A)(hg:Gl X x)(hm:X.mg x=some (.ref C))(hb:Binds X.K fd ps ds)(hd:Vals dvs ds)(hx:fP CX X E)
 (ha:PA X (e::es) t) (hdb:autoParam (dB x) Q_) (he:autoParam (sE X e es) Rc) (hpl:autoParam (bT X pos es) Rc) :
 PE X (.Call (.Name x p) (e::es) [] pos) (xJ C sp dvs E t):=by
 intro aa s σ H Q I h;refine O7 (ir I hg hm ?_ hdb);refine P7 (h₀:=X.base) I.ok.mod.JC M.kp (cZ (ha pos aa s σ H _ I h) λus s1 ⟨vs,H1,I1,r,q⟩=>⟨I1.kT,?_⟩) he hpl;exact uv M F hr hb hd hx I1 r q
def AJ(M:Mk X.K C f)(F:bA X.prog X.w X.K X.mg X.base CX k f fd ps sp)(hr:dj (k+1) X.A)(hg:Gl X x)(hm:X.mg x=some (.ref C))(hb:Binds X.K fd ps ds)(hd:Vals dvs ds)(hx:fP CX X E)
 (hdb:autoParam (dB x) Q_):PE X (.Call (.Name x p) [] [] pos) (xJ C sp dvs E bF):=by
 intro aa s σ H Q I h;refine O7 (ir I hg hm ?_ hdb);exact PySem.W.callWith_K0 I.kT M.kp (uv (us:=[]) M F hr hb hd hx I .nil h)
end
structure aR(N P:List Str) (sc:Scope):Prop where
 kind:sc.kind=.function
 co:sc.isCoroutine=false
 gen:sc.isGenerator=false
 nd:N.Nodup
 pre:N.take P.length=P
 par:∀x∈P,sc.names.lookup x=some .local\/sc.names.lookup x=some .cell
 JA:∀y∈sc.names,y.2≠.free
theorem qZ{kindOf:Str->Option NameKind}:∀{binds:List (Str×Q0)}{m:Str->Option Q0},(∀v,(x,v)∉binds)->bindL kindOf binds m x=m x
 |[],_,_=>rfl
 |(n,v)::r,m,h=>by
  unfold bindL;rw[qZ λw hw=>h w (cg _ hw)];split
  .have:x≠n:=by rintro rfl;exact h v cE
   simp[this]
  .rfl
theorem q5{kindOf:Str->Option NameKind}:∀{binds:List (Str×Q0)}{m:Str->Option Q0},(∀v,(x,v)∉binds)->bindC kindOf binds m x=m x
 |[],_,_=>rfl
 |(n,v)::r,m,h=>by
  unfold bindC;rw[q5 λw hw=>h w (cg _ hw)];split
  .rfl
  .have:x≠n:=by rintro rfl;exact h v cE
   simp[this]
theorem q_{kindOf:Str->Option NameKind}:∀{P:List Str}{vs:List Q0}{i:Nat}{m:Str->Option Q0},P.Nodup->P[i]?=some x->vs[i]?=some v->kindOf x=some .local->
 bindL kindOf (P.zip vs) m x=some v
 |[],_,_,_,_,h,_,_=>by simp at h
 |_::_,[],_,_,_,_,h,_=>by simp at h
 |p::P,w::vs,0,m,nd,h1,h2,hk=>by simp at h1 h2;subst h1;subst h2;show bindL kindOf ((p,w)::P.zip vs) m p=_;unfold bindL;rw[qZ λv hv=>(j5.mp nd).1 (List.of_mem_zip hv).1,b_ hk];simp
 |p::P,w::vs,i+1,m,nd,h1,h2,hk=>by show bindL kindOf ((p,w)::P.zip vs) m x=_;unfold bindL;exact q_ (i:=i) (j5.mp nd).2 (by simpa using h1) (by simpa using h2) hk
theorem re{kindOf:Str->Option NameKind}:∀{P:List Str}{vs:List Q0}{i:Nat}{m:Str->Option Q0},P.Nodup->P[i]?=some x->vs[i]?=some v->kindOf x≠some .local->
 bindC kindOf (P.zip vs) m x=some v
 |[],_,_,_,_,h,_,_=>by simp at h
 |_::_,[],_,_,_,_,h,_=>by simp at h
 |p::P,w::vs,0,m,nd,h1,h2,hk=>by simp at h1 h2;subst h1;subst h2;show bindC kindOf ((p,w)::P.zip vs) m p=_;unfold bindC;rw[q5 λv hv=>(j5.mp nd).1 (List.of_mem_zip hv).1,cF hk];simp
 |p::P,w::vs,i+1,m,nd,h1,h2,hk=>by show bindC kindOf ((p,w)::P.zip vs) m x=_;unfold bindC;exact re (i:=i) (j5.mp nd).2 (by simpa using h1) (by simpa using h2) hk
noncomputable def cK(N:List Str)(vs:List V):St:=vs.map some++List.replicate (N.length-vs.length) none
noncomputable def wd(CX:Ao)(P:QZ)(w:World)(K:QY)(mg:Str->Option Q0)(base:Heap)(N:List Str)(qual:Str)(scope:Scope)(f:Addr)(cd:Q0)(A:Q1)(outer:List Env)(s:QX)(H:Hp)(E:XK):Cx where
 prog:=P
 w:=w
 K:=K
 mg:=mg
 base:=base
 A:=A.deeper (envOfC qual scope s.heap.objs.size f cd)
 N:=N
 s₀:=s
 H₀:=H
 env:=envOfC qual scope s.heap.objs.size f cd
 outer:=outer
 stack:=envOfC qual scope s.heap.objs.size f cd::outer
 ex:=[]
 calm:=true
 fn:=λ_=>true
 pn:=[]
 xe:=λe s'=>wpAny (model P w) (A.deeper (envOfC qual scope s.heap.objs.size f cd)) (leaving (envOfC qual scope s.heap.objs.size f cd) e) (λ_ s''=>CX outer H s E e s'') (λe' s''=>CX outer H s E e' s'') s'
def uw{sc:Scope}(h:sc.names.lookup x=some .cell):∃c,(cellsFrom n sc.names []).lookup x=some c:=by have q:=PySem.W.cellsFrom_some sc.names n [] (.inl h);exact Option.isSome_iff_exists.mp q
def yT{CX:Ao}{P:QZ}{w:World}{K:QY}{mg:Str->Option Q0}{base:Heap}{N ps:List Str}{qual:Str}{scope:Scope}
 (S:aR N ps scope) (hd:A.handled=none) (e0:xw P w K mg base A outer s H) (hl:vs.length=ps.length) (r:Vals vs us)
 (x:InCallC s s.heap.objs.size (bindL (envOfC qual scope s.heap.objs.size f cd).kindOf (ps.zip us) λ_=>none) (cellsFrom (s.heap.objs.size+1) scope.names []) (bindC (envOfC qual scope s.heap.objs.size f cd).kindOf (ps.zip us) λ_=>none) s1) :
 Inv (wd CX P w K mg base N qual scope f cd A outer s H E) [] (cK N vs) H s1:=by
 have hpl:ps.length<=N.length:=by have:=Pp List.length S.pre;rw[N0]at this;lia
 obtain⟨h1,tk,rfl,hk⟩:=x.done;have noA:∀b:Addr,b∉(wd CX P w K mg base N qual scope f cd A outer s H E).ex:=λb z=>absurd (show b∈([]:List Addr)from z) (by simp);refine⟨⟨e0.mod,S.kind,rfl,rfl,bK _,λy z c h1 h2=>?_,λy hy=>?_,λy c _ h=>?_,λ_=>hd,Around.frames_deeper e0.frames,.inr ⟨rfl,rfl⟩,λb z=>absurd z (noA b),e0.bs,e0.Av,λb _ _=>noA b,λb z=>absurd z (noA b),e0.lC,e0.DA,e0.kt⟩,
  rfl,e0.bare,Un.kept hk,⟨_,x.toInCall.ns,λi y v h1 h2 h3=>?_⟩,λy c h=>⟨_,x.cell y c h⟩,e0.aZ.fresh (bK _),λy c h=>?_,λp hp=>absurd (show p∈([]:List (Addr×Obj))from hp) (by simp),e0.aZ.kept hk,?_⟩
 .exact name_of_addr x.apart (Gs h1) (Gs h2)
 .have hy:scope.names.lookup y=some .cell\/scope.names.lookup y=some .free:=hy;rcases hy with hy|hy
  .exact uw hy
  .exact absurd rfl (S.JA _ (Gs hy))
 .exact Qe (x.above y c (Gs h))
 .have hi:i<vs.length:=by
   grind [cK]
  have ha:vs[i]?=some v:=by grind [cK]
  obtain⟨u,hu,rv⟩:=r.get ha;have hp:ps[i]?=some y:=by rw[<- S.pre,List.getElem?_take_of_lt (by lia)];exact h1
  have ndP:ps.Nodup:=by rw[<- S.pre];exact S.nd.sublist (List.take_sublist _ _)
  refine⟨u,rv,?_⟩;rcases S.par y (kU hp)with k|k
  .exact .inl ⟨k,q_ ndP hp hu k⟩
  .obtain⟨c,e⟩:=uw (n:=s.heap.objs.size+1) k;refine .inr ⟨.inl k,c,e,?_⟩;have q:=x.cell y c e;rw[re ndP hp hu (by show scope.names.lookup y≠_;rw[k];decide)]at q;exact q
 .exact e0.aZ.fresh (Qe (x.above y c (Gs h)))
 .unfold cK;show _=N.length;rw[gV,cG,Qf];lia
def xK{CX:Ao}{P:QZ}{w:World}{K:QY}{mg:Str->Option Q0}{base:Heap}{k:Nat}{f:Addr}{name qual:Str}{params:Arguments}{body:List Stmt}{scope:Scope}{dV kV doc pm cdv ct oc:Q0}{an od:Option Addr}
 {osl:Array (Option Q0)} {N ps:List Str} {sp:Sp} (lk:K.lookup f=some ⟨oc,od,.func (fnOf name qual params body scope dV kV doc pm an cdv ct),osl⟩) (hcd:codeIn K cdv qual=true) (S:aR N ps scope)
 (len:∀vs H Q E,sp vs H Q E->vs.length=ps.length)
 (hbody:∀(A:Q1)(outer:List Env)(s:QX)(H:Hp)(vs:List V)(Q:VK)(E:XK),dj k (A.deeper (envOfC qual scope s.heap.objs.size f cdv))->sp vs H Q E->
   ∃t,PSs (wd CX P w K mg base N qual scope f cdv A outer s H E) body t/\t {nx:=λ_ H'=>Q .bL H',rt:=Q} (cK N vs) H) :
 bA P w K mg base CX (k+1) f (fnOf name qual params body scope dV kV doc pm an cdv ct) ps sp:=by
 refine⟨len,λA outer s H args us vs Q E hr e0 hb r hsp=>?_⟩;have hl:=len _ _ _ _ hsp;have KX:K.In s.heap:=e0.mod.JC.keeps λb o e=>(e0.bs b o e).1;have lim:s.heap.NoLimit:=e0.mod.nolimit.keeps λb o e=>(e0.bs b o e).1;have hkind:∀y∈ps.zip us,scope.names.lookup y.1=some .local\/(scope.names.lookup y.1=some .cell/\((cellsFrom (s.heap.objs.size+1) scope.names []).lookup y.1).isSome=true):=λ⟨n,v⟩ hy=>by
  rcases S.par n (List.of_mem_zip hy).1 with q|q
  .exact .inl q
  .exact .inr ⟨q,PySem.W.cellsFrom_some _ _ _ (.inl q)⟩
 refine codeAny_call_function hr.depth (KX _ _ lk) rfl S.co S.gen rfl (PySem.W.codeRec_of KX hcd) (hb _ _ _ _ ?_);refine wpAny_newFunctionEnv_cells S.kind hkind λenv he s1 x=>?_;subst he;refine⟨lim.keeps x.toInCall.keep,codeAny_func ?_⟩;obtain⟨t,ht,hq⟩:=hbody A outer s H vs Q E (hr.deeper _) hsp;have I:Inv (wd CX P w K mg base N qual scope f cdv A outer s H E) [] (cK N vs) H s1:=yT S hr.hd e0 hl r x;refine mC (ht [] s1 (cK N vs) H _ I hq) (λfl s' hs=>?_) λe s' hs=>hs;have fin:∀{σ':St}{H':Hp}{v:V}{u:Q0},Inv (wd CX P w K mg base N qual scope f cdv A outer s H E) [] σ' H' s'->RelV v u->Q v H'->CE outer P w H s Q u s':=λ{σ' H' v u} J rv q=>⟨v,H',J.os,J.bare,J.base,J.aZ,rv,q⟩;cases fl with
 |ret u=>obtain⟨v,σ',H',J,rv,q⟩:=hs;exact fin J rv q
 |next=>obtain⟨σ',H',J,q⟩:=hs;exact fin (v:=V.bL) (u:=Value.none) J rfl q
 |brk=>obtain⟨_,_,_,q⟩:=hs;exact False.elim q
 |cont=>obtain⟨_,_,_,q⟩:=hs;exact False.elim q
section
variable{X:Cx}{x:Str}{p pos:Pos}{e:Expr}{es:List Expr}{t:TA}{id T:String}{r:List V->Hp->VK->Prop}
noncomputable def DR(r:List V->Hp->VK->Prop)(t:TA):TE:=λσ H Q=>t σ H λvs H1=>r vs H1 Q
def dG(hc:CallR X (.builtin id) r) (hg:Gl X x) (hm:X.mg x=none) (hv:bootBuiltins x=some (.builtin id)) (ha:PA X (e::es) t) (hn:autoParam (x≠"__name__") Q_) (hdb:autoParam (dB x) Q_)
 (he:autoParam (starEach (e::es) X.env=(false,eval e X.env)::starEach es X.env) Rc) (hpl:autoParam (bT X pos es) Rc):PE X (.Call (.Name x p) (e::es) [] pos) (DR r t):=by
 intro aa s σ H Q I h;refine O7 (kZ I hg hm hv ?_ hn hdb);exact PyProof.Rows.callWith_builtin1 (cZ (ha pos aa s σ H _ I h) λus s1 ⟨vs,H1,I1,r1,q1⟩=>hc aa s1 σ H1 vs us Q I1 r1 q1) he hpl
def rf(hc:CallR X (.type T) r) (hg:Gl X x) (hm:X.mg x=none) (hv:bootBuiltins x=some (.type T)) (ha:PA X (e::es) t) (hn:autoParam (x≠"__name__") Q_) (hdb:autoParam (dB x) Q_)
 (he:autoParam (starEach (e::es) X.env=(false,eval e X.env)::starEach es X.env) Rc) (hpl:autoParam (bT X pos es) Rc):PE X (.Call (.Name x p) (e::es) [] pos) (DR r t):=by
 intro aa s σ H Q I h;refine O7 (kZ I hg hm hv ?_ hn hdb);exact xB (cZ (ha pos aa s σ H _ I h) λus s1 ⟨vs,H1,I1,r1,q1⟩=>hc aa s1 σ H1 vs us Q I1 r1 q1) he hpl
end
end L2
namespace HT
open PySem PyProof.Rows
section
def cat_tup(ht:IsTup s.heap t vs.toArray)(hb:IsTup s.heap b ws.toArray)(hv:vs≠[])
 (h1:ws=[]->Q (.ref t) s) (h2:ws≠[]->Q (.ref s.heap.objs.size) { s with heap:=s.heap.push { cls:=.type "tuple",data:=.seq (vs++ws).toArray } })
 (hsz:vs.length+ws.length<=sizeLine):wpAny (model prog w) A (binaryOp .Add (.ref t) (.ref b)) Q E s:=by
 obtain⟨⟨cls,dd,data,sl⟩,ho,hc,n,hd⟩:=id ht;obtain⟨⟨cls2,dd2,data2,sl2⟩,ho2,hc2,n2,hd2⟩:=id hb;simp only at hc hd hc2 hd2;subst hc hd hc2 hd2;have e:vs.toArray++ws.toArray=(vs++ws).toArray:=by simp
 by_cases hw:ws=[]
 .exact concat_meets ⟨_,ho,rfl⟩ ⟨_,ho2,rfl⟩ noFill_tuple_add seq_tuple_add PySem.F.slot_tuple_add PySem.F.entry_tuple_add (PySem.F.args_tuple_add_2 _ _)
   (tuple_addW1 t b vs.toArray ws.toArray n n2 dd dd2 sl sl2 (by simpa using hv) (by simp[hw])) ⟨ho,ho2,h1 hw⟩
 .refine concat_meets ⟨_,ho,rfl⟩ ⟨_,ho2,rfl⟩ noFill_tuple_add seq_tuple_add PySem.F.slot_tuple_add PySem.F.entry_tuple_add (PySem.F.args_tuple_add_2 _ _)
   (tuple_addW2 t b vs.toArray ws.toArray n n2 dd dd2 sl sl2 (by simpa using hv) (by simpa using hw) (by rw[cP,cP];exact hsz)) ⟨ho,ho2,?_⟩
  rw[e];exact h2 hw
noncomputable def sIx(n d:Nat):Option Int->Nat
 |none=>d
 |some v=>if v<0 then(v+(n:Int)).toNat else min v.toNat n
def sIx_nat(n d k:Nat):sIx n d (some (k:Int))=min k n:=by show(if(k:Int)<0 then((k:Int)+(n:Int)).toNat else min (k:Int).toNat n)=min k n;rw[cF (by lia),QL]
def G0(n d:Nat)(hd:d<=n)(o:Option Int):sIx n d o<=n:=by
 cases o with
 |none=>exact hd
 |some v=>
  show(if v<0 then(v+(n:Int)).toNat else min v.toNat n)<=n
  grind
def xL(v:Int)(n d:Nat):(if v<0 then max (v+(n:Int)) 0 else min v (n:Int))=((sIx n d (some v):Nat):Int):=by
 show(if v<0 then max (v+(n:Int)) 0 else min v (n:Int))=(((if v<0 then(v+(n:Int)).toNat else min v.toNat n):Nat):Int)
 grind
def we(lo hi:Option Int)(n:Nat):Builtin.Slice.sliceAdjust lo hi 1 (n:Int)=(((sIx n 0 lo:Nat):Int),((sIx n n hi:Nat):Int)):=by
 have h1:¬((1:Int)<0):=by lia
 unfold Builtin.Slice.sliceAdjust;simp only[h1,qB];refine QV ?_ ?_
 .cases lo with
  |none=>rfl
  |some v=>exact xL v n 0
 .cases hi with
  |none=>rfl
  |some v=>exact xL v n n
def wf(i j:Nat):Builtin.Slice.slicePlaces (i:Int) (j:Int) 1=j-i:=by
 unfold Builtin.Slice.slicePlaces
 grind
def oO(p:IsPart v o)(h:Q o s):wpAny (model prog w) A (Builtin.Slice.slicePartIndex v) Q E s:=by
 cases p with
 |none=>exact slicePart_none h
 |int i t=>exact slicePart_int h
def sliceApplied_gen{lo hi:Option Int}{n:Nat}{Q:Int×Int×Nat->QX->Prop}(hs:s.heap.IsSliceOf sl vl vu .none)(pl:IsPart vl lo)(pu:IsPart vu hi)
 (h:Q (((sIx n 0 lo:Nat):Int),1,sIx n n hi-sIx n 0 lo) s):wpAny (model prog w) A (Builtin.Slice.sliceApplied (.ref sl) (pure (n:Int))) Q E s:=by
 obtain⟨os,hos,hcs,hds⟩:=id hs;unfold Builtin.Slice.sliceApplied Builtin.Slice.sliceFields;refine bj (bj (wpAny_field hos hds (x:=vl) rfl (bj (wpAny_field hos hds (x:=vu) rfl (bj (wpAny_field hos hds (x:=.none) rfl (bY ?_)))))));refine bj (slicePart_none ?_);show wpAny _ _ (if((1:Int)==0)=true then _ else _) _ _ s;rw[cF (by decide)];refine bj (oO pl (bj (oO pu (bj (bY ?_)))));show wpAny _ _ (match Builtin.Slice.sliceAdjust lo hi 1 (n:Int)with|(lo,hi)=>pure (lo,(1:Int),Builtin.Slice.slicePlaces lo hi 1)) _ _ s;rw[we lo hi n];show wpAny _ _ (pure (((sIx n 0 lo:Nat):Int),(1:Int),Builtin.Slice.slicePlaces ((sIx n 0 lo:Nat):Int) ((sIx n n hi:Nat):Int) 1)) _ _ s;rw[wf];exact bY h
def AK(xs:Array Q0)(i k:Nat):((List.range k).filterMap λ(m:Nat)=>xs[((i:Int)+(m:Int)*1).toNat]?).toArray=((xs.toList.drop i).take k).toArray:=by
 have e:(λ(m:Nat)=>xs[((i:Int)+(m:Int)*1).toNat]?)=λm=>xs[i+m]?:=by grind
 rw[e];have:=pick_run xs i k;rw[List.filterMap_map]at this;have e2:((λx=>xs[x]?) ∘ λx=>i+x)=λm=>xs[i+m]?:=rfl;rw[e2]at this;rw[this]
def getItem_tuple_cut{vl vu:Q0}{lo hi:Option Int}{Q:Q0->QX->Prop}(ht:IsTup s.heap t items)(hs:s.heap.IsSliceOf sl vl vu .none)(pl:IsPart vl lo)(pu:IsPart vu hi)
 (hw:¬(sIx items.size 0 lo=0/\sIx items.size items.size hi=items.size))
 (h:Q (.ref s.heap.objs.size) { s with heap:=s.heap.push { cls:=.type "tuple",data:=.seq ((items.toList.drop (sIx items.size 0 lo)).take (sIx items.size items.size hi-sIx items.size 0 lo)).toArray } })
 (hsz:items.size<=sizeLine):wpAny (model prog w) A (getItem (.ref t) (.ref sl)) Q E s:=by
 have htake:sizeOk (.seq ((items.toList.drop (sIx items.size 0 lo)).take (sIx items.size items.size hi-sIx items.size 0 lo)).toArray):=by
  show((items.toList.drop (sIx items.size 0 lo)).take (sIx items.size items.size hi-sIx items.size 0 lo)).toArray.size<=sizeLine
  grind
 have hj:sIx items.size items.size hi<=items.size:=G0 _ _ (bK _) hi;obtain⟨os,hos,hcs,hds⟩:=id hs;have hTs:s.TypeIs (.ref sl) "slice":=⟨os,hos,hcs⟩;unfold getItem
 try with_reducible refine qu ?_
 first|refine bj (bY ?_)|skip
 refine bj (wpAny_sequenceKey ht.typeIs (by decide) ?_);refine bj (Pq (name:=Str.ofString "__getitem__") ht.typeIs mD
  (vU mD ht.typeIs entry_tuple_getitem ?_ (args_tuple_getitem _ _)))
 show wpAny _ _ (Builtin.Tuple.tupleItemsOf (.ref t) >>= _) _ _ s;refine bj (tupleItemsOf_ ht ?_);refine bj (Qg hTs ?_);rw[b_ (by decide)];refine bj (sliceApplied_gen hs pl pu ?_);have hno:¬((((sIx items.size 0 lo:Nat):Int)==0&&(1:Int)==1&&(sIx items.size items.size hi-sIx items.size 0 lo)==items.size)=true):=by grind
 show wpAny _ _ (if(((sIx items.size 0 lo:Nat):Int)==0&&(1:Int)==1&&(sIx items.size items.size hi-sIx items.size 0 lo)==items.size)=true then _ else _) _ _ s;rw[cF hno,AK]
 first
  |exact bj (m:=Builtin.Tuple.tupleExact _) (Gw (bY ⟨_,rfl,bY h⟩) htake)
  |exact bj (m:=Builtin.Tuple.tupleExact _) (Gw (bj (bY (bY ⟨_,rfl,bY h⟩))) htake)
  |exact bj (bj (m:=Builtin.Tuple.tupleExact _) (Gw (bY (bY ⟨_,rfl,bY h⟩)) htake))
  |exact bj (bj (m:=Builtin.Tuple.tupleExact _) (Gw (bY ⟨_,rfl,bY h⟩) htake))
end
end HT
namespace L2
open PySem PySem.Spec PyProof.Rows
abbrev TO:=St->Hp->(Option Int->Hp->Prop)->Prop
def PO(X:Cx)(e:Option Expr)(t:TO):Prop:=
 ∀(aa:List (Addr×Obj))(s:QX)(σ:St)(H:Hp)(Q:Option Int->Hp->Prop),Inv X aa σ H s->t σ H Q->
  wpAny (model X.prog X.w) X.A (evalPart e X.env) (λu s'=>∃o H',Inv X aa σ H' s'/\IsPart u o/\Q o H') X.xe s
noncomputable def DS:TO:=λ_ H Q=>Q none H
noncomputable def J4(t:TE):TO:=λσ H Q=>t σ H λx H1=>∃i,x=.int i/\Q (some i) H1
section
variable{X:Cx}{e:Expr}{te:TE}{lo hi:Option Expr}{tl th:TO}{pos p2:Pos}
def DT:PO X none DS:=by intro aa s σ H Q I h;rw[evalPart_none];exact bY ⟨none,H,I,.none,h⟩
def DU(h:PE X e te):PO X (some e) (J4 te):=by intro aa s σ H Q I hw;rw[evalPart_some];refine cZ (h aa s σ H _ I hw) λu s1 ⟨x,H1,I1,r1,q1⟩=>?_;obtain⟨i,rfl,q⟩:=q1;obtain⟨t,rfl⟩:=r1;exact⟨some i,H1,I1,.int i t,q⟩
def SlR(X:Cx)(r:V->Option Int->Option Int->Hp->VK->Prop):Prop:=
 ∀(aa:List (Addr×Obj))(s:QX)(σ:St)(H:Hp)(x:V)(v vl vu:Q0)(lo hi:Option Int)(sl:Addr)(Q:VK),Inv X aa σ H s->RelV x v->s.heap.IsSliceOf sl vl vu .none->IsPart vl lo->IsPart vu hi->r x lo hi H Q->
  ∃T id,typeLookup (.type T) "__getitem__"=pure (some (.builtin id))/\s.TypeIs v T/\wpAny (model X.prog X.w) X.A (getItem v (.ref sl)) (EP X aa σ Q) X.xe s
def SlR.or(h:SlR X r)(h':SlR X r'):SlR X (λx lo hi H Q=>r x lo hi H Q\/r' x lo hi H Q):=by
 intro aa s σ H x v vl vu lo hi sl Q I rx hs pl pu q;rcases q with q|q
 .exact h aa s σ H x v vl vu lo hi sl Q I rx hs pl pu q
 .exact h' aa s σ H x v vl vu lo hi sl Q I rx hs pl pu q
noncomputable def OA(r:V->Option Int->Option Int->Hp->VK->Prop)(te:TE)(tl th:TO):TE:=λσ H Q=>te σ H λx H1=>tl σ H1 λl H2=>th σ H2 λu H3=>r x l u H3 Q
def AL(hr:SlR X r)(he:PE X e te)(hl:PO X lo tl)(hu:PO X hi th):PE X (.Subscript e (.Slice lo hi none p2) pos) (OA r te tl th):=by intro aa s σ H Q I h;refine Subscript_ (cZ (he aa s σ H _ I h) λv s1 ⟨x,H1,I1,r1,q1⟩=>?_);refine wpAny_Slice (cZ (hl aa s1 σ H1 _ I1 q1) λvl s2 ⟨l,H2,I2,pl,q2⟩=>cZ (hu aa s2 σ H2 _ I2 q2) λvu s3 ⟨u,H3,I3,pu,q3⟩=>?_);rw[evalPart_none];refine bY ?_;have I4:Inv X aa σ H3 { s3 with heap:=s3.heap.push { cls:=.type "slice",data:=.fields #[vl,vu,.none] } }:=I3.kept (t':=s3.toks) λb ob q=>bE _ q;obtain⟨T,id,hT,ht,hg⟩:=hr aa { s3 with heap:=s3.heap.push { cls:=.type "slice",data:=.fields #[vl,vu,.none] } } σ H3 x v vl vu l u s3.heap.objs.size Q I4 r1 (Heap.IsSliceOf.new ..) pl pu q3;show wX X (subscriptTail e (.Slice lo hi none p2) v (.ref s3.heap.objs.size)) (EP X aa σ Q) X.xe { s3 with heap:=s3.heap.push { cls:=.type "slice",data:=.fields #[vl,vu,.none] } };exact tail_any (ops:=[.ref s3.heap.objs.size,v]) ht hT hg (by with_unfolding_all rfl)
def ux(xs:List V)(lo hi:Option Int):List V:=(xs.drop (HT.sIx xs.length 0 lo)).take (HT.sIx xs.length xs.length hi-HT.sIx xs.length 0 lo)
def nK(xs:List V)(lo hi:Option Int):(ux xs lo hi).length<=xs.length:=by unfold ux;rw[N0,PX];lia
def M9(K:QY):V->Option Int->Option Int->Hp->VK->Prop:=λx lo hi H Q=>∃a xs,x=.ref a/\SqT K H a xs/\
 ¬(HT.sIx xs.length 0 lo=0/\HT.sIx xs.length xs.length hi=xs.length)/\∀p,H p=none->Q (.ref p) (aY H p (.tup (ux xs lo hi)))
def sl_tup:SlR X (M9 X.K):=by
 intro aa s σ H x v vl vu lo hi sl Q I rx hs pl pu h;obtain⟨a,xs,rfl,hx,hw,q⟩:=h;cases rx;obtain⟨its,r,ht,hz⟩:=I.tuple hx;have cr:its.toArray.size=xs.length:=by rw[cP];exact r.length.symm
 refine⟨"tuple",_,mD.lookup,ht.typeIs,?_⟩;refine HT.getItem_tuple_cut ht hs pl pu (by rw[cr];exact hw) ?_ (by rw[cr];exact hz);rw[cr];refine⟨.ref s.heap.objs.size,_,I.laid (t':=s.toks) (o:=.tup (ux xs lo hi)) (λb ob q=>bE _ q) (bK _) ?_,rfl,q _ (I.aZ.fresh (bK _))⟩;exact⟨gC (nK xs lo hi) hz,_,(r.drop (HT.sIx xs.length 0 lo)).take (HT.sIx xs.length xs.length hi-HT.sIx xs.length 0 lo),IsTup.new _ _⟩
def J5(K:QY):R2:=λx y H Q=>∃a b xs ys,x=.ref a/\y=.ref b/\SqT K H a xs/\SqT K H b ys/\xs≠[]/\xs.length+ys.length<=sizeLine/\
 (ys=[]->Q (.ref a) H)/\(ys≠[]->∀p,H p=none->Q (.ref p) (aY H p (.tup (xs++ys))))
def Vals.ub(r:Vals xs us):us=[]↔xs=[]:=by
 cases r with
 |nil=>simp
 |cons _ _=>simp
def op_catT:OpR X (binaryOp .Add) (J5 X.K):=by intro aa s σ H x y v u Q I rx ry h;obtain⟨a,b,xs,ys,rfl,rfl,ha,hb,hx,hz,q1,q2⟩:=h;cases rx;cases ry;obtain⟨its,r1,p1,_⟩:=I.tuple ha;obtain⟨its2,r2,p2,_⟩:=I.tuple hb;refine HT.cat_tup p1 p2 (λz=>hx (r1.ub.mp z)) (λz=>⟨.ref a,H,I,rfl,q1 (r2.ub.mp z)⟩) (λz=>?_) (by rw[<- r1.length,<- r2.length];exact hz);refine⟨.ref s.heap.objs.size,_,I.laid (t':=s.toks) (o:=.tup (xs++ys)) (λb ob q=>bE _ q) (bK _) ?_,rfl,q2 (λw=>z (r2.ub.mpr w)) _ (I.aZ.fresh (bK _))⟩;exact⟨by rw[gV];exact hz,_,r1.append r2,IsTup.new _ _⟩
end
noncomputable def AM(n:Nat)(i:Int):Option Nat:=if 0<=i then(if i<n then some i.toNat else none)else if -(n:Int)<=i then some (i+n).toNat else none
def hG{α:Type}(xs:List α)(i:Int):Option α:=(AM xs.length i).bind λj=>xs[j]?
def DV(h:AM n i=some j):seqIndex? i n=some j/\j<n/\-(n:Int)<=i/\i<n:=by
 unfold AM at h;by_cases h0:0<=i
 .rw[b_ h0]at h;by_cases h1:i<n
  .rw[b_ h1]at h;have e:i.toNat=j:=kY h;exact⟨by rw[seqIndex_of h0 h1,e],by lia,by lia,h1⟩
  .rw[cF h1]at h;cases h
 .rw[cF h0]at h;by_cases h1:-(n:Int)<=i
  .rw[b_ h1]at h;have e:(i+n).toNat=j:=kY h;exact⟨by rw[seqIndex_neg (by lia) h1,e],by lia,h1,by lia⟩
  .rw[cF h1]at h;cases h
def su{α:Type}{xs:List α}{i:Int}{v:α}(h:hG xs i=some v):∃j,seqIndex? i xs.length=some j/\xs[j]?=some v/\j<xs.length/\-(xs.length:Int)<=i/\i<xs.length:=by
 unfold hG at h;cases e:AM xs.length i with
 |none=>rw[e]at h;cases h
 |some j=>rw[e]at h;obtain⟨h1,h2,h3,h4⟩:=DV e;exact⟨j,h1,h,h2,h3,h4⟩
def xM{α:Type}{xs:List α}{j:Nat}{v:α}(h:xs[j]?=some v):hG xs (j:Int)=some v:=by grind [AM,hG]
def sv(b:Expr):Prop:=∀o i,subscripted b false o i=operate [o,i] (getItem o i)
def IxR(X:Cx)(r:R2):Prop:=
 ∀(value slice:Expr)(aa:List (Addr×Obj))(s:QX)(σ:St)(H:Hp)(x y:V)(v u:Q0)(Q:VK),Inv X aa σ H s->RelV x v->RelV y u->r x y H Q->
  subscripted slice false v u=operate [v,u] (getItem v u)->wpAny (model X.prog X.w) X.A (subscriptTail value slice v u) (EP X aa σ Q) X.xe s
def G2(X:Cx)(id:String)(r:V->List V->Hp->VK->Prop):Prop:=
 ∀(aa:List (Addr×Obj))(s:QX)(σ:St)(H:Hp)(x:V)(xs:List V)(v:Q0)(us:List Q0)(Q:VK),Inv X aa σ H s->RelV x v->Vals xs us->r x xs H Q->
  wpAny (model X.prog X.w) X.A (call (.builtin id) (v::us)) (EP X aa σ Q) X.xe s
section
variable{X:Cx}
def IxR.or(h:IxR X r)(h':IxR X r'):IxR X (λx y H Q=>r x y H Q\/r' x y H Q):=by
 intro value slice aa s σ H x y v u Q I rx ry q hs;rcases q with q|q
 .exact h value slice aa s σ H x y v u Q I rx ry q hs
 .exact h' value slice aa s σ H x y v u Q I rx ry q hs
def bZ(hr:IxR X r)(ha:PE X a ta)(hb:PE X b tb)(hs:sv b):PE X (.Subscript a b pos) (k7 r ta tb):=by intro aa s σ H Q I h;exact Subscript_ (GM ha hb I h λv u s2 x y H2 I2 rx ry q=>hr a b aa s2 σ H2 x y v u Q I2 rx ry q (hs _ _))
def G3(K:QY):R2:=λx y H Q=>∃p xs i v,x=.ref p/\y=.int i/\SqL K H p xs/\hG xs i=some v/\Q v H
def oP(K:QY):R2:=λx y H Q=>∃p xs i v,x=.ref p/\y=.int i/\SqT K H p xs/\hG xs i=some v/\Q v H
def J6:R2:=λx y H Q=>∃z i c,x=.str z/\y=.int i/\z.length<=sizeLine/\hG z.cps.toList i=some c/\Q (.str ⟨#[c]⟩) H
def ix_list:IxR X (G3 X.K):=by
 intro value slice aa s σ H x y v u Q I rx ry h hs;obtain⟨p,xs,i,z,rfl,rfl,hq,he,q⟩:=h;cases rx;obtain⟨t,rfl⟩:=ry;obtain⟨its,r,pl,hz⟩:=I.list hq;obtain⟨j,h1,h2,h3,h4,h5⟩:=su he;obtain⟨w,ew,rw'⟩:=r.get h2;have hl:=r.length;have hn:=mR;have fin:EP X aa σ Q w s:=⟨z,H,I,rw',q⟩;by_cases h0:0<=i
 .have hj:i.toNat=j:=by rw[seqIndex_of h0 h5]at h1;exact kY h1
  exact item_listR pl.isList h0 (by lia) (by rw[hj];simpa using ew) fin hs
 .have hj:(i+(its.toArray.size:Int)).toNat=j:=by rw[seqIndex_neg (by lia) h4]at h1;rw[cP,<- hl];exact kY h1
  exact subscriptTail_builtinR (x:=w) pl.isList.typeIs slot_list_getitem.lookup
   (wpAny_getItem_list_neg (Q:=λr s'=>r=w/\EP X aa σ Q r s') pl.isList (by lia) (by rw[cP]<;>lia) (by lia) (by rw[hj];simpa using ew) ⟨rfl,fin⟩) hs
def ix_tup:IxR X (oP X.K):=by
 intro value slice aa s σ H x y v u Q I rx ry h hs;obtain⟨p,xs,i,z,rfl,rfl,hq,he,q⟩:=h;cases rx;obtain⟨t,rfl⟩:=ry;obtain⟨its,r,pl,hz⟩:=I.tuple hq;obtain⟨j,h1,h2,h3,h4,h5⟩:=su he;obtain⟨w,ew,rw'⟩:=r.get h2;have hl:=r.length;have hn:=mR;have fin:EP X aa σ Q w s:=⟨z,H,I,rw',q⟩;exact subscriptTail_builtinR (x:=w) pl.typeIs slot_tuple_getitem.lookup
  (getItem_tuple (j:=j) (Q:=λr s'=>r=w/\EP X aa σ Q r s') pl (by lia) (by lia) (by rw[cP,<- hl];exact h1) (by simpa using ew) ⟨rfl,fin⟩) hs
def G4:IxR X J6:=by
 intro value slice aa s σ H x y v u Q I rx ry h hs;obtain⟨z,i,c,rfl,rfl,hz,he,q⟩:=h;obtain⟨t,rfl⟩:=rx;obtain⟨t',rfl⟩:=ry;obtain⟨j,h1,h2,h3,h4,h5⟩:=su he;have hl:z.cps.toList.length=z.length:=by simp[Str.length]
 rw[hl]at h1 h4 h5;have hn:=mR;exact tail_any (typeIs_str s z t) slot_str_getitem.lookup (getItem_str (c:=c) (by have e1:decide (i < -(2^63:Int))=false:=kW (by lia);have e2:decide (i>=2^63)=false:=kW (by lia);rw[e1,e2,Bool.or_false]) (by rw[h1];simpa using h2) ⟨.str ⟨#[c]⟩,H,I.tok _,⟨_,rfl⟩,q⟩) hs
def OB(K:QY):R2:=λx y H Q=>G3 K x y H Q\/oP K x y H Q\/J6 x y H Q
def G5:IxR X (OB X.K):=ix_list.or (ix_tup.or G4)
def sw(lo hi:Option Int)(n:Nat):(sliceBounds lo hi none n).1=((HT.sIx n 0 lo:Nat):Int)/\(sliceBounds lo hi none n).2.1=((HT.sIx n n hi:Nat):Int)/\(sliceBounds lo hi none n).2.2=1:=by
 refine⟨?_,?_,rfl⟩
 .cases lo with
  |none=>simp[sliceBounds,HT.sIx]
  |some i=>
   simp only[sliceBounds,HT.sIx,Option.getD_none,show(1:Int)>0 by decide,PZ]
   grind
 .cases hi with
  |none=>simp[sliceBounds,HT.sIx]
  |some i=>
   simp only[sliceBounds,HT.sIx,Option.getD_none,show(1:Int)>0 by decide,PZ]
   grind
def qE(its:List Q0)(lo hi:Option Int):slicePick its.toArray lo hi none=((its.drop (HT.sIx its.length 0 lo)).take (HT.sIx its.length its.length hi-HT.sIx its.length 0 lo)).toArray:=by obtain⟨h1,h2,h3⟩:=sw lo hi its.toArray.size;unfold slicePick;rw[h1,h2,h3];simp only[sliceRange_one,pick_run,cP]<;>rfl
def M_(K:QY):V->Option Int->Option Int->Hp->VK->Prop:=λx lo hi H Q=>∃a xs,x=.ref a/\SqL K H a xs/\∀p,H p=none->Q (.ref p) (aY H p (.lst (ux xs lo hi)))
def sl_list:SlR X (M_ X.K):=by intro aa s σ H x v vl vu lo hi sl Q I rx hs pl pu h;obtain⟨a,xs,rfl,hx,q⟩:=h;cases rx;obtain⟨its,r,ht,hz⟩:=I.list hx;have cr:=r.length;refine⟨"list",_,slot_list_getitem.lookup,ht.isList.typeIs,?_⟩;refine wpAny_getItem_list_slice ht.isList hs pl pu .none (by simp) ?_ (by rw[cP]<;>lia);rw[qE,<- cr];refine⟨.ref s.heap.objs.size,_,I.laid (t':=s.toks) (o:=.lst (ux xs lo hi)) (λb ob q=>bE _ q) (bK _) ?_,rfl,q _ (I.aZ.fresh (bK _))⟩;exact⟨gC (nK xs lo hi) hz,_,0,(r.drop (HT.sIx xs.length 0 lo)).take (HT.sIx xs.length xs.length hi-HT.sIx xs.length 0 lo),cQ _ rfl⟩
def call_len_seq:CallR X (.builtin "len") (λxs H Q=>∃p ys,xs=[.ref p]/\(SqL X.K H p ys\/SqT X.K H p ys)/\Q (.int ys.length) H):=by
 intro aa s σ H xs us Q I r h;obtain⟨p,ys,rfl,hq,q⟩:=h;obtain⟨u,rfl,rx⟩:=gF r;cases rx;have hn:=mR;rcases hq with hq|hq
 .obtain⟨its,r',pl,hz⟩:=I.list hq;have cr:=r'.length;exact Calls.call_len_list pl.isList (by simp only[cP]<;>lia) ⟨.int ys.length,H,I.tok _,⟨s.toks+1,by rw[cP,cr]⟩,q⟩
 .obtain⟨its,r',pl,hz⟩:=I.tuple hq;have cr:=r'.length;exact len_tuple pl (by simp only[cP]<;>lia) ⟨.int ys.length,H,I.tok _,⟨s.toks+1,by rw[cP,cr]⟩,q⟩
def sA:CallR X (.builtin "len") (λxs H Q=>∃z,xs=[.str z]/\z.length<=sizeLine/\Q (.int z.length) H):=by intro aa s σ H xs us Q I r h;obtain⟨z,rfl,hz,q⟩:=h;obtain⟨u,rfl,t,rfl⟩:=gF r;have hn:=mR;exact len_str (by lia) ⟨.int z.length,H,I.tok _,⟨_,rfl⟩,q⟩
def CallR.or(h:CallR X f r)(h':CallR X f r'):CallR X f (λxs H Q=>r xs H Q\/r' xs H Q):=by
 intro aa s σ H xs us Q I rs q;rcases q with q|q
 .exact h aa s σ H xs us Q I rs q
 .exact h' aa s σ H xs us Q I rs q
def sB:CallR X (.type "list") (λxs H Q=>∃p ys,xs=[.ref p]/\(SqL X.K H p ys\/SqT X.K H p ys)/\∀l,H l=none->Q (.ref l) (aY H l (.lst ys))):=by
 intro aa s σ H xs us Q I r h;obtain⟨p,ys,rfl,hq,q⟩:=h;obtain⟨u,rfl,rx⟩:=gF r;cases rx;have fin:∀(its:List Q0),Vals ys its->ys.length<=sizeLine->∀(h':Heap)(c':Nat),(∀b o',s.heap.get? b=some o'->h'.get? b=some o')->
  h'.get? s.heap.objs.size=some { cls:=.type "list",dict:=none,data:=.seq its.toArray c',slots:=#[] }->EP X aa σ Q (.ref s.heap.objs.size) {s with heap:=h'}:=λits r' hz h' c' kp e=>
  ⟨.ref s.heap.objs.size,_,I.laid (t':=s.toks) kp (bK _) (show ObjOk X.prog X.w _ h' _ (.lst ys)from⟨hz,its,c',r',e⟩),rfl,q _ (I.aZ.fresh (bK _))⟩
 rcases hq with hq|hq
 .obtain⟨its,r',pl,hz⟩:=I.list hq;have cr:=r'.length;obtain⟨o,ho,hc,n,hd⟩:=pl.isList;exact call_list_seq p (.inl rfl) ho hc hd (λh' c' kp e=>fin its r' hz h' c' kp e) (by simp only[cP]<;>lia)
 .obtain⟨its,r',pl,hz⟩:=I.tuple hq;have cr:=r'.length;obtain⟨o,ho,hc,n,hd⟩:=pl;exact call_list_seq p (.inr rfl) ho hc hd (λh' c' kp e=>fin its r' hz h' c' kp e) (by simp only[cP]<;>lia)
def qG:CallR X (.type "tuple") (λxs H Q=>∃p ys,xs=[.ref p]/\((SqL X.K H p ys/\∀l,H l=none->Q (.ref l) (aY H l (.tup ys)))\/(SqT X.K H p ys/\Q (.ref p) H))):=by
 intro aa s σ H xs us Q I r h;obtain⟨p,ys,rfl,h⟩:=h;obtain⟨u,rfl,rx⟩:=gF r;cases rx;rcases h with⟨hq,q⟩|⟨hq,q⟩
 .obtain⟨its,r',pl,hz⟩:=I.list hq;have cr:=r'.length;refine call_tuple_list pl.isList (λh' kp=>?_) (by simp only[cP]<;>lia);have I1:Inv X aa σ H {s with heap:=h'}:=I.kept (t':=s.toks) kp;have I2:Inv X aa σ (aY H h'.objs.size (.tup ys)) { s with heap:=h'.push { cls:=.type "tuple",data:=.seq its.toArray } }:=I1.laid (t':=s.toks) (λb o e=>bE _ e) (bK _) (show ObjOk X.prog X.w _ _ _ (.tup ys)from⟨hz,its,r',IsTup.new _ _⟩);exact⟨.ref h'.objs.size,_,I2,rfl,q _ (I1.aZ.fresh (bK _))⟩
 .obtain⟨its,r',pl,hz⟩:=I.tuple hq;exact call_tuple_same pl ⟨.ref p,H,I,rfl,q⟩
def J7(K:QY)(T:String)(x:V)(H:Hp):Prop:=match x with
 |.str _=>T="str"
 |.int _=>T="int"
 |.ref p=>(T="list"/\∃xs,SqL K H p xs)\/(T="tuple"/\∃o,K.lookup p=some o/\o.cls=.type "tuple"/\o.dict=none)\/
  (T="dict"/\((∃kvs,H p=some (.dK kvs))\/∃kvs,H p=some (.dT kvs)))\/(T="set"/\∃S n,H p=some (.set S n))
 |_=>False
def AN(I:Inv X aa σ H s)(r:RelV x v)(ty:J7 X.K T x H) :
 s.TypeIs v T/\∀a,v=.ref a->∃ob,s.heap.get? a=some ob/\ob.dict=none:=by
 cases x with
 |str z=>obtain⟨t,rfl⟩:=r;cases(show T="str" from ty);exact⟨typeIs_str s z t,λ_ e=>nomatch e⟩
 |int i=>obtain⟨t,rfl⟩:=r;cases(show T="int" from ty);exact⟨typeIs_int s i t,λ_ e=>nomatch e⟩
 |ref p=>
  cases r;rcases ty with⟨rfl,xs,hq⟩|⟨rfl,o,hk,hc,hd⟩|⟨rfl,hk⟩|⟨rfl,S,n,hk⟩
  .obtain⟨its,_,pl,_⟩:=I.list hq;refine⟨pl.isList.typeIs,λa e=>?_⟩;cases e;obtain⟨o,n,e,c,hd,_⟩:=pl;exact⟨o,e,hd⟩
  .refine⟨⟨o,I.kT p o hk,hc⟩,λa e=>?_⟩;cases e;exact⟨o,I.kT _ o hk,hd⟩
  .have z:∃o,s.heap.get? p=some o/\o.ExactDict:=by
    rcases hk with⟨kvs,hk⟩|⟨kvs,hk⟩
    .obtain⟨_,_,_,_,o,_,_,e,ex,_⟩:=I.aZ p _ hk;exact⟨o,e,ex⟩
    .obtain⟨_,_,_,_,o,_,_,e,ex,_⟩:=I.aZ p _ hk;exact⟨o,e,ex⟩
   obtain⟨o,e,ex⟩:=z;refine⟨⟨o,e,ex.1⟩,λa e2=>?_⟩;cases e2;exact⟨o,e,ex.2.1⟩
  .obtain⟨o,_,_,_,e,ex,_⟩:=I.aZ p _ hk;refine⟨⟨o,e,ex.1⟩,λa e2=>?_⟩;cases e2;exact⟨o,e,ex.2.1⟩
 |_=>exact False.elim ty
noncomputable def G6(K:QY)(T:String)(r:V->List V->Hp->VK->Prop)(to:TE):TE:=λσ H Q=>to σ H λx H1=>J7 K T x H1/\r x [] H1 Q
noncomputable def J8(K:QY)(T:String)(r:V->List V->Hp->VK->Prop)(to:TE)(t:TA):TE:=λσ H Q=>to σ H λx H1=>J7 K T x H1/\t σ H1 λxs H2=>r x xs H2 Q
variable{o e:Expr}{es:List Expr}{to:TE}{t:TA}{name:Str}{apos cpos:Pos}{T id:String}{r:V->List V->Hp->VK->Prop}
def AO(pa:PlainAttrs T)(slot:Slot T name id)(hty:typeOf (.builtin id)=pure (.type "method_descriptor")) (hm:G2 X id r) (ho:PE X o to)
 (hbase:autoParam (attributeBase o name X.env (eval o X.env)=eval o X.env) Rc) (hline:autoParam ((apos.endLine==cpos.line)=true) Rc):PE X (.Call (.Attribute o name apos) [] [] cpos) (G6 X.K T r to):=by
 intro aa s σ H Q I h;refine wpAny_Call_method0_late hbase hline (cZ (ho aa s σ H _ I h) λv s1 ⟨x,H1,I1,r1,ty,q1⟩=>?_);obtain⟨h1,h2⟩:=AN I1 r1 ty;exact⟨T,id,pa,slot,hty,h1,h2,O5 rfl (PySem.evalArgs_none (hm aa s1 σ H1 x [] v [] Q I1 r1 .nil q1))⟩
def lN(pa:PlainAttrs T)(slot:Slot T name id)(hty:typeOf (.builtin id)=pure (.type "method_descriptor")) (hm:G2 X id r) (ho:PE X o to) (ha:PA X (e::es) t)
 (hbase:autoParam (attributeBase o name X.env (eval o X.env)=eval o X.env) Rc)
 (hfew:autoParam (((backTo cpos (starEach (e::es) X.env)).all (λx=>!x.1)&&(backToKw cpos (keywordEach [] X.env)).all (λx=>x.1.isSome)
   && decide ((e::es).length+([]:List Keyword).length+(if([]:List Keyword).isEmpty then 0 else 1)<30))=true) Rc)
 (hline:autoParam ((apos.endLine==cpos.line)=true) Rc) (hs:autoParam (starEach (e::es) X.env=(false,eval e X.env)::starEach es X.env) Rc) (hplain:autoParam (bT X cpos es) Rc) :
 PE X (.Call (.Attribute o name apos) (e::es) [] cpos) (J8 X.K T r to t):=by
 intro aa s σ H Q I h;refine wpAny_Call_method_late hbase hfew hline rfl (cZ (ho aa s σ H _ I h) λv s1 ⟨x,H1,I1,r1,ty,q1⟩=>?_);obtain⟨h1,h2⟩:=AN I1 r1 ty;refine⟨T,id,pa,slot,hty,h1,h2,?_⟩;have hA:=ha cpos aa s1 σ H1 _ I1 q1;rw[hs]at hA ⊢;refine O5 (by show(false ||(backTo cpos (starEach es X.env)).any (·.1))=false;rw[hplain]<;>rfl) (O9 ?_);exact cZ hA λus s2 ⟨vs,H2,I2,r2,q2⟩=>hm aa s2 σ H2 x vs v us Q I2 r1 r2 q2
end
def OC(X:Cx)(id:String)(r:V->List V->Hp->VK->Prop):Prop:=
 ∀(aa:List (Addr×Obj))(s:QX)(σ:St)(H:Hp)(x:V)(xs:List V)(v:Q0)(us:List Q0)(Q:VK),Inv X aa σ H s->RelV x v->Vals xs us->r x xs H Q->
  wpAny (model X.prog X.w) X.A (call (.builtin id) (v::us)) (EP X aa σ Q) X.xe s
def Vals.one{x:V}{us:List Q0}(h:Vals [x] us):∃u,us=[u]/\RelV x u:=gF h
section
def Inv.N_{its its':List Q0}{f:Array Q0->Array Q0}(I:Inv X aa σ H s)(hH:H l=some (.lst xs))
 (e:s.heap.get? l=some { cls:=.type "list",data:=.seq its.toArray n }) (hf:f its.toArray=its'.toArray) (hv:Vals ys its') (hz:ys.length<=sizeLine) :
 Inv X aa σ (aY H l (.lst ys)) {s with heap:=s.heap.update l (Obj.mapSeq f),toks:=t'}:=by
 have q:=PySem.IsL.update e f;rw[hf]at q;refine I.write (x:=l) (e:=l) (by rw[hH];exact trivial) (.inl rfl) (λb' u hb hu=>(Gp s.heap (Obj.mapSeq f) (vG hb)).trans hu) ⟨_,q⟩ ?_;exact⟨hz,its',_,hv,q⟩
def Inv.N9(I:Inv X aa σ H s)(hv:Vals ys its)(hz:ys.length<=sizeLine) :
 Inv X aa σ (aY H s.heap.objs.size (.lst ys)) { s with heap:=s.heap.push { cls:=.type "list",data:=.seq its.toArray },toks:=t' }:=
 I.laid (λ_ _ q=>bE _ q) (bK _) ⟨hz,its,0,hv,cQ _ rfl⟩
theorem Inv.fresh(I:Inv X aa σ H s):H s.heap.objs.size=none:=I.aZ.fresh (bK _)
def Inv.N5(I:Inv X aa σ H s)(hH:H l=some (.lst xs)):xs.length<=sizeLine/\∃(its:List Q0)(n:Nat),Vals xs its/\xs.length=its.length/\s.heap.get? l=some { cls:=.type "list",data:=.seq its.toArray n }:=by obtain⟨z,its,n,r,e⟩:=I.aZ l _ hH;exact⟨z,its,n,r,r.length,e⟩
end
section
def lP:V->List V->Hp->VK->Prop:=λx vs H Q=>∃l xs y,x=.ref l/\vs=[y]/\H l=some (.lst xs)/\xs.length<sizeLine/\Q .bL (aY H l (.lst (xs++[y])))
def gf:OC X "list.append" lP:=by intro aa s σ H x vs v us Q I rx rv h;obtain⟨l,xs,y,rfl,rfl,hH,hz,q⟩:=h;cases rx;obtain⟨u,rfl,ru⟩:=rv.one;obtain⟨z,its,n,r,hl,e⟩:=I.N5 hH;refine call_meets F.slot_list_append ⟨_,e,rfl⟩ F.entry_list_append (F.args_list_append_2 _ _) (PySem.list_append l its.toArray n u (by rw[cP];lia)) ⟨e,?_⟩;refine⟨.bL,_,I.N_ (its':=its++[u]) hH e (by simp) (r.append (.cons ru .nil)) ?_,rfl,q⟩;rw[gV,Qh];lia
end
section
variable{κ:Type}[DecidableEq κ]
noncomputable def d_(kvs:List (κ×V))(k:κ):Option V:=(kvs.find? λkv=>decide (kv.1=k)).map (·.2)
noncomputable def dn(kvs:List (κ×V))(k:κ)(v:V):List (κ×V):=if(kvs.any λkv=>decide (kv.1=k))=true then kvs.map (λkv=>if kv.1=k then(kv.1,v)else kv)else kvs++[(k,v)]
noncomputable def kD(kvs:List (κ×V))(k:κ):List (κ×V):=kvs.filter λkv=>decide (kv.1≠k)
def jv{p:κ×V}(e:p.1=k):d_ (p::r) k=some p.2:=by simp[d_,O4,e]
def jw{p:κ×V}(e:¬p.1=k):d_ (p::r) k=d_ r k:=by simp[d_,O4,e]
theorem jy(k:κ):∀kvs:List (κ×V),(kvs.any λkv=>decide (kv.1=k))=(d_ kvs k).isSome
 |[]=>rfl
 |p::r=>by
  rw[QO];by_cases e:p.1=k
  .simp only[jv e,io e,Bool.true_or,Option.isSome_some]
  .rw[jw e,kW e,Bool.false_or];exact jy k r
def gG(kvs:List (κ×V))(k:κ)(v:V):(dn kvs k v).length<=kvs.length+1:=by grind [dn]
def uy{kvs:List (κ×V)}(v:V)(h:d_ kvs k=none):dn kvs k v=kvs++[(k,v)]:=by unfold dn;rw[jy,h];exact cF (by decide)
def RelO.kh(r:RelO o u):o.isSome=u.isSome:=by
 cases o with
 |none=>cases u with
  |none=>rfl
  |some _=>exact(show False from r).elim
 |some _=>cases u with
  |none=>exact(show False from r).elim
  |some _=>rfl
theorem RelO.getD(r:RelO o u)(rd:RelV d d'):RelV (o.getD d) (u.getD d'):=by
 cases o with
 |none=>cases u with
  |none=>exact rd
  |some _=>exact(show False from r).elim
 |some _=>cases u with
  |none=>exact(show False from r).elim
  |some _=>exact r
def KV.val{kvs:List (κ×V)}(r:KV kvs vs)(k:κ):RelO (d_ kvs k) (valueAt vs k):=by
 unfold KV at r;induction r with
 |nil=>exact True.intro
 |@cons p q ps qs h t ih=>
  obtain⟨h1,h2⟩:=h;by_cases e:p.1=k
  .have e':q.1=k:=h1.symm.trans e;have b:valueAt (q::qs) k=some q.2:=by simp[valueAt,O4,e']
   rw[jv e,b];exact h2
  .have e':¬q.1=k:=λz=>e (h1.trans z);have b:valueAt (q::qs) k=valueAt qs k:=by simp[valueAt,O4,e']
   rw[jw e,b];exact ih
theorem KV.any(r:KV kvs vs)(k:κ):(kvs.any λkv=>decide (kv.1=k))=vs.any λkv=>decide (kv.1=k):=by
 unfold KV at r;induction r with
 |nil=>rfl
 |cons h t ih=>rw[QO,QO,ih,h.1]
def KV.Ju(r:KV kvs vs)(k:κ)(ry:RelV y u) :
 KV (kvs.map λkv=>if kv.1=k then(kv.1,y)else kv) (vs.map λkv=>if kv.1=k then(kv.1,u)else kv):=by
 unfold KV at r ⊢;induction r with
 |nil=>exact .nil
 |@cons p q ps qs h t ih=>
  rw[dz,dz];refine .cons ?_ ih
  grind
def KV.put(r:KV kvs vs)(k:κ)(ry:RelV y u):KV (dn kvs k y) (stored vs k u):=by
 unfold dn stored;rw[r.any k];by_cases e:(vs.any λkv=>decide (kv.1=k))=true
 .rw[b_ e,b_ e];exact r.Ju k ry
 .rw[cF e,cF e];exact Paired.snoc r ⟨rfl,ry⟩
theorem KV.drop(r:KV kvs vs)(k:κ):KV (kD kvs k) (without vs k):=by
 unfold KV at r ⊢;unfold kD without;induction r with
 |nil=>exact .nil
 |@cons p q ps qs h t ih=>
  obtain⟨h1,h2⟩:=h;rw[PY,PY];by_cases e:p.1=k
  .grind
  .have e':¬q.1=k:=λz=>e (h1.trans z);have a:decide (p.1≠k)=true:=by simp[e]
   have b:decide (q.1≠k)=true:=by simp[e']
   rw[b_ a,b_ b];exact .cons ⟨h1,h2⟩ ih
theorem KV.length(r:KV kvs vs):kvs.length=vs.length:=Qw r
def AQ(kvs:List (κ×V))(k:κ):(kD kvs k).length<=kvs.length:=List.length_filter_le _ _
end
def oQ(r:RelV (kV k) u):(aJ P w).is k u=true:=by
 cases k with
 |inl i=>obtain⟨t,e⟩:=(show ∃t,u=Value.int i t from r);subst e;exact ug P w i t
 |inr x=>obtain⟨t,e⟩:=(show ∃t,u=Value.str x t from r);subst e;exact uh P w x t
theorem rg:∀{ks:List cJ}{us:List Q0},Vals (ks.map kV) us->ItemsAre (aJ P w) ks us
 |[],_,r=>by rw[Pk]at r;cases r;exact .nil
 |k::ks,_,r=>by
  rw[dz]at r;cases r with
  |cons h t=>exact .cons (oQ h) (rg t)
abbrev KT(H:Hp):List (List cJ×V)->List (List cJ×Addr×Q0)->Prop:=Paired λp q=>p.1=q.1/\H q.2.1=some (.tup (p.1.map kV))/\RelV p.2 q.2.2
def KT.val{H:Hp}(r:KT H kvs xs)(k:List cJ):RelO (d_ kvs k) ((atKey xs k).map (·.2)):=by
 induction r with
 |nil=>exact True.intro
 |@cons p q ps qs h t ih=>
  obtain⟨h1,_,h2⟩:=h;by_cases e:p.1=k
  .have e':q.1=k:=h1.symm.trans e;have b:atKey (q::qs) k=some q.2:=by simp[atKey,O4,e']
   rw[jv e,b];exact h2
  .have e':¬q.1=k:=λz=>e (h1.trans z);have b:atKey (q::qs) k=atKey qs k:=by simp[atKey,O4,e']
   rw[jw e,b];exact ih
def KT.Ju(r:KT H kvs xs)(k:List cJ)(ry:RelV y u) :
 KT H (kvs.map λkv=>if kv.1=k then(kv.1,y)else kv) (xs.map (putAt k u)):=by
 induction r with
 |nil=>exact .nil
 |@cons p q ps qs h t ih=>
  rw[dz,dz];refine .cons ?_ ih;obtain⟨h1,h2,h3⟩:=h;unfold putAt
  grind
def KT.put(r:KT H kvs xs)(k:List cJ)(hb:H b=some (.tup (k.map kV)))(ry:RelV y u) :
 KT H (dn kvs k y) (storedH xs k b u):=by
 have e:(kvs.any λkv=>decide (kv.1=k))=(atKey xs k).isSome:=by rw[jy,(r.val k).kh,Option.isSome_map]
 unfold dn storedH;rw[e];by_cases q:(atKey xs k).isSome=true
 .rw[b_ q,b_ q];exact r.Ju k ry
 .rw[cF q,cF q];exact Paired.snoc r ⟨rfl,hb,ry⟩
def KT.keeps(r:KT H kvs xs)(ht:∀b ys,H b=some (.tup ys)->H' b=some (.tup ys)):KT H' kvs xs:=Paired.Mz r λ_ _ z=>⟨z.1,ht _ _ z.2.1,z.2.2⟩
section
def FG(ok:HOk P w H h)(e:Rd H a u):ObjOk P w H h a u:=e.ok ok
def oR(ok:HOk P w H h)(e:Rd H a (.dK kvs)):kvs.length<=sizeLine/\(a==sysModules)=false/\∃vs,KV kvs vs/\h.DictOf (aJ P w) a vs:=show ObjOk P w H h a (.dK kvs)from FG ok e
def xN(ok:HOk P w H h)(e:H a=some (.dK kvs)):kvs.length<=sizeLine/\(a==sysModules)=false/\∃vs,KV kvs vs/\h.DictOf (aJ P w) a vs:=oR ok (.inl e)
theorem iF(ok:HOk P w H h)(e:H a=some (.tup (ks.map kV))):(tupleKind (aJ P w)).is h ks a:=by obtain⟨_,its,r,o,h1,h2,n,h3⟩:=(show ObjOk P w H h a (.tup (ks.map kV))from ok a _ e);exact⟨o,its.toArray,n,h1,h2,h3,by simpa using rg r⟩
def rh(ok:HOk P w H h)(e:Rd H a (.dT kvs)):kvs.length<=sizeLine/\(a==sysModules)=false/\
 ∃xs,KT H kvs xs/\h.DictOfH (tupleKind (aJ P w)) a xs:=by
 obtain⟨z,y,xs,r,o,es,ep,h1,h2,h3,h4,h5⟩:=(show ObjOk P w H h a (.dT kvs)from FG ok e);refine⟨z,y,xs,r,o,es,ep,h1,h2,h3,h4,λx hx=>?_,h5⟩;have all:∀{l:List (List cJ×V)}{m:List (List cJ×Addr×Q0)},KT H l m->∀x∈m,(tupleKind (aJ P w)).is h x.1 x.2.1:=by
  intro l m q;induction q with
  |nil=>intro x hx;exact nomatch hx
  |@cons p q ps qs hq t ih=>grind [iF]
 exact all r x hx
def FH(ok:HOk P w H h)(e:H a=some (.dT kvs)):kvs.length<=sizeLine/\(a==sysModules)=false/\
 ∃xs,KT H kvs xs/\h.DictOfH (tupleKind (aJ P w)) a xs:=rh ok (.inl e)
end
def DGet(H:Hp)(a:Addr)(y:V)(r:Option V):Prop:=(∃kvs k,Rd H a (.dK kvs)/\y=kV k/\r=d_ kvs k)\/∃kvs k b,Rd H a (.dT kvs)/\y=.ref b/\H b=some (.tup (k.map kV))/\r=d_ kvs k
def DPut(H:Hp)(a:Addr)(y v:V)(H':Hp):Prop:=
 (∃kvs k,H a=some (.dK kvs)/\y=kV k/\kvs.length<sizeLine/\H'=aY H a (.dK (dn kvs k v)))\/
 ∃kvs k b,H a=some (.dT kvs)/\y=.ref b/\H b=some (.tup (k.map kV))/\kvs.length<sizeLine/\H'=aY H a (.dT (dn kvs k v))
def DGet.t{kvs:List (List cJ×V)}{k:List cJ}(e:H a=some (.dT kvs))(eb:H b=some (.tup (k.map kV))):DGet H a (.ref b) (d_ kvs k):=.inr ⟨kvs,k,b,.inl e,rfl,eb,rfl⟩
def DPut.t{kvs:List (List cJ×V)}{k:List cJ}{v:V}(e:H a=some (.dT kvs))(eb:H b=some (.tup (k.map kV)))(hl:kvs.length<sizeLine) :
 DPut H a (.ref b) v (aY H a (.dT (dn kvs k v))):=.inr ⟨kvs,k,b,e,rfl,eb,hl,rfl⟩
section
def Inv.big(I:Inv X aa σ H s):sysModules<s.heap.objs.size:=by have h:mainGlobals<s.heap.objs.size:=(I.mod.glob.keeps I.bk).lt;exact Nat.lt_trans (by decide) h
def yU(hu:A.units+1<cLine)(I:Inv X aa σ H s)(g:DGet H a y (some v))(ry:RelV y u)(h:∀w' s',Inv X aa σ H s'->RelV v w'->Q w' s') :
 wpAny (model X.prog X.w) A (getItem (.ref a) u) Q E s:=by
 rcases g with⟨kvs,k,e,ey,l⟩|⟨kvs,k,b,e,ey,eb,l⟩
 .subst ey;obtain⟨z,hd,vs,rel,dd⟩:=oR I.aZ e;obtain⟨w',hw,rw'⟩:=RelO.some_of (v:=v) (o:=valueAt vs k) (by rw[l];exact rel.val k);exact wpAny_getItem_of (oQ ry) dd.mapOf hw (h w' _ (I.tok _) rw')
 .subst ey;cases(show u=Value.ref b from ry);obtain⟨z,hd,xs,rel,dd⟩:=rh I.aZ e;obtain⟨w',hw,rw'⟩:=RelO.some_of (v:=v) (o:=(atKey xs k).map (·.2)) (by rw[l];exact rel.val k);obtain⟨p,hp,hp2⟩:=Gr.mp hw;refine wpAny_getItem_heap (P8 hu) (iF I.aZ eb) dd hp ?_;rw[hp2];exact h w' _ (I.tok _) rw'
def lQ(I:Inv X aa σ H s)(mu:JL (H a))(hs:Heap.SameBut a s.heap h')(he:∃q,h'.get? a=some q)(new:ObjOk X.prog X.w (aY H a ob) h' a ob) :
 Inv X aa σ (aY H a ob) {s with heap:=h',toks:=t'}:=
 I.write (x:=a) (e:=a) mu (.inl rfl) (λb q hb z=>(hs.2 b hb).trans z) he new
def wg(z:kvs.length<=sizeLine)(hd:(a==sysModules)=false)(rel:KV kvs vs)(dd:h'.DictOf (aJ P w) a vs) :
 ObjOk P w H' h' a (.dK kvs):=⟨z,hd,vs,rel,dd⟩
def yV(hu:A.units+1<cLine)(I:Inv X aa σ H s)(g:DPut H a y v H')(ry:RelV y u)(rv:RelV v r)(h:∀s',Inv X aa σ H' s'->Q () s') :
 wpAny (model X.prog X.w) A (setItem (.ref a) u r) Q E s:=by
 rcases g with⟨kvs,k,e,ey,l,eH⟩|⟨kvs,k,b,e,ey,eb,l,eH⟩
 .subst ey eH;obtain⟨z,hd,vs,rel,dd⟩:=xN I.aZ e;have hz:vs.length<=sizeLine:=by rw[<- rel.length];exact z
  have hl:(dn kvs k v).length<=sizeLine:=by have:=gG kvs k v;lia
  refine wpAny_setItem_pairs (hsz:=hz) (oQ ry) dd λh' dd' hs=>h _ ?_;have he:∃q,h'.get? a=some q:=let ⟨q,_,_,hq,_⟩:=dd';⟨q,hq⟩;exact lQ I (by rw[e];exact True.intro) hs he (wg hl hd (rel.put k rv) dd')
 .subst ey eH;cases(show u=Value.ref b from ry);obtain⟨z,hd,xs,rel,dd⟩:=FH I.aZ e;have hz:xs.length<=sizeLine:=by rw[<- Qw rel];exact z
  have hl:(dn kvs k v).length<=sizeLine:=by have:=gG kvs k v;lia
  refine wpAny_setItem_heap (hsz:=hz) (P8 hu) (iF I.aZ eb) dd λh' dd' hs=>h _ ?_;obtain⟨q,es,ep,hq,h2,h3,h4,_,h5⟩:=dd';refine lQ I (by rw[e];exact True.intro) hs ⟨q,hq⟩ ⟨hl,hd,_,(rel.put k eb rv).keeps λc ys ec=>?_,q,es,ep,hq,h2,h3,h4,h5⟩;rw[aj (Aw ec e (λz=>nomatch z))];exact ec
end
section
def J_(I:Inv X aa σ H s)(e:H a=some (.dK kvs))(ry:RelV (kV k) u)(l:d_ kvs k=some v)(hm:more=[]\/∃x,more=[x])
 (h:∀w' s',Inv X aa σ (aY H a (.dK (kD kvs k))) s'->RelV v w'->Q w' s'):wpAny (model X.prog X.w) A (call (.builtin "dict.pop") (.ref a::u::more)) Q E s:=by
 obtain⟨z,hd,vs,rel,dd⟩:=xN I.aZ e;obtain⟨w',hw,rw'⟩:=RelO.some_of (v:=v) (o:=valueAt vs k) (by rw[<- l];exact rel.val k);have hp:(keyPart u).isSome=true:=by
  cases k with
  |inl i=>obtain⟨t,q⟩:=(show ∃t,u=Value.int i t from ry);subst q;rfl
  |inr x=>obtain⟨t,q⟩:=(show ∃t,u=Value.str x t from ry);subst q;rfl
 have ha:argsOk "dict.pop" ⟨.ref a::u::more,[]⟩:=by
  rcases hm with q|⟨x,q⟩
  .subst q;exact PySem.F.args_dict_pop_2 _ _
  .subst q;exact PySem.F.args_dict_pop_3 _ _ _
 refine Qi PySem.F.slot_dict_pop dd.typeIs PySem.F.entry_dict_pop ha (meets_dict_pop_there (aJ X.prog X.w) a (oQ ry) more hm hp)
  ⟨vs,w',dd,by rw[<- rel.length];exact z,hw,λh' dd' hs=>h w' _ ?_ rw'⟩
 have he:∃q,h'.get? a=some q:=let ⟨q,_,_,hq,_⟩:=dd';⟨q,hq⟩;exact lQ I (by rw[e];exact True.intro) hs he (wg (gC (AQ kvs k) z) hd (rel.drop k) dd')
end
def Ka(i:Expr):Prop:=∀ov iv,subscripted i false ov iv=operate [ov,iv] (getItem ov iv)
def DW{E:Q0->QX->Prop}{env:Env}{value slice:Expr}{pos:Pos}{T id:String}{Q:Q0->QX->Prop}
 (hl:typeLookup (.type T) "__getitem__"=pure (some (.builtin id))) (hs:Ka slice)
 (h:wpAny (model prog w) A (eval value env) (λo s₁=>wpAny (model prog w) A (eval slice env) (λi s₂=>s₂.TypeIs o T/\wpAny (model prog w) A (getItem o i) Q E s₂) E s₁) E s) :
 wpAny (model prog w) A (eval (.Subscript value slice pos) env) Q E s:=by
 refine Subscript_ (mC h (λo s₁ h₁=>mC h₁ (λi s₂ h₂=>?_) λ_ _ x=>x) λ_ _ x=>x);obtain⟨hT,h₂⟩:=h₂;unfold subscriptTail;refine bj ?_;rw[getitemInPython_of_ne hT.not_modules];refine bj (wpAny_specialOf hT hl ?_);have fin:wpAny (model prog w) A (subscripted slice false o i) (λr s₃=>wpAny (model prog w) A (letTemporaryGo value o r >>= λ_=>pure r) Q E s₃) E s₂:=by rw[hs o i];exact wpAny_operating (mC h₂ (λr s₃ h₃=>bj (wpAny_letTemporaryGo (bY h₃))) λ_ _ x=>x)
 first
  |exact bY (bj fin)
  |exact bj (bY (bj fin))
  |exact bj fin
def uz(I:Inv X aa σ H s)(g:DGet H a y o):s.TypeIs (.ref a) "dict":=by
 rcases g with⟨kvs,k,e,_,_⟩|⟨kvs,k,b,e,_,_,_⟩
 .obtain⟨_,_,vs,_,dd⟩:=oR I.aZ e;exact dd.typeIs
 .obtain⟨_,_,xs,_,dd⟩:=rh I.aZ e;exact dd.typeIs
noncomputable def FI(td ty:TE):TE:=λσ H Q=>td σ H λx H1=>ty σ H1 λy H2=>∃a v,x=.ref a/\DGet H2 a y (some v)/\Q v H2
noncomputable def AR(td ty tv:TE):TS:=λD σ H=>tv σ H λv H1=>td σ H1 λx H2=>ty σ H2 λy H3=>∃a H4,x=.ref a/\DPut H3 a y v H4/\D.nx σ H4
section
def DY(hu:X.A.units+1<cLine)(ho:PE X o td)(hi:PE X i ty)(hs:Ka i):PE X (.Subscript o i pos) (FI td ty):=by intro aa s σ H Q I h;refine DW PySem.F.slot_dict_getitem.lookup hs (cZ (ho aa s σ H _ I h) λu s1 ⟨x,H1,I1,rx,q1⟩=>cZ (hi aa s1 σ H1 _ I1 q1) λiv s2 ⟨y,H2,I2,ry,a,v,ex,g,q2⟩=>?_);subst ex;obtain rfl:u=Value.ref a:=rx;exact⟨uz I2 g,yU hu I2 g ry λw' s3 I3 rw'=>⟨v,H2,I3,rw',q2⟩⟩
def DZ(hu:X.A.units+1<cLine)(ho:PE X o td)(hi:PE X i ty)(hv:PE X value tv)(hs:swapsWith value (some (.Subscript o i pos')) pos.line X.env=pure false) :
 PS X (.Assign [.Subscript o i pos'] value pos) (AR td ty tv):=by
 intro aa s σ H D I h;refine wpAny_Assign_Subscript (cZ (hv aa s σ H _ I h) λr s1 ⟨v,H1,I1,rv,q1⟩=>cZ (ho aa s1 σ H1 _ I1 q1) λu s2 ⟨x,H2,I2,rx,q2⟩=>cZ (hi aa s2 σ H2 _ I2 q2) λiv s3 ⟨y,H3,I3,ry,a,H4,ex,g,q3⟩=>?_) hs;subst ex;obtain rfl:u=Value.ref a:=rx;exact yV hu I3 g ry rv λs4 I4=>⟨σ,H4,I4,q3⟩
end
def AS(h:Heap)(hb:sysModules<h.objs.size):ObjOk P w H (h.push { cls:=.type "dict",data:=.dict #[] }) h.objs.size (.dK []):=⟨jT _,P0.mpr (vG (e_ hb)),[],.nil,Heap.DictOf.new h⟩
def AT(h:Heap)(hb:sysModules<h.objs.size):ObjOk P w H (h.push { cls:=.type "dict",data:=.dict #[] }) h.objs.size (.dT []):=⟨jT _,P0.mpr (vG (e_ hb)),[],.nil,_,#[],0,cQ _ rfl,⟨rfl,rfl,rfl⟩,rfl,rfl,j3⟩
def AU:TE:=λ_ H Q=>∀p,H p=none->Q (.ref p) (aY H p (.dK []))
def oS:TE:=λ_ H Q=>∀p,H p=none->Q (.ref p) (aY H p (.dT []))
section
def AV:PE X (.Dict [] [] pos) AU:=λaa s σ H Q I h=>wpAny_Dict_empty ⟨.ref s.heap.objs.size,_,I.laid (a:=s.heap.objs.size) (o:=.dK []) (t':=s.toks) (λ_ _ q=>bE _ q) (bK _) (AS s.heap I.big),rfl,h _ (I.aZ.fresh (bK _))⟩
def lR:PE X (.Dict [] [] pos) oS:=λaa s σ H Q I h=>wpAny_Dict_empty ⟨.ref s.heap.objs.size,_,I.laid (a:=s.heap.objs.size) (o:=.dT []) (t':=s.toks) (λ_ _ q=>bE _ q) (bK _) (AT s.heap I.big),rfl,h _ (I.aZ.fresh (bK _))⟩
end
structure M1(X:Cx) (o:Expr) (m:Str) (apos:Pos) (e:Expr) (cpos:Pos):Prop where
 base:attributeBase o m X.env (eval o X.env)=eval o X.env
 qD:((backTo cpos (starEach [e] X.env)).all (λx=>!x.1)&&(backToKw cpos (keywordEach [] X.env)).all (λx=>x.1.isSome)
  && decide (([e]:List Expr).length+([]:List Keyword).length+(if([]:List Keyword).isEmpty then 0 else 1)<30))=true
 line:(apos.endLine==cpos.line)=true
 trees:backTo cpos (starEach [e] X.env)=[(false,eval e X.env)]
structure M2(X:Cx) (o:Expr) (m:Str) (apos:Pos) (e f:Expr) (cpos:Pos):Prop where
 base:attributeBase o m X.env (eval o X.env)=eval o X.env
 qD:((backTo cpos (starEach [e,f] X.env)).all (λx=>!x.1)&&(backToKw cpos (keywordEach [] X.env)).all (λx=>x.1.isSome)
  && decide (([e,f]:List Expr).length+([]:List Keyword).length+(if([]:List Keyword).isEmpty then 0 else 1)<30))=true
 line:(apos.endLine==cpos.line)=true
 trees:backTo cpos (starEach [e,f] X.env)=[(false,eval e X.env),(false,eval f X.env)]
def Kb(H:Hp)(a:Addr):Prop:=(∃kvs,Rd H a (.dK kvs))\/∃kvs,Rd H a (.dT kvs)
def sC(I:Inv X aa σ H s)(d:Kb H a) :
 s.TypeIs (.ref a) "dict"/\(∀b,Value.ref a=.ref b->∃ob,s.heap.get? b=some ob/\ob.dict=none)/\(a==sysModules)=false:=by
 rcases d with⟨kvs,e⟩|⟨kvs,e⟩
 .obtain⟨_,hd,vs,_,dd⟩:=oR I.aZ e;refine⟨dd.typeIs,λb q=>?_,hd⟩;cases q;obtain⟨ob,_,_,h1,h2,_⟩:=dd;exact⟨ob,h1,h2.2.1⟩
 .obtain⟨_,hd,xs,_,dd⟩:=rh I.aZ e;refine⟨dd.typeIs,λb q=>?_,hd⟩;cases q;obtain⟨ob,_,_,h1,h2,_⟩:=dd;exact⟨ob,h1,h2.2.1⟩
section
def G7(hu:A.units+1<cLine)(I:Inv X aa σ H s)(g:DGet H a y o)(ry:RelV y u)(h:∀w' s',Inv X aa σ H s'->RelV (o.getD .bL) w'->Q w' s') :
 wpAny (model X.prog X.w) A (call (.builtin "dict.get") [.ref a,u]) Q E s:=by
 rcases g with⟨kvs,k,e,ey,l⟩|⟨kvs,k,b,e,ey,eb,l⟩
 .subst ey;obtain⟨z,hd,vs,rel,dd⟩:=oR I.aZ e;refine Qi Jx dd.typeIs Py (PySem.F.args_dict_get_2 _ _) (meets_dict_get (aJ X.prog X.w) a (oQ ry) hd) ⟨_,dd.mapOf,h _ _ (I.tok _) ?_⟩;rw[l];exact(rel.val k).getD rfl
 .subst ey;cases(show u=Value.ref b from ry);obtain⟨z,hd,xs,rel,dd⟩:=rh I.aZ e;refine Qi Jx dd.typeIs Py (PySem.F.args_dict_get_2 _ _) (meetsH_dict_get (tupleKind (aJ X.prog X.w)) a b hd) ⟨P8 hu,k,xs,iF I.aZ eb,dd,h _ _ (I.tok _) ?_⟩;rw[l];exact(rel.val k).getD rfl
def G8(hu:A.units+1<cLine)(I:Inv X aa σ H s)(g:DGet H a y o)(ry:RelV y u)(rd:RelV d r)(h:∀w' s',Inv X aa σ H s'->RelV (o.getD d) w'->Q w' s') :
 wpAny (model X.prog X.w) A (call (.builtin "dict.get") [.ref a,u,r]) Q E s:=by
 rcases g with⟨kvs,k,e,ey,l⟩|⟨kvs,k,b,e,ey,eb,l⟩
 .subst ey;obtain⟨z,hd,vs,rel,dd⟩:=oR I.aZ e;refine Qi Jx dd.typeIs Py (PySem.F.args_dict_get_3 _ _ _) (meets_dict_get_default (aJ X.prog X.w) a (oQ ry) hd r) ⟨_,dd.mapOf,h _ _ (I.tok _) ?_⟩;rw[l];exact(rel.val k).getD rd
 .subst ey;cases(show u=Value.ref b from ry);obtain⟨z,hd,xs,rel,dd⟩:=rh I.aZ e;refine Qi Jx dd.typeIs Py (PySem.F.args_dict_get_3 _ _ _) (meetsH_dict_get_default (tupleKind (aJ X.prog X.w)) a b hd r) ⟨P8 hu,k,xs,iF I.aZ eb,dd,h _ _ (I.tok _) ?_⟩;rw[l];exact(rel.val k).getD rd
end
noncomputable def wj(td ty:TE):TE:=λσ H Q=>td σ H λx H1=>∃a,x=.ref a/\Kb H1 a/\ty σ H1 λy H2=>∃o,DGet H2 a y o/\Q (o.getD .bL) H2
noncomputable def k9(td ty tx:TE):TE:=λσ H Q=>td σ H λx H1=>∃a,x=.ref a/\Kb H1 a/\ty σ H1 λy H2=>tx σ H2 λz H3=>∃o,DGet H3 a y o/\Q (o.getD z) H3
def oT(td ty:TE):TE:=λσ H Q=>td σ H λx H1=>∃a,x=.ref a/\Kb H1 a/\ty σ H1 λy H2=>∃kvs k v,H2 a=some (.dK kvs)/\y=kV k/\d_ kvs k=some v/\Q v (aY H2 a (.dK (kD kvs k)))
section
def AW(hu:X.A.units+1<cLine)(ho:PE X o td)(he:PE X e ty)(m:M1 X o "get" apos e cpos):PE X (.Call (.Attribute o "get" apos) [e] [] cpos) (wj td ty):=by intro aa s σ H Q I h;refine wpAny_Call_method m.base m.qD m.line nV Jx PySem.F.type_dict_get (cZ (ho aa s σ H _ I h) λu s1 ⟨x,H1,I1,rx,a,ex,d,q1⟩=>?_);subst ex;obtain rfl:u=Value.ref a:=rx;obtain⟨t1,t2,_⟩:=sC I1 d;refine⟨t1,t2,?_⟩;rw[m.trees];refine O5 rfl (O9 (O6 (cZ (he aa s1 σ H1 _ I1 q1) λiv s2 ⟨y,H2,I2,ry,ov,g,q2⟩=>PH ?_)));exact G7 hu I2 g ry λw' s3 I3 rw'=>⟨_,H2,I3,rw',q2⟩
def oU(hu:X.A.units+1<cLine)(ho:PE X o td)(he:PE X e ty)(hf:PE X f tx)(m:M2 X o "get" apos e f cpos):PE X (.Call (.Attribute o "get" apos) [e,f] [] cpos) (k9 td ty tx):=by intro aa s σ H Q I h;refine wpAny_Call_method m.base m.qD m.line nV Jx PySem.F.type_dict_get (cZ (ho aa s σ H _ I h) λu s1 ⟨x,H1,I1,rx,a,ex,d,q1⟩=>?_);subst ex;obtain rfl:u=Value.ref a:=rx;obtain⟨t1,t2,_⟩:=sC I1 d;refine⟨t1,t2,?_⟩;rw[m.trees];refine O5 rfl (O9 (O6 (cZ (he aa s1 σ H1 _ I1 q1) λiv s2 ⟨y,H2,I2,ry,q2⟩=>O6 (cZ (hf aa s2 σ H2 _ I2 q2) λfv s3 ⟨z,H3,I3,rz,ov,g,q3⟩=>PH ?_))));exact G8 hu I3 g ry rz λw' s4 I4 rw'=>⟨_,H3,I4,rw',q3⟩
def uA(ho:PE X o td)(he:PE X e ty)(m:M1 X o "pop" apos e cpos):PE X (.Call (.Attribute o "pop" apos) [e] [] cpos) (oT td ty):=by intro aa s σ H Q I h;refine wpAny_Call_method m.base m.qD m.line nV PySem.F.slot_dict_pop PySem.F.type_dict_pop (cZ (ho aa s σ H _ I h) λu s1 ⟨x,H1,I1,rx,a,ex,d,q1⟩=>?_);subst ex;obtain rfl:u=Value.ref a:=rx;obtain⟨t1,t2,_⟩:=sC I1 d;refine⟨t1,t2,?_⟩;rw[m.trees];refine O5 rfl (O9 (O6 (cZ (he aa s1 σ H1 _ I1 q1) λiv s2 z=>PH ?_)));obtain⟨y,H2,I2,ry,kvs,k,v,ea,rfl,l,q2⟩:=z;exact J_ I2 ea ry l (.inl rfl) λw' s3 I3 rw'=>⟨v,_,I3,rw',q2⟩
end
end L2
namespace Att
open PySem PySem.W PySem.Calls PyProof.Rows
def nX:∀(ns:List Int)(vs:List Q0),WellAll P h vs (ns.map WData.int)->IntsAre vs ns:=by
 intro ns;induction ns with
 |nil=>intro vs w;rw[Pk]at w;cases w;exact .nil
 |cons n ns ih=>
  intro vs w;rw[dz]at w;cases w with
  |cons a b=>cases a;exact .cons _ _ (ih _ b)
def yW{l:OpenLaw}{n:Nat}(hn:l.most=some n){P:Params}
 (hpre:l.row.toRowW.claim.pre args=true) (hwl:WellAll P h vals args) :
 ∃a vs ns,vals=[Value.ref a]/\args=[WData.list (ns.map WData.int)]/\h.get? a=some { cls:=.type "list",data:=.seq vs.toArray }/\IntsAre vs ns/\ns.length<=n:=by
 have hsh:WShape.hasAll [] args [.list .int]=true:=(pre_splitW hpre).1;have hc:l.pre.holds [] {args:=args}=true:=(pre_splitW hpre).2;obtain⟨d,r,rfl,h1,h2⟩:=hasAllW_cons hsh;obtain rfl:=hasAllW_nil h2;obtain⟨xs,rfl,h3⟩:=hasW_list h1;obtain⟨ns,rfl⟩:=items_int h3;have cr:ns.length<=n:=by
  unfold OpenLaw.pre at hc;have h4:(WTm.not (.lt (.lit (.int (n:Int))) (.len (.arg 0)))).holds [] {args:=[.list (ns.map .int)]}=true:=by have h4:=(holds_andW hc).1;rw[hn]at h4;exact h4
  have h5:=condW_of h4 (w_not (w_lt w_lit (w_len_list (w_arg rfl))))
  grind
 cases hwl with
 |cons w1 w2=>
  cases w2;cases w1 with
  |list ho i8=>exact⟨_,_,ns,rfl,rfl,ho,nX ns _ i8,cr⟩
def yX(l:OpenLaw)(args:List WData):l.row.toRowW.claim.post args (.bool true) args=true:=
 postW_of (r:=l.row.toRowW) (X:=(true==true))
  (show WShape.has [] (.bool true) .bool=true by first|rfl|decide|simp[WShape.has,WShape.arms,WShape.armsAll])
  (show(WTm.eq .res (.lit (.bool true))).value [] {args:=args,res:=some (.bool true),after:=args}=some (.bool (true==true))from w_eq_bool (w_res rfl) w_lit) rfl
def attach_call{l:OpenLaw}{n:Nat}{XP:(Str->Option Q0)->Heap->Prop}{YP:World->Heap->Prop}
 (hn:l.most=some n) (hdf:d.params.defaults=[])
 (call:∀(w:World)(s₀ s₁:QX)(mg mb:Str->Option Q0)(fa:Addr)(o:Obj)(pm cd doc:Q0)(a:Addr)(vs:List Q0)(ns:List Int),
   Ground q loose [] XP w s₀ mg mb s₁.heap->YP w s₁.heap->
   s₁.heap.get? fa=some o->o.data=.func (docDef d.name d.params d.body d.scope pm cd doc)->s₁.heap.CodeRec cd d.name->mg d.name=some (.ref fa)->
   s₁.heap.get? a=some { cls:=.type "list",data:=.seq vs.toArray }->IntsAre vs ns->ns.length<=n->s₁.gens=#[]->
   codeAny (model l.prog w) callerA (.call (.ref fa) ⟨[.ref a],[]⟩) (λr s'=>r=.ok (.ret (.bool true))/\OldK s₁.heap s'.heap/\s'.os=s₁.os/\AllBare s'.gens) s₁) :
 WalkO q loose XP YP l.row.toRowW d [] (λf vs=>PySem.call f vs):=by
 intro w s₀ s₁ mg mb G Y fa o pm cd doc dV kV ho hd hcd hD hmg hg args vals as hpre hlay hrd hwl hlo;obtain rfl:dV=.none:=Dflts.none hD hdf;obtain rfl:kV=.none:=Dflts.noKw hD;obtain⟨a,vs,ns,rfl,rfl,hobj,hints,cr⟩:=yW hn hpre hwl;refine enter_call (P3 (call w s₀ s₁ mg mb fa o pm cd doc a vs ns G Y ho (fd_plain hd) hcd hmg hobj hints cr hg) λr s' hq=>?_);obtain⟨rfl,h2,h3,h4⟩:=hq;exact⟨.inl ⟨.bool true,.bool true,[],rfl,λ_=>rfl,.bool true,yX l _,λ_=>⟨List.Pairwise.nil,λ_ hm=>(nomatch hm)⟩⟩,h2,h3,h4⟩
end Att
namespace L2
open PySem PySem.Spec PyProof.Rows
noncomputable def fX(s:Stmt)(j:Nat):Stmt:=match s with
 |.ClassDef _ _ _ body _ _ _ _ _ _ _=>body.getD j (.Pass ⟨0,0,0,0⟩)
 |_=>.Pass ⟨0,0,0,0⟩
noncomputable def aF(s:Stmt):Arguments:=match s with
 |.FunctionDef _ a _ _ _ _ _ _ _ _=>a
 |_=>{posonlyargs:=[],args:=[],vararg:=none,kwonlyargs:=[],kw_defaults:=[],kwarg:=none,defaults:=[]}
noncomputable def aC(s:Stmt):List Stmt:=match s with
 |.FunctionDef _ _ b _ _ _ _ _ _ _=>b
 |_=>[]
noncomputable def af(s:Stmt):Scope:=match s with
 |.FunctionDef _ _ _ _ _ _ sc _ _ _=>sc
 |_=>{kind:=.function,names:=[],isGenerator:=false,isCoroutine:=false}
noncomputable abbrev yY:Ao:=λ_ _ _ _ _ _=>False
noncomputable abbrev E0:XK:=λ_ _ _=>False
def gk:fP yY X E0:=λ_ _ _ _ _ _ _ h=>h.elim
structure Al(K:QY) (x qual:Str) (st:Stmt) (f:Addr) (fd:FuncData):Prop where
 ex:∃(oc:Q0)(od:Option Addr)(kV doc pm:Q0)(an:Option Addr)(cdv ct:Q0)(osl:Array (Option Q0)),
  fd=fnOf x qual (aF st) (aC st) (af st) .none kV doc pm an cdv ct/\K.lookup f=some ⟨oc,od,.func fd,osl⟩/\codeIn K cdv qual=true
 kp:keepIn K (.ref f)=true
section
variable{P:QZ}{w:World}{K:QY}{mg:Str->Option Q0}{base:Heap}
def Al.ok{x qual:Str}{st:Stmt}{f:Addr}{fd:FuncData}{N ps:List Str}{k:Nat}{sp:Sp}(F:Al K x qual st f fd)(S:aR N ps (af st))(len:∀vs H Q E,sp vs H Q E->vs.length=ps.length)
 (hbody:∀(cdv:Q0)(A:Q1)(outer:List Env)(s:QX)(H:Hp)(vs:List V)(Q:VK)(E:XK),dj k (A.deeper (envOfC qual (af st) s.heap.objs.size f cdv))->sp vs H Q E->
   ∃t,PSs (wd yY P w K mg base N qual (af st) f cdv A outer s H E).GA (aC st) t/\t {nx:=λ_ H'=>Q .bL H',rt:=Q} (cK N vs) H):bA P w K mg base yY (k+1) f fd ps sp:=by
 obtain⟨oc,od,kV,doc,pm,an,cdv,ct,osl,rfl,lk,hcd⟩:=F.ex;refine xK lk hcd S len λA outer s H vs Q E hr hsp=>?_;obtain⟨t,h,q⟩:=hbody cdv A outer s H vs Q E hr hsp;exact⟨t,h.GA,q⟩
def Al.binds{x qual:Str}{st:Stmt}(F:Al K x qual st f fd)
 (h:∀(kV doc pm:Q0)(an:Option Addr)(cdv ct:Q0)(us:List Q0),us.length=ps.length->bindArgs (fnOf x qual (aF st) (aC st) (af st) .none kV doc pm an cdv ct) ⟨us,[]⟩=pure (ps.zip us)):Binds K fd ps []:=by
 obtain⟨oc,od,kV,doc,pm,an,cdv,ct,osl,rfl,lk,hcd⟩:=F.ex;exact .all (h kV doc pm an cdv ct)
def mT{x qual:Str}{st:Stmt}{f:Addr}{oc:Q0}{od an:Option Addr}{osl:Array (Option Q0)}{kV doc pm cdv ct:Q0}(l:K.lookup f=some ⟨oc,od,.func (fnOf x qual (aF st) (aC st) (af st) .none kV doc pm an cdv ct),osl⟩)
 (c:codeIn K cdv qual=true) (k:keepIn K (.ref f)=true):Al K x qual st f (fnOf x qual (aF st) (aC st) (af st) .none kV doc pm an cdv ct):=⟨⟨oc,od,kV,doc,pm,an,cdv,ct,osl,rfl,l,c⟩,k⟩
end
def ri(hr:dj k A):A.units+1<cLine:=nT (Qz (by decide:1<=64) _) hr.units
section
def pv(i:Nat)(hN:autoParam (X.N[i]?=some x) Rc)(hv:autoParam (MC X.env.scope x) Q5._auto_1)(hd:autoParam (dB x) Q_)
 (hcd:autoParam ((x==("__classdict__" : Str))=false) Q_):PE X (.Name x pos) (aH i):=Ax hN hv hd hcd
end
def AX{A B:Prop}(h:B):if false=true then A else B:=by rw[cF vN];exact h
def yZ{A B:Prop}(h:A):if true=true then A else B:=by rw[b_ rfl];exact h
def Na{c A B:Prop}[Decidable c](h1:c->A)(h2:¬c->B):if c then A else B:=by
 by_cases h:c
 .rw[b_ h];exact h1 h
 .rw[cF h];exact h2 h
def Same(H H':Hp):Prop:=∀b o,H b=some o->H' b=some o
def Same.refl(H:Hp):Same H H:=λ_ _ h=>h
def Same.trans(a:Same H H1)(b:Same H1 H2):Same H H2:=λc o h=>b c o (a c o h)
def Same.free(e:Same H H')(h:H' l=Option.none):H l=Option.none:=by
 cases q:H l with
 |none=>rfl
 |some o=>rw[e l o q]at h;cases h
def j6(P:QZ)(w:World):Ao:=λouter H s E e s'=>
 ∃(x C t:Addr)(B:Heap)(H':Hp),e=.ref x/\s'.os=s.os/\AllBare s'.gens/\Un (js outer) [] H H' s.heap s'.heap/\HOk P w H' s'.heap/\
  Heap.FlyingW B outer x (.ref C) (.ref t) s'.heap/\(∀b u,H' b=some u->∃o,B.get? b=some o)/\(∀b o,s.heap.get? b=some o->Qt H b->b∉js outer->B.get? b=some o)/\
  (∀b o,s.heap.get? b=some o->b∉js outer->∃o',B.get? b=some o')/\H' x=none/\E (.ref C) none H'
def mU{H:Hp}{B h1 h2:Heap}(ok:HOk P w H h1)(ui:∀b u,H b=some u->∃o,B.get? b=some o)(s1:B.StaysIn h1)(s2:B.StaysIn h2):HOk P w H h2:=λa o e=>(ok a o e).stay (λb u hb q=>by have hb':∃v,H b=some v:=hb.elim (λz=>⟨o,by rw[z];exact e⟩) λz=>⟨_,z⟩;obtain⟨v,hv⟩:=hb';obtain⟨o',ho⟩:=ui b v hv;have:=s1 b o' ho;rw[q]at this;cases this;exact s2 b _ ho) (λ_ q=>q) λ_ _ q=>q
def oV:∀{o:HO},ObjOk P w H h a o->∃ob,h.get? a=some ob
 |.lst xs,x=>by obtain⟨_,_,_,_,e⟩:=x;exact⟨_,e⟩
 |.tup xs,x=>by obtain⟨_,_,_,⟨_,e,_⟩⟩:=x;exact⟨_,e⟩
 |.dK kvs,x=>by obtain⟨_,_,_,_,o,_,_,e,_⟩:=x;exact⟨_,e⟩
 |.dT kvs,x=>by obtain⟨_,_,_,_,o,_,_,e,_⟩:=x;exact⟨_,e⟩
 |.set S n,x=>by obtain⟨o,_,_,_,e,_⟩:=x;exact⟨_,e⟩
 |.ins C dx fs,x=>by obtain⟨_,_,_,e,_⟩:=x;exact⟨_,e⟩
 |.own y,x=>x
 |.xd fs,x=>by obtain⟨_,⟨_,_,_,e,_⟩,_⟩:=x;exact⟨_,e⟩
 |.MR lo hi,x=>by obtain⟨_,_,_,e⟩:=x;exact⟨_,e⟩
 |.cV ob u,x=>by obtain⟨e,_⟩:=x;exact⟨_,e⟩
 |.Di ps,x=>⟨_,(show h.get? a=some _ from x)⟩
 |.met f y,x=>⟨_,(show h.get? a=some _ from x)⟩
 |.ext φ,x=>x.2.1
section
variable{P:QZ}{w:World}{K:QY}{mg:Str->Option Q0}{base:Heap}{N:List Str}{qual:Str}{scope:Scope}{f:Addr}{cd:Q0}{A:Q1}{outer:List Env}{s₀:QX}{H₀:Hp}{E:XK}
abbrev mP(P:QZ)(w:World)(K:QY)(mg:Str->Option Q0)(base:Heap)(N:List Str)(qual:Str)(scope:Scope)(f:Addr)(cd:Q0)(A:Q1)(outer:List Env)(s:QX)(H:Hp)(E:XK):Cx:=wd (j6 P w) P w K mg base N qual scope f cd A outer s H E
def uB(I:Inv (mP P w K mg base N qual scope f cd A outer s₀ H₀ E) aa σ H s)(e:s₀.heap.get? b=some o)(hb:b∉js outer) :
 b∉js (mP P w K mg base N qual scope f cd A outer s₀ H₀ E).stack:=λz=>by
 rcases cC.mp (I.qA b z)with q|q
 .exact absurd (fM (cD e) (gC I.ok.above (QF q.symm))) (Pn _)
 .exact hb q
def wl(hb:b∈js outer):b∈js (mP P w K mg base N qual scope f cd A outer s₀ H₀ E).stack:=by show b∈js (envOfC qual scope s₀.heap.objs.size f cd::outer);unfold js;rw[Po];have:(envOfC qual scope s₀.heap.objs.size f cd).frame=some s₀.heap.objs.size:=rfl;rw[this];exact cg _ hb
def bo:fP (j6 P w) (mP P w K mg base N qual scope f cd A outer s₀ H₀ E) E:=by
 intro aa σ H s e s' I h;obtain⟨x,C,t,B,H',rfl,os,bare,un,aZ,fly,ui,unt,inB,hx,hE⟩:=h;show wpAny _ _ (leaving _ _) _ _ s';have nx:∀b:Addr,b∉(mP P w K mg base N qual scope f cd A outer s₀ H₀ E).ex:=λb z=>absurd (show b∈([]:List Addr)from z) (by simp);refine wpAny_leaves_onW I.ok.frames rfl fly λh' fly' up=>?_;have nf:∀b,b∈js outer->∀o,s'.heap.get? b=some o->∀vs,o.data≠.fields vs:=λb hb o e=>by obtain⟨_,o',e',d⟩:=fly.2.2.1.mem (wl (P:=P) (w:=w) (K:=K) (mg:=mg) (base:=base) (N:=N) (H₀:=H₀) (E:=E) (A:=A) hb);rw[e]at e';cases e';exact d
 refine⟨x,C,t,B,H',rfl,os.trans I.os,bare,⟨λb o e n hb _=>?_,λb o e n hb _=>?_,λb o e n _=>?_,λb o e _=>?_,λb xs q=>un.jW b xs (I.base.jW b xs q),λb o u q=>un.mK b o u (I.base.mK b o u q),λb ps q=>?_⟩,mU aZ ui fly.1 fly'.1,fly',ui,λb o e n hb=>?_,λb o e hb=>?_,hx,hE⟩
 .exact fly'.1 b o (unt b o (I.base.keep b o e n hb (nx b)) (n.imp (λn=>I.base.free b o e n (nx b)) λ⟨xs,q⟩=>⟨xs,I.base.jW b xs q⟩) (uB I e hb))
 .obtain⟨sl,e1⟩:=I.base.slot b o e n hb (nx b);obtain⟨sl',e2⟩:=un.slot b _ e1 (I.base.free b o e n (nx b)) (wl hb) (by simp);obtain⟨sl'',e3⟩:=up b _ e2 (nf b hb _ e2);exact⟨sl'',e3⟩
 .obtain⟨o1,e1⟩:=I.base.there b o e (nx b);exact un.free b o1 e1 (I.base.free b o e n (nx b)) (by simp)
 .obtain⟨o1,e1⟩:=I.base.there b o e (nx b);by_cases hb:b∈js outer
  .obtain⟨o2,e2⟩:=un.there b o1 e1 (by simp);obtain⟨sl,e3⟩:=up b _ e2 (nf b hb _ e2);exact⟨_,e3⟩
  .obtain⟨o',q⟩:=inB b o1 e1 (uB I e hb);exact⟨o',fly'.1 b o' q⟩
 .obtain⟨m1,e1⟩:=I.base.n_ b ps q;obtain⟨m2,e2⟩:=un.n_ b _ e1;exact⟨m1++m2,by rw[e2,Array.append_assoc]⟩
 .exact unt b o (I.base.keep b o e n hb (nx b)) (n.imp (λn=>I.base.free b o e n (nx b)) λ⟨xs,q⟩=>⟨xs,I.base.jW b xs q⟩) (uB I e hb)
 .obtain⟨o1,e1⟩:=I.base.there b o e (nx b);exact inB b o1 e1 (uB I e hb)
def D0{s:QX}{h':Heap}{x C:Addr}{args:List Q0}(I:Inv (mP P w K mg base N qual scope f cd A outer s₀ H₀ E) aa σ H s)(hx:Heap.MadeExcOf s.heap h' x (.ref C) args)(hE:E (.ref C) none H) :
 (mP P w K mg base N qual scope f cd A outer s₀ H₀ E).xe (.ref x) {s with heap:=h'}:=by
 show wpAny _ _ (leaving _ _) _ _ _;have nx:∀b:Addr,b∉(mP P w K mg base N qual scope f cd A outer s₀ H₀ E).ex:=λb z=>absurd (show b∈([]:List Addr)from z) (by simp);have hin:∀env∈(mP P w K mg base N qual scope f cd A outer s₀ H₀ E).stack,∀b,env.frame=some b->b∈js (mP P w K mg base N qual scope f cd A outer s₀ H₀ E).stack:=λenv he b hb=>Df.mpr ⟨env,he,hb⟩;have FF:=I.stack;refine wpAny_leaves_madeW (base:=hideAll s.heap (js (mP P w K mg base N qual scope f cd A outer s₀ H₀ E).stack)) I.ok.frames rfl (λb o q=>QD _ q) (PySem.W.funFrames_hide FF hin) hx λh'' t fly _ _ up=>?_;have inB:∀b o,s.heap.get? b=some o->b∉js (mP P w K mg base N qual scope f cd A outer s₀ H₀ E).stack->(hideAll s.heap (js (mP P w K mg base N qual scope f cd A outer s₀ H₀ E).stack)).get? b=some o:=λb o e hb=>PySem.W.hideAll_get _ e hb;have ui:∀b u,H b=some u->∃o,(hideAll s.heap (js (mP P w K mg base N qual scope f cd A outer s₀ H₀ E).stack)).get? b=some o:=λb u e=>by obtain⟨o,ho⟩:=oV (I.aZ b u e);exact⟨o,inB b o ho λz=>by rw[I.t4 b z]at e;cases e⟩
 have st:(hideAll s.heap (js (mP P w K mg base N qual scope f cd A outer s₀ H₀ E).stack)).StaysIn s.heap:=λb o q=>QD _ q;have nf:∀b,b∈js outer->∀o,s.heap.get? b=some o->∀vs,o.data≠.fields vs:=λb hb o e=>by obtain⟨_,o',e',d⟩:=FF.mem (wl (P:=P) (w:=w) (K:=K) (mg:=mg) (base:=base) (N:=N) (H₀:=H₀) (E:=E) (A:=A) hb);rw[e]at e';cases e';exact d
 have hxn:H x=none:=by
  cases q:H x with
  |none=>rfl
  |some u=>obtain⟨o,ho⟩:=oV (I.aZ x u q);rw[hx.new]at ho;cases ho
 refine⟨x,C,t,_,H,rfl,I.os,I.bare,⟨λb o e n hb _=>?_,λb o e n hb _=>?_,λb o e n _=>I.base.free b o e n (nx b),λb o e _=>?_,I.base.jW,I.base.mK,I.base.n_⟩,mU I.aZ ui st fly.1,fly,ui,λb o e n hb=>?_,λb o e hb=>?_,hxn,hE⟩
 .exact fly.1 b o (inB b o (I.base.keep b o e n hb (nx b)) (uB I e hb))
 .obtain⟨sl,e1⟩:=I.base.slot b o e n hb (nx b);obtain⟨sl',e2⟩:=up b _ (hx.keeps b _ e1) (nf b hb _ e1);exact⟨sl',e2⟩
 .obtain⟨o1,e1⟩:=I.base.there b o e (nx b);by_cases hb:b∈js outer
  .obtain⟨sl,e2⟩:=up b _ (hx.keeps b _ e1) (nf b hb _ e1);exact⟨_,e2⟩
  .exact⟨o1,fly.1 b o1 (inB b o1 e1 (uB I e hb))⟩
 .exact inB b o (I.base.keep b o e n hb (nx b)) (uB I e hb)
 .obtain⟨o1,e1⟩:=I.base.there b o e (nx b);exact⟨o1,inB b o1 e1 (uB I e hb)⟩
def AY:PassesOwn (model P w) (mP P w K mg base N qual scope f cd A outer s₀ H₀ E).A (mP P w K mg base N qual scope f cd A outer s₀ H₀ E).env (mP P w K mg base N qual scope f cd A outer s₀ H₀ E).xe:=by
 show PassesOwn _ _ _ (λe s'=>wpAny _ _ (leaving _ e) _ _ s')
 passes_own
end
abbrev oW:List Q0:=[.type "ValueError",.type "Exception",.type "BaseException",.type "object"]
def AZ(h:Heap)(C:Addr)(bm:List Q0):Prop:=∃N nm q bs hdct sn sub ab col dd k0 k1 k2 k3 k5 mN,h.get? C=some (excClassObj nm q C N bs bm hdct sn sub ab col dd k0 k1 k2 k3 k5 "ValueError.__new__")/\h.Ns N mN/\mN "__init__"=none/\OwnTail h oW bm
noncomputable def sD(K:QY)(C:Addr):List Q0:=match K.lookup C with
 |some ⟨_,_,.cls cd,_⟩=>cd.mro
 |_=>[]
def oX{K:QY}(X:K.In h)(q:excIn K C oW "ValueError.__new__"=true):∃bm,sD K C=.ref C::bm/\AZ h C bm:=by
 have q0:=q;unfold excIn at q;unfold sD;cases ho:K.lookup C with
 |none=>rw[ho]at q;cases q
 |some ob=>
  rw[ho]at q;split at q
  .rename_i dd cd sl he;injection he with he;subst he;dsimp only;split at q
   .rename_i D bm k0 k1 k2 k3 n k5 hm hs;rw[hm];simp only[jh,Pw,Bool.not_eq_true']at q;obtain⟨⟨⟨⟨⟨hD,hn⟩,hdel⟩,ht⟩,aZ⟩,hni⟩:=q;refine⟨bm,by rw[hD],?_⟩;obtain⟨nm,bs,mro,ns,qn,hd,sn,sub,ab,col,del⟩:=cd;dsimp only at hm hdel aZ hni;have es:sl=#[k0,k1,k2,k3,some (.builtin n),k5]:=by
     cases sl with
     |mk l=>simp only at hs;rw[hs]
    rw[hn]at es;subst es;have hC:=X _ _ ho;rw[hdel,hm,hD]at hC;exact⟨ns,nm,qn,bs,hd,sn,sub,ab,col,dd,k0,k1,k2,k3,k5,_,hC,.of_isNs (PySem.W.isNs_of_in X aZ),PySem.W.nsMap_none_of_in X aZ hni,PySem.W.tail_of_in X ht⟩
   .cases q
  .cases q
structure XC(K:QY) (mg:Str->Option Q0) (c:Str) (C:Addr):Prop where
 gl:mg c=some (.ref C)
 ex:excIn K C oW "ValueError.__new__"=true
section
variable{X:Cx}{c:Str}{C:Addr}{np cpos pos:Pos}{e₀:Expr}{rest:List Expr}{t:TA}
noncomputable def G9(t:TA)(EW:Hp->Prop):TS:=λ_ σ H=>t σ H λvs H'=>vs.length<=sizeLine/\EW H'
def A0{EW:Hp->Prop}(hc:XC X.K X.mg c C)(hg:Gl X c)(hcalm:X.calm=true)(ha:PA X (e₀::rest) t)
 (hl:∀(aa:List (Addr×Obj))(σ:St)(H:Hp)(s:QX)(h':Heap)(x:Addr)(args:List Q0),Inv X aa σ H s->Heap.MadeExcOf s.heap h' x (.ref C) args->EW H->X.xe (.ref x) {s with heap:=h'})
 (he:autoParam (starEach (e₀::rest) X.env=(false,eval e₀ X.env)::starEach rest X.env) Rc) (hpl:autoParam (bT X cpos rest) Rc) (hd:autoParam (dB c) Q_) :
 PS X (.Raise (some (.Call (.Name c np) (e₀::rest) [] cpos)) none pos) (G9 t EW):=by
 intro aa s σ H D I h;obtain⟨bm,_,N,nm,q,bs,hdct,sn,sub,ab,col,dd,k0,k1,k2,k3,k5,mN,hC,hN,hni,TL⟩:=oX I.ok.mod.JC hc.ex;have fb:=PySem.F.excBase_ValueError;refine wpAny_Raise_call_subU (C:=C) (nm:=nm) (q:=q) (N:=N) (bs:=bs) (bm:=bm) (hdct:=hdct) (sn:=sn) (sub:=sub) (ab:=ab) (col:=col) (dd:=dd) (k0:=k0) (k1:=k1) (k2:=k2) (k3:=k3) (k5:=k5) (bmB:=oW)
  fb (by decide +kernel) fb (mN:=mN) (TL.hasType fb.hasBase) (I.ok.hd hcalm) ?_ hni (ir I hg hc.gl ⟨rfl,?_⟩ hd)
 .rw[he];show(false ||(backTo cpos (starEach rest X.env)).any (·.1))=false;rw[hpl];rfl
 .have ha':=ha cpos aa s σ H _ I h;rw[he]at ha' ⊢;refine O9 (mC ha' (λus s2 ⟨vs,H2,I2,r,q2⟩=>?_) λ_ _ y=>y);exact⟨rfl,by rw[<- r.length];exact q2.1,I2.bk _ _ hC,hN.keeps I2.bk,TL.keeps I2.bk,λh' e hm=>hl aa σ H2 s2 h' e us I2 hm q2.2⟩
end
section
variable{M:Model}{A:Q1}{E:Q0->QX->Prop}
def qH(hC:AZ s.heap C bm)(hC':AZ s.heap C' bm')(he:s.heap.get? e=some oe)(hcls:oe.cls=.ref C)
 (hq:Q ((Value.ref C::bm).contains (.ref C')) s):wpAny M A (excMatches (.ref e) (.ref C')) Q E s:=by
 obtain⟨N,nm,q,bs,hd,sn,sub,ab,col,dd,k0,k1,k2,k3,k5,mN,hC,_,_,_⟩:=hC;obtain⟨N',nm',q',bs',hd',sn',sub',ab',col',dd',k0',k1',k2',k3',k5',mN',hC',_,_,TL'⟩:=hC';obtain⟨h,g,d,t,os⟩:=s;have hcB:(Value.ref C'::bm').contains (.type "BaseException")=true:=by rw[List.contains_cons,TL'.hasType PySem.F.excBase_ValueError.hasBase,Bool.or_true]
 have f:=tc_notTuple;unfold excMatches
 repeat (first|(with_reducible refine wpAny_loadPart_at he ?_;rw[hcls])|with_reducible refine wpAny_loadPart_at hC' ?_|(with_reducible refine wpAny_isSubtype_exc hC' ?_;rw[hcB])|with_reducible refine wpAny_isSubtype_exc hC ?_|wp_step)
 cases hb:(Value.ref C::bm).contains (.ref C')<;>(rw[hb]at hq;wp_walk;exact hq)
end
abbrev TX:=St->Hp->VK->XK->Prop
def Of(X:Cx)(e:Expr)(t:TX):Prop:=∀(aa:List (Addr×Obj))(s:QX)(σ:St)(H:Hp)(Q:VK)(EX:XK),Inv X aa σ H s->t σ H Q EX->
 wpAny (model X.prog X.w) X.A (eval e X.env) (EP X aa σ Q) (λev s'=>∃H1 s1,Inv X aa σ H1 s1/\j6 X.prog X.w X.stack H1 s1 EX ev s') s
section
variable{X:Cx}{k:Nat}{f:Addr}{fd:FuncData}{ps:List Str}{sp:Sp}{dvs:List V}{ds:List Q0}{x:Str}{p pos:Pos}{e:Expr}{es:List Expr}{t:TA}
def A1(F:bA X.prog X.w X.K X.mg X.base (j6 X.prog X.w) k f fd ps sp)(hr:dj k X.A)(hg:Gl X x)(hm:X.mg x=some (.ref f))(hk:keepIn X.K (.ref f)=true)(hb:Binds X.K fd ps ds)(hd:Vals dvs ds)(ha:PA X.GA (e::es) t)
 (hdb:autoParam (dB x) Q_) (he:autoParam (sE X e es) Rc) (hpl:autoParam (bT X pos es) Rc) :
 Of X (.Call (.Name x p) (e::es) [] pos) (λσ H Q EX=>t σ H λvs H1=>sp (vs++dvs) H1 Q EX):=by
 intro aa s σ H Q EX I h;refine O7 (ir I hg hm ?_ hdb);refine P7 (h₀:=X.base) I.ok.mod.JC hk (mC (ha pos aa s σ H _ (I.oa _) h) (λus s1 ⟨vs,H1,I1,r,q⟩=>⟨I1.kT,?_⟩) λ_ _ z=>False.elim z) he hpl;have J:Inv X aa σ H1 s1:=I1.g_;have r2:Vals (vs++dvs) (us++ds):=r.append hd;have hl:(us++ds).length=ps.length:=by rw[<- r2.length];exact F.len _ _ _ _ q
 refine QK (P3 (F.run X.A X.stack s1 H1 ⟨us,[]⟩ (us++ds) (vs++dvs) Q EX hr J.JD (hb s1 us J.kT hl) r2 q) λr s' hq=>?_);cases r with
 |error ev=>exact⟨H1,s1,J,hq⟩
 |ok fl=>
  cases fl with
  |ret u=>exact J.after hq
  |next=>exact False.elim hq
  |brk=>exact False.elim hq
  |cont=>exact False.elim hq
end
noncomputable abbrev Cx.caught(X:Cx)(x:Addr):Cx:={X with A:=X.A.mark (some (.ref x)),calm:=false,xe:=λ_ _=>False}
section
variable{X:Cx}{aa:List (Addr×Obj)}{σ:St}{H:Hp}{s:QX}{x:Addr}
theorem Inv.caught(I:Inv X aa σ H s)(x:Addr):Inv (X.caught x) aa σ H s:=⟨⟨I.ok.mod,I.ok.kind,I.ok.glob,I.ok.blt,I.ok.above,I.ok.inj,I.ok.has,I.ok.Gq,(λz=>by cases z),I.ok.frames,I.ok.JG,I.ok.My,I.ok.bs,I.ok.Av,I.ok.vJ,I.ok.xD,I.ok.lC,I.ok.DA,I.ok.kt⟩,I.os,I.bare,I.base,I.loc,I.cell,I.free,I.gB,I.pin,I.aZ,I.len⟩
def Inv.landed{H1:Hp}{s1 s':QX}{B:Heap}{h6:Heap}{C t:Addr}{g6:Array GenState}{l:List Env}(I:Inv X aa σ H1 s1)(os:s'.os=s1.os)(bare:AllBare s'.gens)(un:Un (js X.stack) [] H1 H s1.heap s'.heap)(aZ:HOk X.prog X.w H s'.heap)(fly:Heap.FlyingW B X.stack x (.ref C) (.ref t) s'.heap)
 (ui:∀b u,H b=some u->∃o,B.get? b=some o) (unt:∀b o,s1.heap.get? b=some o->Qt H1 b->b∉js X.stack->B.get? b=some o) (inB:∀b o,s1.heap.get? b=some o->b∉js X.stack->∃o',B.get? b=some o')
 (st:B.StaysIn h6) (up:s'.heap.UpToSlots h6):Inv X aa σ H {s' with heap:=h6}:=by
 have nf:∀b,b∈js X.stack->∀o,s'.heap.get? b=some o->∀vs,o.data≠.fields vs:=λb hb o e=>by obtain⟨_,o',e',d⟩:=fly.2.2.1.mem hb;rw[e]at e';cases e';exact d
 refine I.Gm (ch:=[]) os ⟨λb o e n hb _=>st b o (unt b o e n hb),λb o e n hb _=>?_,λb o e n hx=>un.free b o e n hx,λb o e hx=>?_,un.jW,un.mK,un.n_⟩ (mU aZ ui fly.1 st) bare λb z=>absurd z (by simp)
 .obtain⟨sl,e1⟩:=un.slot b o e n hb (by simp);obtain⟨sl',e2⟩:=up b _ e1 (nf b hb _ e1);exact⟨sl',e2⟩
 .by_cases hb:b∈js X.stack
  .obtain⟨o1,e1⟩:=un.there b o e (by simp);obtain⟨sl',e2⟩:=up b _ e1 (nf b hb _ e1);exact⟨_,e2⟩
  .obtain⟨o',q⟩:=inB b o e hb;exact⟨o',st b o' q⟩
end
end L2
namespace L2
open PySem PySem.Spec PySem.Calls PyProof.Rows
section
variable{prog:QZ}{w:World}
abbrev tK(prog:QZ)(w:World):=tupleKind (aJ prog w)
def oh(x:(tK prog w).is h k a)(e:∀b o,h.get? b=some o->h'.get? b=some o):(tK prog w).is h' k a:=by obtain⟨o,items,n,h1,r⟩:=x;exact⟨o,items,n,e _ _ h1,r⟩
end
end L2
namespace L2
open PySem PySem.Spec PySem.Calls PyProof.Rows PySem.W Builtin Builtin.ObjectAttr Builtin.Getset_descriptor
def wn{K:Frag}{M:Model}{h:Heap}{x C:Addr}{name:Str}{a g:Q0}(X:K.In h)(ha:findIn K (.ref C) name=some (some a)) (hg:specialIn K a "__get__"=some (some g)) (hd:takesIn K a=some true):Looks M h (find (.ref x) (.ref C) name) (.bind g a):=(looks_findIn X ha).andThen ((show Looks M h (getOf (some a)) (some g)from looks_specialIn X hg).andThen ((show Looks M h (dataDescriptor? (some a) (some g)) (some (g,a))from(looks_takesIn X hd).andThen .now).andThen (Looks.tag .now)))
def A2{prog:QZ}{w:World}{A:Q1}{s:QX}{K:Frag}{x C:Addr}{R:Result->QX->Prop}{tp:Q0}(X:K.In s.heap) (L:∀M,Looks M s.heap (typeOf (.ref x)) (.ref C)) (hm:mroIn K C (.type "object")=some true)
 (h:R (.ok (.ret (.ref C))) s):codeAny (model prog w) A (.call (.builtin "getset_descriptor.__get__") ⟨[.builtin "object.__class__",.ref x,tp],[]⟩) R s:=by
 obtain⟨hh,g,dr,t,os⟩:=s;have L0:=L (model prog w);have L1:=looks_mroIn (M:=model prog w) X hm;refine Qp KF.slot_gs.plain KF.entry_gs (KF.slot_gs.check _ _ _ _ _ _ _ _ KF.type_class (KF.args_gs _ _ _) ?_);unfold Builtin.«getset_descriptor.__get__» descrGet;rw[dga_obj];refine bj (bY ?_);unfold descrGetter descrCheckInstance descrNameAndClass isInstance;simp only[KF.owner_class]
 repeat lk
 refine⟨Code.quiet_builtin _ (by decide +kernel),Pa KF.entry_class ?_⟩;unfold Builtin.«object.__class__» shownTypeOf
 repeat lk
 exact h
section
variable{prog:QZ}{w:World}{A:Q1}{E:Q0->QX->Prop}{s:QX}{K:Frag}{x C:Addr}
def y6{Q:Option Q0->QX->Prop}(X:K.In s.heap)(L0:∀M,Looks M s.heap (typeOf (.ref x)) (.ref C))
 (hga:findIn K (.ref C) "__getattribute__"=some (some (.builtin "BaseException.__getattribute__"))) (hgt:findIn K (.ref C) "__getattr__"=some none)
 (hf:findIn K (.ref C) "__class__"=some (some (.builtin "object.__class__"))) (hf2:specialIn K (.builtin "object.__class__") "__get__"=some (some (.builtin "getset_descriptor.__get__"))) (hf3:takesIn K (.builtin "object.__class__")=some true)
 (hm:mroIn K C (.type "object")=some true) (hmB:mroIn K C (.type "BaseException")=some true)
 (h:Q (some (.ref C)) {s with toks:=s.toks+1}):wpAny (model prog w) A (getAttr? (.ref x) "__class__") Q E s:=by
 obtain⟨hh,g,d,t,os⟩:=s;have L00:=L0;have L0:=L0 (model prog w);have L1:=looks_findIn (M:=model prog w) X hga;have L2:=looks_findIn (M:=model prog w) X hgt;have L3:=wn (M:=model prog w) (x:=x) X hf hf2 hf3;unfold getAttr? getAttrBy? getAttrBy;refine bj (wpAny_mkText (bj (wpAny_attempt (qu (bj (L0.at (bj (L1.at ?_))))))));show wpAny _ _ (if(onTheHeap (Value.ref C)&&Value.builtin "BaseException.__getattribute__"==Value.builtin "object.__getattribute__")=true then _ else _) _ _ _;have hx2:(onTheHeap (Value.ref C)&&Value.builtin "BaseException.__getattribute__"==Value.builtin "object.__getattribute__")=false:=by
  have:(Value.builtin "BaseException.__getattribute__"==Value.builtin "object.__getattribute__")=false:=by decide +kernel
  rw[this];rfl
 rw[hx2,cF (by decide)];unfold getAttrByItsOwn hookBefore;rw[b_ (show onTheHeap (Value.ref C)=true from rfl)];refine bj (L2.at ?_);refine bj (wpAny_attempt (qu ?_));show wpAny _ _ (boundAndCalled (Value.builtin "BaseException.__getattribute__") (.ref x) (.str "__class__" t)) _ _ _;unfold boundAndCalled;rw[PySem.F.excAttr_ValueError.ga.bind (.ref x)];refine bj (bY ?_);refine QK ?_;have LB:Looks (model prog w) hh (isInstance (.ref x) (.type "BaseException")) true:=L0.andThen (looks_mroIn (M:=model prog w) X hmB);refine Qp PySem.F.excAttr_ValueError.ga.plain PySem.F.entry_bexc_ga ?_;have hk:builtinKind "BaseException.__getattribute__"=some .slot:=by decide +kernel
 have hsplit:splitId "BaseException.__getattribute__"=some ("BaseException","__getattribute__"):=by decide +kernel
 have ha:=PySem.F.args_bexc_ga (.ref x) (.str "__class__" t);show wpAny _ _ (checkBuiltinCall "BaseException.__getattribute__" ⟨[.ref x,.str "__class__" t],[]⟩) _ _ _;simp only[checkBuiltinCall,hk,hsplit];refine bj (LB.at ?_);rw[cF (by decide)];unfold argsOk at ha;refine wpAny_of_eq (a:=()) ha ?_;show wpAny _ _ (Builtin.«object.__getattribute__» ⟨[.ref x,.str "__class__" t],[]⟩) _ _ _;unfold Builtin.«object.__getattribute__»;refine bj (bY (bj (bY (bj (L0.at (bj (L3.at ?_)))))));show wpAny _ _ (holding [Value.builtin "object.__class__"] (call (.builtin "getset_descriptor.__get__") [.builtin "object.__class__",.ref x,.ref C]) >>= ret) _ _ _;refine bj (qu (QK (A2 (s:=⟨hh,g,d,t+1,os⟩) X L00 hm ?_)));refine bY ?_;show wpAny _ _ (handedOut (.ref C)) _ _ _;refine bY ?_;exact bY h
def A3(hga:findIn K (.ref C) "__getattribute__"=some (some (.builtin "BaseException.__getattribute__"))) (hgt:findIn K (.ref C) "__getattr__"=some none)
 (hf:findIn K (.ref C) "__class__"=some (some (.builtin "object.__class__"))) (hf2:specialIn K (.builtin "object.__class__") "__get__"=some (some (.builtin "getset_descriptor.__get__"))) (hf3:takesIn K (.builtin "object.__class__")=some true)
 (hm:mroIn K C (.type "object")=some true) (hmB:mroIn K C (.type "BaseException")=some true) (hcl:(clsIn K C).isSome=true) :
 KitX K (.ref x) (.ref C) (λh=>∃o,h.get? x=some o/\o.cls=.ref C) where
 ty:=λ_ _ _ ⟨o,h1,h2⟩=>h2▸(Looks.ld h1).andThen .now
 it:=λ_ _ X _=>by
  unfold clsIn at hcl;split at hcl
  .rename_i c' d' cd' sl' ho;intro A' Q' E' s' k q;unfold isType loadHead;exact bj (wpAny_loadPart (k _ _ (X _ _ ho)) (bY q))
  .cases hcl
 ne:=λh tp dd its n sl X htp=>by
  refine Bool.eq_false_iff.mpr λq=>?_;have e:C=tp:=Value.ref.inj (Pw.mp q);subst e;unfold clsIn at hcl;split at hcl
  .rename_i c' d' cd' sl' ho;have z:=(X _ _ ho).symm.trans htp;cases z
  .cases hcl
 ca:=λX I k=>y6 X (let ⟨o,h1,h2⟩:=I;λ_=>h2▸(Looks.ld h1).andThen .now) hga hgt hf hf2 hf3 hm hmB k
end
end L2
namespace L2
open PySem PySem.Spec PySem.Calls PyProof.Rows
section
def Inv.N1(I:Inv X aa σ H s)(e:H a=some (.dK [])):Inv X aa σ (aY H a (.dT [])) s:=by
 obtain⟨z,y,vs,r,o,es,ep,h1,h2,h3,h4,h5⟩:=(show ObjOk X.prog X.w H s.heap a (.dK [])from I.aZ a _ e);cases r;exact I.write (x:=a) (e:=a) (t':=s.toks) (h':=s.heap) (by rw[e];exact True.intro) (.inl rfl) (λb u _ q=>q) ⟨o,h1⟩ ⟨z,y,[],.nil,o,es,ep,h1,h2,h3,(by
  generalize es.toList=l at h5;obtain⟨h5,_⟩:=h5;cases l with
  |nil=>rfl
  |cons x r=>cases h5),j3⟩
end
section
def A4(x:ObjOk P w H h a (.dT [])):(a==sysModules)=false/\h.DictOf (aJ P w) a []:=by
 obtain⟨z,y,xs,r,o,es,ep,h1,h2,h3,h4,h5⟩:=x;cases r;have e:es=#[]:=by grind
 subst e;exact⟨y,o,#[],ep,h1,h2,h3,λx hx=>by simp at hx,by constructor,j3⟩
end
section
def G_(I:Inv X aa σ H s)(e:Rd H a (.dK kvs)\/(Rd H a (.dT [])/\kvs=[])) :
 kvs.length<=sizeLine/\(a==sysModules)=false/\∃vs,KV kvs vs/\s.heap.DictOf (aJ X.prog X.w) a vs:=by
 rcases e with e|⟨e,rfl⟩
 .exact oR I.aZ e
 .obtain⟨y,dd⟩:=A4 (e.ok I.aZ);exact⟨jT _,y,[],.nil,dd⟩
end
section
def Hb{k:cJ}{key dflt:Q0}{Q:Q0->QX->Prop}(lB:(aJ prog w).is k key=true)(hm:s.heap.DictOf (aJ prog w) d vs)(hn0:valueAt vs k=none)
 (h:∀h',h'.DictOf (aJ prog w) d (stored vs k dflt)->Heap.SameBut d s.heap h'->Q dflt {s with heap:=h',toks:=s.toks+1}) (hsz:vs.length<=sizeLine):wpAny (model prog w) A (dictSetDefault d key dflt) Q E s:=by
 obtain⟨o,es,ep,ho,hc,hd,hk,hp,hn⟩:=hm;have hes:es.size<=sizeLine:=by
  have e1:=hp.length;have e2:es.toList.length=es.size:=by simp
  lia
 have hnone:vs.findIdx? (λkv=>decide (kv.1=k))=none:=by
  rw[List.findIdx?_eq_none_iff];intro x hx;refine kW λe=>?_;have:(valueAt vs k).isSome=true:=by unfold valueAt;rw[Option.isSome_map,List.find?_isSome];exact⟨x,hx,io e⟩
  rw[hn0]at this;cases this
 have hidx:(es.findIdx? λe=>(aJ prog w).is k e.key)=none:=by
  have:(es.findIdx? λe=>(aJ prog w).is k e.key)=vs.findIdx? λkv=>decide (kv.1=k):=by rw[<- hp.findIdx k];obtain⟨l⟩:=es;simp
  rw[this];exact hnone
 have hnot:k∉vs.map (·.1):=not_mem_of_findIdx_none hnone;have hany:¬(vs.any λkv=>decide (kv.1=k))=true:=by rw[List.any_eq_true];rintro⟨kv,hkv,he⟩;exact hnot (d7.mpr ⟨kv,hkv,t7 he⟩)
 unfold dictSetDefault
 try with_reducible refine qu ?_
 refine bj ((aJ prog w).pyHash lB ?_);refine bj (wpAny_dictFind_of (s:={s with toks:=s.toks+1}) lB ho hd hk ?_);rw[hidx];refine bj (wpAny_rule (bj (wpAny_updateDictKeys (hz:=hes) (s:={s with toks:=s.toks+1}) ho hd (bY (h _ ⟨_,_,ep+1,vW _ ho (Obj.isFreed_of_dict (PP hd _)),hc.mapDictKeys _,PP hd _,hk.push lB _,?_,?_⟩ (qV ..))))))
 .rw[stored,cF hany];have:=hp.append lB ((aJ prog w).hash k) dflt;obtain⟨l⟩:=es;simpa using this
 .rw[stored,cF hany,Do,Pb];refine⟨hn,by simp,?_⟩;intro a ha b hb;simp only[dz,Pk,ip]at hb;subst hb;exact λe=>hnot (e▸ha)
end
section
def FJ:V->List V->Hp->VK->Prop:=λx xs H Q=>∃a k y kvs,x=.ref a/\xs=[kV k,y]/\(H a=some (.dK kvs)\/(H a=some (.dT [])/\kvs=[]))/\kvs.length<sizeLine/\
 ((∃v,d_ kvs k=some v/\Q v H)\/(d_ kvs k=none/\Q y (aY H a (.dK (dn kvs k y)))))
def D7:G2 X "dict.setdefault" FJ:=by
 intro aa s σ H x xs v us Q I rx rs q;obtain⟨a,k,y,kvs,rfl,rfl,ha,hz,q⟩:=q;obtain rfl:v=Value.ref a:=rx;obtain⟨u1,u2,rfl,ru1,ru2⟩:=ur rs;obtain⟨z1,y1,vs,r1,d1⟩:=G_ I (ha.imp .inl λ⟨e,w⟩=>⟨.inl e,w⟩);have lB:=oQ (P:=X.prog) (w:=X.w) ru1;refine vU qz d1.typeIs Qn ?_ (Qj _ _ _);unfold Builtin.«dict.setdefault»;refine bj ?_;unfold Builtin.Dict.keyAndDefault;refine bj (wpAny_notOrdered_dict d1.typeIs (show wpAny _ _ (pure (a,u1,some u2)) _ _ s from bY ?_));show wpAny _ _ (if(a==sysModules)=true then _ else(dictSetDefault a u1 u2 >>= _)) _ _ s;rw[cF (by grind)];have cr:vs.length<=sizeLine:=by rw[<- r1.length];lia
 have dle:s.heap.DictLe a sizeLine:=λo es ep ho hd=>by
  obtain⟨o',es',ep',ho',_,hd',_,hp,_⟩:=id d1;rw[ho]at ho';cases ho';rw[hd]at hd';cases hd';have e1:=hp.length;have e2:es.toList.length=es.size:=by simp
  lia
 have rv:=r1.val k;rcases q with⟨v,hv,q⟩|⟨hv,q⟩
 .obtain⟨w',hw,rw'⟩:=RelO.some_of (v:=v) (o:=valueAt vs k) (by grind);refine bj (wpAny_dictSetDefault_of (hz:=dle) lB d1.mapOf (λv' e=>?_) λe=>?_)
  .rw[hw]at e;cases e;exact bY ⟨_,rfl,v,H,I.tok _,rw',q⟩
  .rw[hw]at e;cases e
 .have hn0:valueAt vs k=none:=by
   have:=rv.kh;rw[hv]at this;cases z:valueAt vs k with
   |none=>rfl
   |some _=>rw[z]at this;cases this
  refine bj (Hb lB d1 hn0 (λh' dd' hs=>bY ⟨_,rfl,?_⟩) cr);have he:∃q,h'.get? a=some q:=let ⟨q,_,_,hq,_⟩:=dd';⟨q,hq⟩;have mu:JL (H a):=by rcases ha with e|⟨e,_⟩<;>(rw[e];exact True.intro)
  have hl:(dn kvs k y).length<=sizeLine:=by have:=gG kvs k y;lia
  exact⟨y,_,lQ (t':=s.toks+1) I mu hs he (wg hl y1 (r1.put k ru2) dd'),ru2,q⟩
end
end L2
namespace ST
open PySem PySem.SetTable
noncomputable def st(m:Nat)(h:Int):Probe:={j:=bits h%(m+1),more:=runEnd m (bits h%(m+1))-bits h%(m+1),i:=bits h%(m+1),perturb:=bits h,dummy:=none}
noncomputable def rs(m:Nat)(p:Nat×Nat):Probe:={j:=p.1,more:=runEnd m p.1-p.1,i:=p.1,perturb:=p.2,dummy:=none}
noncomputable def wo(m:Nat)(p:Probe):Probe:=if p.more>0 then {p with j:=p.j+1,more:=p.more-1}else {p with j:=(leap m p.i p.perturb).1,more:=runEnd m (leap m p.i p.perturb).1-(leap m p.i p.perturb).1,i:=(leap m p.i p.perturb).1,perturb:=(leap m p.i p.perturb).2}
def wq(t:SetTable)(p:Probe):t.advance p=wo t.mask p:=rfl
def it(m:Nat):Nat->Probe->Probe
 |0,p=>p
 |n+1,p=>it m n (wo m p)
def gm(m:Nat):∀(a b:Nat)(p:Probe),it m (a+b) p=it m b (it m a p):=by intro a b;induction a<;>grind [it,wo]
def D8(m n:Nat)(p:Probe):it m (n+1) p=wo m (it m n p):=gm m n 1 p
structure Va(m:Nat) (p:Probe):Prop where
 i:p.i<=m
 more:p.more<=9
 j:p.j+p.more<=m
 q:p.perturb<2^64
 d:p.dummy=none
def sF(h:Int):bits h<2^64:=by
 unfold bits
 grind
def k_(m i:Nat)(h:i<=m):runEnd m i-i<=9/\i+(runEnd m i-i)<=m:=by unfold runEnd;split<;>lia
theorem Va.rs(h1:p.1<=m)(h2:p.2<2^64):Va m (rs m p):=⟨h1,(k_ m _ h1).1,(k_ m _ h1).2,h2,rfl⟩
theorem Va.st(m:Nat)(h:Int):Va m (st m h):=by have:bits h%(m+1)<=m:=QM (QU _ (Nat.succ_pos m));exact⟨this,(k_ m _ this).1,(k_ m _ this).2,sF h,rfl⟩
def sG(m i q:Nat):(leap m i q).1<=m:=by exact QM (QU _ (Nat.succ_pos m))
def wt(m i q:Nat):(leap m i q).2=q/32:=rfl
theorem Va.wo(v:Va m p):Va m (wo m p):=by
 unfold ST.wo;split
 .exact⟨v.i,by dsimp only;have:=v.more;lia,by dsimp only;have:=v.j;lia,v.q,v.d⟩
 .have l:=sG m p.i p.perturb;exact⟨l,(k_ m _ l).1,(k_ m _ l).2,by dsimp only;rw[wt];have:=v.q;have:=Nat.div_le_self p.perturb 32;lia,v.d⟩
theorem Va.it:∀{n:Nat}{p:Probe},Va m p->Va m (it m n p)
 |0,_,v=>v
 |n+1,_,v=>Va.it (n:=n) v.wo
def Va.OV(v:Va m p):p.j<=m:=by have:=v.j;lia
def oi:∀(k:Nat)(p:Probe),p.more=k->Va m p->it m (k+1) p=rs m (leap m p.i p.perturb):=by intro k;induction k<;>grind [Va,it,rs,wo]
noncomputable def lp(m:Nat):Nat->Nat×Nat->Nat×Nat
 |0,p=>p
 |n+1,p=>lp m n (leap m p.1 p.2)
def Hc(m:Nat):∀(a b:Nat)(p:Nat×Nat),lp m (a+b) p=lp m b (lp m a p):=by intro a b;induction a<;>grind [lp]
theorem Kc(m:Nat):∀(n:Nat)(p:Nat×Nat),(lp m n p).2=p.2/32^n
 |0,p=>by simp[lp]
 |n+1,p=>by show(lp m n (leap m p.1 p.2)).2=_;rw[Kc m n,wt,Nat.div_div_eq_div_mul,Nat.pow_succ,Nat.mul_comm]
theorem FK(m:Nat):∀(n:Nat)(p:Nat×Nat),p.1<=m->(lp m n p).1<=m
 |0,p,h=>h
 |n+1,p,_=>FK m n _ (sG m _ _)
theorem uC:∀(L:Nat)(p:Probe),Va m p->∃n,n<=10*(L+1)/\it m n p=rs m (lp m (L+1) (p.i,p.perturb))
 |0,p,v=>⟨p.more+1,by have:=v.more;lia,oi _ p rfl v⟩
 |L+1,p,v=>by
  have h1:=oi _ p rfl v;have v1:Va m (rs m (leap m p.i p.perturb)):=by rw[<- h1];exact v.it
  obtain⟨n,hn,e⟩:=uC L _ v1;refine⟨p.more+1+n,by have:=v.more;lia,?_⟩;rw[gm,h1,e];rfl
noncomputable def f5(m i:Nat):Nat:=(i*5+1)%(m+1)
def fN(m:Nat):Nat->Nat->Nat
 |0,i=>i
 |n+1,i=>fN m n (f5 m i)
def A5(m:Nat):Nat->Nat->List Nat
 |0,_=>[]
 |n+1,i=>i::A5 m n (f5 m i)
theorem uD(m:Nat):∀(n i k:Nat),k<n->(A5 m n i)[k]?=some (fN m k i)
 |n+1,i,0,_=>rfl
 |n+1,i,k+1,h=>uD m n _ k (by lia)
theorem uE(m:Nat):∀(n i:Nat),(A5 m n i).length=n
 |0,_=>rfl
 |n+1,i=>by show(A5 m n _).length+1=_;rw[uE]
theorem sH(m:Nat):∀(a b i:Nat),fN m (a+b) i=fN m b (fN m a i)
 |0,b,i=>by rw[Nat.zero_add];rfl
 |a+1,b,i=>by rw[Nat.succ_add];exact sH m a b _
def Nb(m:Nat):Bool:=((List.range (m+1)).all λj=>(A5 m (m+1) 0).contains j)&&(fN m (m+1) 0==0)
def wu(m:Nat):Prop:=m=7\/m=31\/m=127\/m=511
def xO(h:wu m):Nb m=true:=by rcases h with rfl|rfl|rfl|rfl<;>decide +kernel
def A6(h:wu m)(hj:j<=m):∃n,n<=m/\fN m n 0=j:=by have:=xO h;unfold Nb at this;simp only[jh,sk]at this;have h1:=this.1 j (jl.mpr (by lia));rw[List.contains_iff_mem,cS]at h1;obtain⟨n,hn⟩:=h1;have hl:=(ci.mp hn).1;rw[uE]at hl;rw[uD m _ _ _ hl]at hn;exact⟨n,by lia,kY hn⟩
def Hd(h:wu m)(hi:i<=m)(hj:j<=m):∃n,n<=m/\fN m n i=j:=by
 obtain⟨a,ha,ea⟩:=A6 h hi;obtain⟨b,hb,eb⟩:=A6 h hj;by_cases hab:a<=b
 .refine⟨b-a,by lia,?_⟩;rw[<- ea,<- sH,show a+(b-a)=b by lia,eb]
 .refine⟨m+1+b-a,by lia,?_⟩;have z:=xO h;unfold Nb at z;simp only[jh,Pw]at z;rw[<- ea,<- sH,show a+(m+1+b-a)=m+1+b by lia,sH,z.2,eb]
theorem xP(m:Nat):∀(n i:Nat),lp m n (i,0)=(fN m n i,0)
 |0,_=>rfl
 |n+1,i=>by show lp m n (leap m i 0)=_;have:leap m i 0=(f5 m i,0):=rfl;rw[this];exact xP m n _
def uF(h:wu m)(hj:j<=m)(p:Nat×Nat)(h1:p.1<=m)(h2:p.2<2^64):∃n,13<=n/\n<=m+13/\(lp m n p).1=j:=by
 have hp13:(2:Nat)^64<32^13:=by decide
 have hq:(lp m 13 p).2=0:=by rw[Kc];exact Nat.div_eq_of_lt (by lia)
 obtain⟨n,hn,e⟩:=Hd h (FK m 13 p h1) hj;refine⟨13+n,by lia,by lia,?_⟩;rw[Hc]
 grind [lp,xP]
def FL(h:wu m)(hj:j<=m)(v:Va m p):∃n,n<10*turns m/\(it m n p).j=j:=by obtain⟨L,h1,h2,e⟩:=uF h hj (p.i,p.perturb) v.i v.q;obtain⟨n,hn,en⟩:=uC (L-1) p v;rw[show L-1+1=L by lia]at en hn;refine⟨n,by unfold turns;lia,?_⟩;rw[en];exact e
def D9(xs:List Nat):Prop:=xs.Pairwise (·< ·)
theorem oY(hr:D9 xs.toList):∀(fuel lo hi:Nat),lo<=hi->hi<=xs.size->hi-lo<=fuel->
 (∀i (h:i<xs.size),i<lo->xs[i]<j)->(∀i (h:i<xs.size),hi<=i->j<=xs[i])->
 below.go xs j fuel lo hi<=xs.size/\(∀i (h:i<xs.size),i<below.go xs j fuel lo hi->xs[i]<j)/\∀i (h:i<xs.size),below.go xs j fuel lo hi<=i->j<=xs[i]
 |0,lo,hi,h1,h2,h3,h4,h5=>by
  have:lo=hi:=by lia
  subst this;exact⟨h2,h4,h5⟩
 |f+1,lo,hi,h1,h2,h3,h4,h5=>by
  have mono:∀a b (ha:a<xs.size) (hb:b<xs.size),a<=b->xs[a]<=xs[b]:=by
   intro a b ha hb hab;rcases Nat.lt_or_eq_of_le hab with h|h
   .have:=gA.mp hr a b (by simpa using ha) (by simpa using hb) h;simpa using Qe this
   .subst h;exact bK _
  unfold below.go;by_cases hc:lo<hi
  .rw[b_ hc];have hm:(lo+hi)/2<xs.size:=by lia
   have eg:xs.getD ((lo+hi)/2) j=xs[(lo+hi)/2]:=by simp[Array.getD,hm]
   dsimp only;rw[eg];by_cases hq:xs[(lo+hi)/2]<j
   .rw[b_ hq];refine oY hr f _ _ (by lia) h2 (by lia) (λi h hi'=>?_) h5;exact nT (mono i _ h hm (by lia)) hq
   .rw[cF hq];refine oY hr f _ _ (by lia) (by lia) (by lia) h4 λi h hi'=>?_;exact gC (by lia) (mono _ i hm h hi')
  .rw[cF hc];have:lo=hi:=by lia
   subst this;exact⟨h2,h4,h5⟩
def gn(j:Nat)(hr:D9 xs.toList):below xs j<=xs.size/\(∀i (h:i<xs.size),i<below xs j->xs[i]<j)/\∀i (h:i<xs.size),below xs j<=i->j<=xs[i]:=by unfold below;exact oY hr xs.size 0 xs.size (jT _) (bK _) (by lia) (λi h z=>by lia) λi h z=>by lia
def A7(hr:D9 xs.toList)(h:i<xs.size):below xs xs[i]=i:=by
 obtain⟨a,b,c⟩:=gn xs[i] hr;rcases Qb (below xs xs[i]) i with q|q|q
 .have hb:below xs xs[i]<xs.size:=by lia
  have h1:=c (below xs xs[i]) hb (bK _);have h2:=gA.mp hr _ i (by grind) (by grind) q;simp at h2;lia
 .exact q
 .have:=b i h q;lia
theorem rj(j:Nat):has #[] j=false:=rfl
structure Tb(t:SetTable):Prop where
 gD:wu t.mask
 MB:t.dummies=#[]
 xx:D9 t.place.toList
 le:∀j∈t.place.toList,j<=t.mask
def rk(h:Tb t)(hi:i<t.place.size):t.slot t.place[i]=.live i:=by unfold slot;dsimp only;rw[A7 h.xx hi];rw[b_];simp[hi]
def wv(h:Tb t)(hj:j∉t.place.toList):t.slot j=.empty:=by
 unfold slot;dsimp only;rw[cF,h.MB,rj]
 .rfl
 .grind
def ww(h:Tb t)(j:Nat):(j∉t.place.toList/\t.slot j=.empty)\/∃i,∃hi:i<t.place.size,t.place[i]=j/\t.slot j=.live i:=by
 by_cases hj:j∈t.place.toList
 .right;obtain⟨i,hi,e⟩:=PQ.mp hj;have hi':i<t.place.size:=by simpa using hi
  have e':t.place[i]=j:=by simpa using e
  exact⟨i,hi',e',by rw[<- e'];exact rk h hi'⟩
 .exact .inl ⟨hj,wv h hj⟩
def Lv(t:SetTable)(j:Nat):Prop:=j∈t.place.toList
inductive jU(t:SetTable) (ha:Nat->Int) (h:Int) (p:Probe):Option Met->Prop
 |em (n:Nat) (e:¬Lv t (it t.mask n p).j) (b:∀k,k<n->∃i,∃hi:i<t.place.size,t.place[i]=(it t.mask k p).j/\ha i≠h):jU t ha h p (some (.empty (it t.mask n p).j none))
 |ca (n i:Nat) (hi:i<t.place.size) (e:t.place[i]=(it t.mask n p).j) (q:ha i=h) (b:∀k,k<n->∃i,∃hi:i<t.place.size,t.place[i]=(it t.mask k p).j/\ha i≠h) :
  jU t ha h p (some (.candidate (it t.mask n p).j i (it t.mask (n+1) p)))
theorem uG(h:Tb t)(ha:Nat->Int)(x:Int):∀(fuel:Nat)(p:Probe),Va t.mask p->(∃n,n<fuel/\¬Lv t (it t.mask n p).j)->jU t ha x p (probe.go t ha x fuel p)
 |0,p,v,⟨n,hn,_⟩=>by lia
 |f+1,p,v,⟨n,hn,he⟩=>by
  unfold probe.go;rcases ww h p.j with⟨h1,e⟩|⟨i,hi,h1,e⟩
  .rw[e];dsimp only;have:=jU.em (t:=t) (ha:=ha) (h:=x) (p:=p) 0 h1 λk hk=>by lia
   rw[v.d];exact this
  .rw[e];dsimp only;by_cases hq:ha i=x
   .rw[b_ (by simpa using hq)];exact jU.ca (t:=t) (ha:=ha) (h:=x) (p:=p) 0 i hi h1 hq λk hk=>by lia
   .rw[cF (by simpa using hq),wq];have hn0:n≠0:=by rintro rfl;exact he (by show p.j∈t.place.toList;rw[<- h1];simp)
    have ih:=uG h ha x f (wo t.mask p) v.wo ⟨n-1,by lia,by
     have:it t.mask (n-1) (wo t.mask p)=it t.mask n p:=by show _=it t.mask n p;rw[show n=(n-1)+1 by lia];rfl
     rw[this];exact he⟩
    have shift:∀{nn:Nat},(∀k,k<nn->∃i,∃hi:i<t.place.size,t.place[i]=(it t.mask k (wo t.mask p)).j/\ha i≠x)->∀k,k<nn+1->∃i,∃hi:i<t.place.size,t.place[i]=(it t.mask k p).j/\ha i≠x:=by
     intro nn b k hk;cases k with
     |zero=>exact⟨i,hi,h1,hq⟩
     |succ k=>exact b k (by lia)
    generalize probe.go t ha x f (wo t.mask p)=rr at ih;cases ih with
    |em n' e' b=>exact jU.em (t:=t) (ha:=ha) (h:=x) (p:=p) (n'+1) e' (shift b)
    |ca n' i' hi' e' q' b=>exact jU.ca (t:=t) (ha:=ha) (h:=x) (p:=p) (n'+1) i' hi' e' q' (shift b)
theorem oZ:∀(l1 l2:List Nat),l1.Nodup->(∀x∈l1,x∈l2)->l1.length<=l2.length
 |[],_,_,_=>jT _
 |a::l1,l2,nd,hs=>by
  have ha:a∈l2:=hs a (cE ..);have ih:=oZ l1 (l2.erase a) (j5.mp nd).2 λx hx=>by grind
  grind
def o5(h:Tb t)(hs:t.place.size<=t.mask):∃j,j<=t.mask/\¬Lv t j:=by refine Gx λhn=>?_;have i8:∀j,j<=t.mask->j∈t.place.toList:=λj hj=>Gx λz=>hn ⟨j,hj,z⟩;have:=oZ (List.range (t.mask+1)) t.place.toList Pt λj hj=>i8 j (by grind);simp at this;lia
def wx(h:Tb t)(hs:t.place.size<=t.mask)(ha:Nat->Int)(x:Int)(v:Va t.mask p):jU t ha x p (t.probe ha x p):=by obtain⟨j,hj,hn⟩:=o5 h hs;obtain⟨n,h1,h2⟩:=FL h.gD hj v;unfold probe;exact uG h ha x _ p v ⟨n,h1,by grind⟩
def Rea(m:Nat)(lv:Nat->Prop)(h:Int)(j:Nat):Prop:=∃n,(it m n (st m h)).j=j/\∀k,k<n->lv (it m k (st m h)).j
def Rea.mono(r:Rea m lv h j)(s:∀j,lv j->lv' j):Rea m lv' h j:=let ⟨n,e,b⟩:=r;⟨n,e,λk hk=>s _ (b k hk)⟩
structure ua{V:Type} (t:SetTable) (es:Array (Int×V)):Prop where
 tb:Tb t
 len:t.place.size=es.size
 JV:∀q∈t.place.toList.zip es.toList,Rea t.mask (·∈ t.place.toList) q.2.1 q.1
def rp(t:SetTable):Prop:=t.place.size*5<t.mask*3
def insertAt_toList{α:Type}(xs:Array α)(p:Nat)(x:α)(h:p<=xs.size):(insertAt xs p x).toList=xs.toList.take p++x::xs.toList.drop p:=by unfold insertAt;simp[Array.toList_extract,List.extract_eq_drop_take,qm]
def insertAt_size{α:Type}(xs:Array α)(p:Nat)(x:α)(h:p<=xs.size):(insertAt xs p x).size=xs.size+1:=by rw[<- qU,insertAt_toList xs p x h];simp;lia
def sI(h:Tb t)(j:Nat):(t.put j).1={t with place:=insertAt t.place (below t.place j) j}:=by
 unfold put;dsimp only;rw[h.MB]
 grind [rj]
def xQ(t:SetTable)(j:Nat):(t.put j).2=below t.place j:=rfl
def wy{α β:Type}(xs:List α)(ys:List β)(p:Nat)(x:α)(y:β)(h:xs.length=ys.length):(xs.take p++x::xs.drop p).zip (ys.take p++y::ys.drop p)=(xs.zip ys).take p++(x,y)::(xs.zip ys).drop p:=by rw[List.zip_append (by simp[h]),List.zip_cons_cons];simp[List.zip,List.take_zipWith,List.drop_zipWith]
def He{V:Type}{t:SetTable}{es:Array (Int×V)}(h:ua t es){j:Nat}(hj:j∉t.place.toList)(hjm:j<=t.mask){hh:Int}{v:V}(r:Rea t.mask (·∈ t.place.toList) hh j) :
 ua (t.put j).1 (insertAt es (t.put j).2 (hh,v))/\(t.put j).1.mask=t.mask/\(t.put j).1.place.size=t.place.size+1:=by
 obtain⟨a,b,c⟩:=gn j h.tb.xx;rw[sI h.tb,xQ];have ae:below t.place j<=es.size:=by rw[<- h.len];exact a
 have el:=insertAt_toList t.place _ j a;have ee:=insertAt_toList es (below t.place j) (hh,v) ae;have mem:∀k,k∈(insertAt t.place (below t.place j) j).toList↔k=j\/k∈t.place.toList:=by
  intro k;rw[el,fD,cC];constructor
  .rintro (z|rfl|z)
   .exact .inr (Dv z)
   .exact .inl rfl
   .exact .inr (Qq z)
  .rintro (rfl|z)
   .exact .inr (.inl rfl)
   .rw[<- O8 (below t.place j) t.place.toList,fD]at z;exact z.elim .inl λz=>.inr (.inr z)
 refine⟨⟨⟨h.tb.gD,h.tb.MB,?_,λk hk=>?_⟩,?_,λq hq=>?_⟩,rfl,insertAt_size _ _ _ a⟩
 .show D9 (insertAt t.place (below t.place j) j).toList;rw[el];unfold D9;rw[Qr];refine⟨h.tb.xx.sublist (List.take_sublist _ _),?_,?_⟩
  .rw[JF];refine⟨λk hk=>?_,h.tb.xx.sublist (List.drop_sublist _ _)⟩;obtain⟨i,hi,e⟩:=PQ.mp hk;rw[PX]at hi;have hi2:below t.place j+i<t.place.size:=by simp at hi;lia
   have e2:t.place[below t.place j+i]=k:=by rw[<- e];simp
   have:=c _ hi2 (by lia);rw[e2]at this;have:k≠j:=λz=>hj (by rw[<- z,<- e2];simp);lia
  .intro k hk l hl;obtain⟨i,hi,e⟩:=PQ.mp hk;rw[N0]at hi;have hi2:i<t.place.size:=by simp at hi;lia
   have e2:t.place[i]=k:=by rw[<- e];simp
   have l1:=b i hi2 (by lia);rw[e2]at l1;rw[cC]at hl;rcases hl with rfl|hl
   .exact l1
   .obtain⟨i',hi',e'⟩:=PQ.mp hl;rw[PX]at hi';have hi3:below t.place j+i'<t.place.size:=by simp at hi';lia
    have e3:t.place[below t.place j+i']=l:=by rw[<- e'];simp
    have:=c _ hi3 (by lia);rw[e3]at this;lia
 .rcases (mem k).mp hk with rfl|z
  .exact hjm
  .exact h.tb.le k z
 .show(insertAt t.place (below t.place j) j).size=_;rw[insertAt_size _ _ _ a,insertAt_size _ _ _ ae,h.len]
 .have hq:q∈(insertAt t.place (below t.place j) j).toList.zip (insertAt es (below t.place j) (hh,v)).toList:=hq;rw[el,ee,wy _ _ _ _ _ (by simpa using h.len)]at hq;have sub:∀k,k∈t.place.toList->k∈(insertAt t.place (below t.place j) j).toList:=λk hk=>(mem k).mpr (.inr hk);rw[fD,cC]at hq;rcases hq with z|rfl|z
  .exact(h.JV q (Dv z)).mono sub
  .exact r.mono sub
  .exact(h.JV q (Qq z)).mono sub
def ow(owner:Array (Option Nat))(j:Nat):Prop:=∃k,owner[j]?=some (some k)
theorem sJ(i q:Nat):∀k,k<=runEnd m i-i->it m k (rs m (i,q))={j:=i+k,more:=runEnd m i-i-k,i:=i,perturb:=q,dummy:=none}
 |0,_=>rfl
 |k+1,h=>by
  rw[D8,sJ i q k (by lia)]
  grind [wo]
theorem rq(hs:owner.size=m+1):∀(fuel i q:Nat),i<=m->q<2^64->(∃L,L<fuel/\¬ow owner (lp m L (i,q)).1)->
 ∃j,layClean.free m owner fuel i q=some j/\j<=m/\¬ow owner j/\∃n,(it m n (rs m (i,q))).j=j/\∀k,k<n->ow owner (it m k (rs m (i,q))).j
 |0,i,q,_,_,⟨L,h,_⟩=>by lia
 |f+1,i,q,hi,hq,⟨L,hL,hn⟩=>by
  obtain⟨r1,r2⟩:=k_ m i hi;have hre:runEnd m i+1-i=(runEnd m i-i)+1:=by
   have:i<=runEnd m i:=by unfold runEnd;split<;>lia
   lia
  have isn:∀k,k<=runEnd m i-i->((owner.getD (i+k) (some 0)).isNone=true↔¬ow owner (i+k)):=by
   intro k hk;have hb:i+k<owner.size:=by lia
   have e:owner[i+k]?=some owner[i+k]:=by simp[hb]
   have e2:owner.getD (i+k) (some 0)=owner[i+k]:=by simp[Array.getD,hb]
   unfold ow;rw[e2,e];cases owner[i+k]<;>simp
  unfold layClean.free;cases hf:(List.range (runEnd m i+1-i)).find? λk=>(owner.getD (i+k) (some 0)).isNone with
  |some k=>
   dsimp only;rw[List.find?_range_eq_some]at hf;obtain⟨h1,h2,h3⟩:=hf;have h2:=jl.mp h2;have hk:k<=runEnd m i-i:=by lia
   refine⟨i+k,rfl,by lia,(isn k hk).mp h1,k,by rw[sJ i q k hk],λk' hk'=>?_⟩
   grind [sJ]
  |none=>
   dsimp only;rw[List.find?_range_eq_none]at hf;have hrun:∀k,k<=runEnd m i-i->ow owner (i+k):=by grind
   have hL0:L≠0:=by rintro rfl;exact hn (hrun 0 (jT _))
   have ih:=rq hs f (leap m i q).1 (leap m i q).2 (sG m i q) (by rw[wt];have:=Nat.div_le_self q 32;lia) ⟨L-1,by lia,by
    have:lp m L (i,q)=lp m (L-1) (leap m i q):=by rw[show L=(L-1)+1 by lia];rfl
    rw[this]at hn;exact hn⟩
   obtain⟨j,e,hj,hnj,n,en,hb⟩:=ih;refine⟨j,e,hj,hnj,runEnd m i-i+1+n,?_,λk hk=>?_⟩
   .rw[gm,oi (runEnd m i-i) (rs m (i,q)) rfl (Va.rs hi hq)];exact en
   .by_cases hk2:k<=runEnd m i-i
    .rw[sJ i q k hk2];exact hrun k hk2
    .have:it m k (rs m (i,q))=it m (k-(runEnd m i-i+1)) (rs m (leap m i q)):=by rw[show k=(runEnd m i-i+1)+(k-(runEnd m i-i+1)) by lia,gm,oi (runEnd m i-i) (rs m (i,q)) rfl (Va.rs hi hq)];congr 1;lia
     rw[this];exact hb _ (by lia)
structure Own(m:Nat) (hs:List Int) (owner:Array (Option Nat)):Prop where
 size:owner.size=m+1
 all:∀k:Nat,k<hs.length->∃j:Nat,owner[j]?=some (some k)
 lt:∀j k:Nat,owner[j]?=some (some k)->k<hs.length
 JV:∀(j k:Nat)(h:Int),owner[j]?=some (some k)->hs[k]?=some h->Rea m (ow owner) h j
 inj:∀j j' k:Nat,owner[j]?=some (some k)->owner[j']?=some (some k)->j=j'
def Own.MA(o:Own m hs owner)(hl:hs.length<=m):∃j,j<=m/\¬ow owner j:=by
 refine Gx λhn=>?_;have i8:∀j,j<=m->ow owner j:=λj hj=>Gx λz=>hn ⟨j,hj,z⟩
 let g:Nat->Nat:=λj=>((owner[j]?).getD none).getD 0
 have hg:∀j,j<=m->owner[j]?=some (some (g j)):=λj hj=>by obtain⟨k,hk⟩:=i8 j hj;show owner[j]?=some (some (((owner[j]?).getD none).getD 0));rw[hk];rfl
 have nd:((List.range (m+1)).map g).Nodup:=by unfold List.Nodup;rw[Pc];have:=Pt (n:=m+1);refine Pd (λ{a b} ha hb hab e=>hab ?_) this;have ha:=jl.mp ha;have hb:=jl.mp hb;exact o.inj a b (g a) (hg a (by lia)) (by rw[e];exact hg b (by lia))
 have:=oZ _ (List.range hs.length) nd λx hx=>by obtain⟨j,hj,rfl⟩:=d7.mp hx;have hj:=jl.mp hj;exact jl.mpr (o.lt j _ (hg j (by lia)))
 simp at this;lia
def A8(hm:wu m)(o:Own m hs owner)(hl:hs.length<=m)(h:Int) :
 ∃j,layClean.free m owner (turns m) (bits h%(m+1)) (bits h)=some j/\Own m (hs++[h]) (owner.setIfInBounds j (some hs.length)):=by
 obtain⟨j0,hj0,hn0⟩:=o.MA hl;have hi:bits h%(m+1)<=m:=QM (QU _ (Nat.succ_pos m));obtain⟨L,l1,l2,el⟩:=uF hm hj0 (bits h%(m+1),bits h) hi (sF h);obtain⟨j,e,hj,hnj,n,en,hb⟩:=rq o.size (turns m) _ _ hi (sF h) ⟨L,by unfold turns;lia,by rw[el];exact hn0⟩;refine⟨j,e,?_⟩;have hjb:j<owner.size:=by rw[o.size];lia
 have get:∀i,(owner.setIfInBounds j (some hs.length))[i]?=if i=j then some (some hs.length)else owner[i]?:=by
  intro i;rw[Array.getElem?_setIfInBounds];by_cases hij:j=i
  .subst hij;rw[b_ rfl,b_ hjb,b_ rfl]
  .rw[cF hij,cF (λz=>hij z.symm)]
 have sub:∀i,ow owner i->ow (owner.setIfInBounds j (some hs.length)) i:=by
  rintro i ⟨k,hk⟩;by_cases hij:i=j
  .exact⟨_,by rw[get,b_ hij]⟩
  .exact⟨k,by rw[get,cF hij];exact hk⟩
 have inv:∀i k,(owner.setIfInBounds j (some hs.length))[i]?=some (some k)->(i=j/\k=hs.length)\/(i≠j/\owner[i]?=some (some k)):=by
  intro i k hk;rw[get]at hk;by_cases hij:i=j
  .rw[b_ hij]at hk;exact .inl ⟨hij,by simpa using hk.symm⟩
  .rw[cF hij]at hk;exact .inr ⟨hij,hk⟩
 refine⟨by rw[Array.size_setIfInBounds,o.size],λk hk=>?_,λi k hk=>?_,λi k h' hk hh=>?_,λi i' k h1 h2=>?_⟩
 .rw[gV,Qh]at hk;by_cases hkl:k=hs.length
  .exact⟨j,by rw[get,b_ rfl,hkl]⟩
  .obtain⟨i,hi⟩:=o.all k (by lia);refine⟨i,?_⟩;rw[get,cF]
   .exact hi
   .rintro rfl;exact hnj ⟨k,hi⟩
 .rw[gV,Qh];rcases inv i k hk with⟨_,rfl⟩|⟨_,z⟩
  .lia
  .have:=o.lt i k z;lia
 .rcases inv i k hk with⟨rfl,rfl⟩|⟨hij,z⟩
  .rw[nU (bK _),Nat.sub_self]at hh;cases hh;exact⟨n,en,λk hk=>sub _ (hb k hk)⟩
  .have hkl:=o.lt i k z;rw[Gy hkl]at hh;exact(o.JV i k h' z hh).mono sub
 .rcases inv i k h1 with⟨rfl,rfl⟩|⟨hij,z⟩<;>rcases inv i' _ h2 with⟨rfl,e'⟩|⟨hij',z'⟩
  .rfl
  .have:=o.lt _ _ z';lia
  .have:=o.lt _ _ z;lia
  .exact o.inj i i' k z z'
theorem A9(hm:wu m):∀(suf pre:List Int)(owner:Array (Option Nat)),Own m pre owner->pre.length+suf.length<=m->
 ∃owner',suf.foldl (λacc h=>do
  let (owner,k) <- acc
  let j <- layClean.free m owner (turns m) (bits h%(m+1)) (bits h)
  pure (owner.setIfInBounds j (some k),k+1)) (some (owner,pre.length))=some (owner',pre.length+suf.length)/\Own m (pre++suf) owner'
 |[],pre,owner,o,_=>⟨owner,rfl,by grind⟩
 |h::suf,pre,owner,o,hl=>by
  simp only[fU]at hl;obtain⟨j,e,o'⟩:=A8 hm o (by lia) h;obtain⟨owner',e2,o2⟩:=A9 hm suf (pre++[h]) _ o' (by simp;lia)
  grind
def Hf(hm:wu m)(hs:Array Int)(hl:hs.size<=m):∃owner,layClean m hs=some owner/\Own m hs.toList owner:=by
 have o0:Own m [] (Array.replicate (m+1) none):=by
  have no:∀j k:Nat,(Array.replicate (m+1) (none:Option Nat))[j]?=some (some k)->False:=by grind
  exact⟨by simp,λk hk=>by simp at hk,λj k h=>(no j k h).elim,λj k _ h=>(no j k h).elim,λj _ k h=>(no j k h).elim⟩
 obtain⟨owner,e,o⟩:=A9 hm hs.toList [] _ o0 (by grind);refine⟨owner,?_,by grind⟩;unfold layClean
 grind
theorem A_{α:Type}(es:Array α):∀(l:List Nat),(∀k∈l,k<es.size)->(l.filterMap (es[·]?)).length=l.length/\∀i:Nat,(l.filterMap (es[·]?))[i]?=(l[i]?).bind (es[·]?)
 |[],_=>⟨rfl,λi=>by simp⟩
 |k::l,h=>by
  have hk:k<es.size:=h k (cE ..);have e:es[k]?=some es[k]:=by simp[hk]
  obtain⟨a,b⟩:=A_ es l λk hk=>h k (cg _ hk);rw[List.filterMap_cons_some e];refine⟨by simp[a],λi=>?_⟩;cases i with
  |zero=>simp[e]
  |succ i=>simpa using b i
theorem o6(o:Nat->Option Nat):∀l:List Nat,(l.filterMap λj=>(o j).map (j,·)).map Prod.fst=l.filter λj=>(o j).isSome
 |[]=>rfl
 |j::l=>by
  rw[Po,PY];cases e:o j with
  |none=>simpa using o6 o l
  |some k=>simpa using o6 o l
def Ba(owner:Array (Option Nat))(m:Nat)(hs:owner.size=m+1)(j k:Nat):(j,k)∈((List.range (m+1)).filterMap λj=>(owner.getD j none).map (j,·))↔owner[j]?=some (some k):=by
 rw[Df];constructor
 .rintro⟨a,h1,h2⟩;have h1:=jl.mp h1;have hb:a<owner.size:=by lia
  have e:owner.getD a none=owner[a]:=by simp[Array.getD,hb]
  rw[e]at h2;obtain⟨k',e1,e2⟩:=Gr.mp h2;cases e2;rw[show owner[j]?=some owner[j] by simp[hb],e1]
 .intro h;obtain⟨hb,e⟩:=Gn.mp h;refine⟨j,jl.mpr (by lia),?_⟩;have e2:owner.getD j none=owner[j]:=by simp[Array.getD,hb]
  rw[e2,e];rfl
structure Laid{V:Type} (m:Nat) (es es':Array (Int×V)) (t':SetTable):Prop where
 Di:ua t' es'
 mask:t'.mask=m
 size:es'.size=es.size
 mem:∀x,x∈es'.toList↔x∈es.toList
 pw:∀R:Int×V->Int×V->Prop,(∀x y,R x y->R y x)->es.toList.Pairwise R->es'.toList.Pairwise R
def Bb{V:Type}{m:Nat}(hm:wu m)(es:Array (Int×V))(hl:es.size<=m)(finger moves:Nat)(led plain:Bool) :
 ∃t' order,laid m finger moves led plain (es.map (·.1))=some (t',order)/\Laid m es (order.filterMap (es[·]?)) t'/\t'.led=led/\t'.plain=plain/\order.toList.Perm (List.range es.size):=by
 obtain⟨owner,eo,o⟩:=Hf hm (es.map (·.1)) (by simpa using hl);have len:(es.map (·.1)).toList.length=es.size:=by simp
 let live:=(List.range (m+1)).filterMap λj=>(owner.getD j none).map (j,·)
 have lm:∀j k,(j,k)∈live↔owner[j]?=some (some k):=Ba owner m o.size;have xx:D9 (live.map Prod.fst):=by show D9 (((List.range (m+1)).filterMap λj=>(owner.getD j none).map (j,·)).map Prod.fst);rw[o6];exact List.pairwise_lt_range.sublist (List.filter_sublist)
 have ndS:(live.map Prod.snd).Nodup:=by unfold List.Nodup;unfold D9 at xx;rw[Pc]at xx ⊢;refine Pd (λ{a b} ha hb hab e=>?_) xx;have h1:=(lm a.1 a.2).mp ha;have h2:=(lm b.1 b.2).mp hb;rw[<- e]at h2;have:=o.inj _ _ _ h1 h2;lia
 have lt:∀k∈live.map Prod.snd,k<es.size:=by
  intro k hk;obtain⟨p,hp,rfl⟩:=d7.mp hk;have:=o.lt p.1 p.2 ((lm p.1 p.2).mp hp)
  rwa [len]at this
 have all:∀k,k<es.size->k∈live.map Prod.snd:=by intro k hk;obtain⟨j,hj⟩:=o.all k (by rw[len];exact hk);exact d7.mpr ⟨(j,k),(lm j k).mpr hj,rfl⟩
 have ll:live.length=es.size:=by have a:=oZ _ (List.range es.size) ndS λk hk=>jl.mpr (lt k hk);have b:=oZ (List.range es.size) (live.map Prod.snd) Pt λk hk=>all k (jl.mp hk);simp at a b;lia
 obtain⟨f1,f2⟩:=A_ es (live.map Prod.snd) lt;refine⟨{mask:=m,place:=(live.map (·.1)).toArray,dummies:=#[],finger,led,moves,plain},(live.map (·.2)).toArray,?_,?_,rfl,rfl,(List.perm_ext_iff_of_nodup ndS Pt).mpr λk=>⟨λh=>jl.mpr (lt k h),λh=>all k (jl.mp h)⟩⟩
 .unfold laid;rw[eo];rfl
 .have el:((live.map (·.2)).toArray.filterMap (es[·]?)).toList=(live.map Prod.snd).filterMap (es[·]?):=by simp
  have es':((live.map (·.2)).toArray.filterMap (es[·]?)).size=es.size:=by rw[<- qU,el,f1,cG,ll]
  refine⟨⟨⟨hm,rfl,by simpa using xx,λj hj=>?_⟩,?_,λq hq=>?_⟩,rfl,es',λx=>?_,λR sy pw=>?_⟩
  .have hj:j∈live.map Prod.fst:=by simpa using hj
   obtain⟨p,hp,rfl⟩:=d7.mp hj;obtain⟨hb,_⟩:=Gn.mp ((lm p.1 p.2).mp hp);show p.1<=m;have:=o.size;lia
  .rw[es'];simpa using ll
  .have hq:q∈(live.map Prod.fst).zip ((live.map Prod.snd).filterMap (es[·]?)):=by rw[el]at hq;simpa using hq
   obtain⟨i,hi⟩:=cS.mp hq;rw[PR,f2]at hi;obtain⟨h1,h2⟩:=hi;rw[iq]at h1 h2;obtain⟨p,hp,e1⟩:=Gr.mp h1;rw[hp]at h2;have h2:es[p.2]?=some q.2:=h2;have ho:=(lm p.1 p.2).mp (cS.mpr ⟨i,hp⟩);have hh:(es.map (·.1)).toList[p.2]?=some q.2.1:=by rw[jk,Array.getElem?_map,h2];rfl
   rw[<- e1];refine(o.JV p.1 p.2 q.2.1 ho hh).mono λj ⟨k,hk⟩=>?_;show j∈(live.map (·.1)).toArray.toList;simpa using⟨k,(lm j k).mpr hk⟩
  .rw[el];constructor
   .intro hx;obtain⟨k,_,h2⟩:=Df.mp hx;exact cS.mpr ⟨k,by rw[jk];exact h2⟩
   .intro hx;obtain⟨k,hk⟩:=cS.mp hx;have hb:k<es.size:=by have:=(ci.mp hk).1;simpa using this
    exact Df.mpr ⟨k,all k hb,by rw[jk]at hk;exact hk⟩
  .rw[el];rw[gA];intro a b ha hb hab;have ea:=f2 a;have eb:=f2 b;rw[mJ ha]at ea;rw[mJ hb]at eb;rw[f1]at ha hb;rw[mJ ha]at ea;rw[mJ hb]at eb;have hne:(live.map Prod.snd)[a]≠(live.map Prod.snd)[b]:=gA.mp ndS a b ha hb hab;have ea:es[(live.map Prod.snd)[a]]?=some _:=ea.symm;have eb:es[(live.map Prod.snd)[b]]?=some _:=eb.symm;obtain⟨ka,va⟩:=Gn.mp ea;obtain⟨kb,vb⟩:=Gn.mp eb;have P:=gA.mp pw;rw[<- va,<- vb];rcases QG hne with z|z
   .simpa using P _ _ (by simpa using ka) (by simpa using kb) z
   .refine sy _ _ ?_;simpa using P _ _ (by simpa using kb) (by simpa using ka) z
def D_{V:Type}{m:Nat}(hm:wu m)(es:Array (Int×V))(hl:es.size<=m)(finger moves:Nat)(led plain:Bool) :
 ∃t' order,laid m finger moves led plain (es.map (·.1))=some (t',order)/\Laid m es (order.filterMap (es[·]?)) t'/\t'.led=led/\t'.plain=plain:=by
 obtain⟨t',order,a,b,c,d,_⟩:=Bb hm es hl finger moves led plain;exact⟨t',order,a,b,c,d⟩
end ST
namespace ST
open PySem PySem.W PyProof.Rows
structure Lt(N:Nat) (lt:Nat->Nat->Bool):Prop where
 OX:∀i,lt i i=false
 tr:∀i j k,lt i j=true->lt j k=true->lt i k=true
 OW:∀i j,i<N->j<N->i≠j->lt i j=true\/lt j i=true
noncomputable abbrev OD:=Nat->Nat->(Bool->QX->Prop)->QX->Prop
def Ea(N:Nat)(lt:Nat->Nat->Bool)(cmp:OD)(s:QX):Prop:=∀i j C,i<N->j<N->C (lt i j) s->cmp i j C s
def Pm(N:Nat)(p:Array Nat):Prop:=p.toList.Perm (List.range N)
noncomputable def dk(p:Array Nat)(i:Nat):Nat:=p.getD i 0
section
theorem Pm.size(h:Pm N p):p.size=N:=by have:=h.length_eq;simpa using this
def Pm.perm(h:Pm N p)(q:p'.Perm p):Pm N p':=(Array.perm_iff_toList_perm.mp q).trans h
def Hg(hi:i<p.size):p[i]?=some (dk p i):=by unfold dk;simp[Array.getD,hi]
theorem Bc(h:p'[i]?=p[k]?):dk p' i=dk p k:=by
 simp_all [dk,dk]
def Pm.bd(h:Pm N p)(hi:i<N):dk p i<N:=by
 have hi':i<p.size:=by rw[h.size];exact hi
 have:dk p i∈p.toList:=cS.mpr ⟨i,by rw[jk];exact Hg hi'⟩;exact jl.mp (h.mem_iff.mp this)
def Pm.ne(h:Pm N p)(hi:i<N)(hj:j<N)(e:i≠j):dk p i≠dk p j:=by
 have nd:p.toList.Nodup:=h.nodup_iff.mpr Pt;have hi':i<p.size:=by rw[h.size];exact hi
 have hj':j<p.size:=by rw[h.size];exact hj
 have gi:p.toList[i]'(by simpa using hi')=dk p i:=by simp[dk,Array.getD,hi']
 have gj:p.toList[j]'(by simpa using hj')=dk p j:=by simp[dk,Array.getD,hj']
 intro z;rcases QG e with q|q
 .exact gA.mp nd i j (by simpa using hi') (by simpa using hj') q (by rw[gi,gj];exact z)
 .exact gA.mp nd j i (by simpa using hj') (by simpa using hi') q (by rw[gi,gj];exact z.symm)
def So(lt:Nat->Nat->Bool)(p:Array Nat)(k:Nat):Prop:=∀a b,a<b->b<k->lt (dk p a) (dk p b)=true
def De(lt:Nat->Nat->Bool)(p:Array Nat)(k:Nat):Prop:=∀a b,a<b->b<k->lt (dk p b) (dk p a)=true
def Lt.xy(o:Lt N lt)(hi:i<N)(hj:j<N)(e:i≠j)(h:lt i j=false):lt j i=true:=by
 grind [Lt]
def So.snoc(o:Lt N lt)(h:So lt p k)(hk:1<=k)(l:lt (dk p (k-1)) (dk p k)=true):So lt p (k+1):=by
 grind [Lt,So]
def De.snoc(o:Lt N lt)(h:De lt p k)(hk:1<=k)(l:lt (dk p k) (dk p (k-1))=true):De lt p (k+1):=by
 grind [Lt,De]
theorem wz(o:Lt N lt)(an:Ea N lt cmp s)(pm:Pm N p):∀(f n:Nat){Q:Nat->QX->Prop},1<=n->n+f=N->So lt p n->
 (∀m,n<=m->m<=N->So lt p m->(m<N->lt (dk p m) (dk p (m-1))=true)->Q m s)->(kas_asc p f n).kasWp cmp Q s
 |0,n,Q,h1,h2,h3,k=>k n (bK _) (by lia) h3 λz=>by lia
 |f+1,n,Q,h1,h2,h3,k=>by
  refine an _ _ _ (pm.bd (by lia)) (pm.bd (by lia)) ?_;show KasT.kasWp cmp (if lt (dk p n) (dk p (n-1))=true then .ret n else kas_asc p f (n+1)) Q s;by_cases c:lt (dk p n) (dk p (n-1))=true
  .rw[b_ c];exact k n (bK _) (by lia) h3 λ_=>c
  .rw[cF c];have c:lt (dk p n) (dk p (n-1))=false:=by grind
   exact wz o an pm f (n+1) (by lia) (by lia) (h3.snoc o h1 (o.xy (pm.bd (by lia)) (pm.bd (by lia)) (pm.ne (by lia) (by lia) (by lia)) c)) λm a b c d=>k m (by lia) b c d
theorem xR(o:Lt N lt)(an:Ea N lt cmp s)(pm:Pm N p):∀(f n:Nat){Q:Array Nat×Nat×Nat->QX->Prop},1<=n->n+f=N->De lt p n->
 (∀m,n<=m->m<=N->De lt p m->Q (p,m,0) s)->(kas_desc f p n 0).kasWp cmp Q s
 |0,n,Q,h1,h2,h3,k=>k n (bK _) (by lia) h3
 |f+1,n,Q,h1,h2,h3,k=>by
  refine an _ _ _ (pm.bd (by lia)) (pm.bd (by lia)) ?_;show KasT.kasWp cmp (if lt (dk p n) (dk p (n-1))=true then(if 0>0 then kas_desc f (kas_rev p (n-(0+1)) n) (n+1) 0 else kas_desc f p (n+1) 0)
   else .ask (dk p (n-1)) (dk p n) λd=>if d=true then .ret (p,n,0)else kas_desc f p (n+1) (0+1)) Q s
  by_cases c:lt (dk p n) (dk p (n-1))=true
  .rw[b_ c,cF (by lia)];exact xR o an pm f (n+1) (by lia) (by lia) (h3.snoc o h1 c) λm a b c=>k m (by lia) b c
  .rw[cF c];have c:lt (dk p n) (dk p (n-1))=false:=by grind
   refine an _ _ _ (pm.bd (by lia)) (pm.bd (by lia)) ?_;rw[o.xy (pm.bd (by lia)) (pm.bd (by lia)) (pm.ne (by lia) (by lia) (by lia)) c];show KasT.kasWp cmp (if true=true then _ else _) Q s;rw[b_ rfl];exact k n (bK _) (by lia) h3
def Bd(n:Nat)(hn:n<=p.size)(k:Nat):dk (kas_rev p 0 n) k=if k<n then dk p (n-1-k)else dk p k:=by
 have e:=getElem?_mirror_all (xs:=p) (i:=0) hn k;unfold kas_rev
 grind [Bc]
def Be(o:Lt N lt)(an:Ea N lt cmp s)(pm:Pm N p)(h1:1<=n)(hn:n<=N)(hd:De lt p n)
 (k:∀m p',1<=m->m<=N->Pm N p'->So lt p' m->Q (m,p') s):(kas_tail3 n N p).kasWp cmp Q s:=by
 unfold kas_tail3;rw[P9];have pm':Pm N (kas_rev p 0 n):=pm.perm (mirror_perm _ _ _ _);refine wz o an pm' (N-n) n h1 (by lia) ?_ λm a b c _=>k m _ (by lia) b pm' c;intro a b hab hb;rw[Bd n (by rw[pm.size];exact hn),Bd n (by rw[pm.size];exact hn),b_ (by lia),b_ hb];exact hd _ _ (by lia) (by lia)
def Bf(o:Lt N lt)(an:Ea N lt cmp s)(pm:Pm N p)(h2:2<=N)
 (k:∀m p',1<=m->m<=N->Pm N p'->So lt p' m->Q (m,p') s):(kas_count N p).kasWp cmp Q s:=by
 unfold kas_count;rw[P9];refine wz o an pm (N-1) 1 (bK _) (by lia) (λa b hab hb=>by lia) λm a b c d=>?_;by_cases e:m=N
 .rw[b_ (by simpa using e)];exact k m p a b pm c
 .rw[cF (by simpa using e)];by_cases hm:m>1
  .rw[b_ hm];refine an _ _ _ (pm.bd (by lia)) (pm.bd (by lia)) ?_;have:lt (dk p 0) (dk p (m-1))=true:=c 0 (m-1) (by lia) (by lia);show KasT.kasWp cmp (if lt (dk p 0) (dk p (m-1))=true then _ else _) Q s;rw[b_ this];exact k m p a b pm c
  .rw[cF hm];have hm1:m=1:=by lia
   subst hm1;unfold kas_descPart;rw[P9];have l:=d (by lia);refine xR o an pm (N-(1+1)) (1+1) (by lia) (by lia) (λa b hab hb=>?_) λm' a' b' c'=>?_
   .have:a=0:=by lia
    have:b=1:=by lia
    subst_vars
    exact l
   .show KasT.kasWp cmp (if 0>0 then _ else kas_tail3 m' N p) Q s;rw[cF (by lia)];exact Be o an pm (by lia) b' c' k
theorem o7(o:Lt N lt)(an:Ea N lt cmp s)(pm:Pm N p)(hi:i<N)(so:So lt p i):∀(f l r:Nat){Q:Nat->QX->Prop},l<=r->r<=i->r-l<=f->
 (∀a,a<l->lt (dk p a) (dk p i)=true)->(∀a,r<=a->a<i->lt (dk p i) (dk p a)=true)->
 (∀m,m<=i->(∀a,a<m->lt (dk p a) (dk p i)=true)->(∀a,m<=a->a<i->lt (dk p i) (dk p a)=true)->Q m s)->(kas_place p i f l r).kasWp cmp Q s
 |0,l,r,Q,h1,h2,h3,h4,h5,k=>k l (by lia) h4 λa x y=>h5 a (by lia) y
 |f+1,l,r,Q,h1,h2,h3,h4,h5,k=>by
  unfold kas_place;by_cases c:l>=r
  .rw[b_ c];exact k l (by lia) h4 λa x y=>h5 a (by lia) y
  .rw[cF c];refine an _ _ _ (pm.bd hi) (pm.bd (by lia)) ?_;show KasT.kasWp cmp (if lt (dk p i) (dk p ((l+r)/2))=true then _ else _) Q s;by_cases q:lt (dk p i) (dk p ((l+r)/2))=true
   .rw[b_ q];refine o7 o an pm hi so f l ((l+r)/2) (by lia) (by lia) (by lia) h4 (λa x y=>?_) k;by_cases e:a=(l+r)/2
    .rw[e];exact q
    .exact o.tr _ _ _ q (so _ _ (by lia) y)
   .rw[cF q];have q:lt (dk p i) (dk p ((l+r)/2))=false:=by grind
    have q:=o.xy (pm.bd hi) (pm.bd (by lia)) (pm.ne hi (by lia) (by lia)) q;refine o7 o an pm hi so f _ r (by lia) h2 (by lia) (λa x=>?_) h5 k;by_cases e:a=(l+r)/2
    .rw[e];exact q
    .exact o.tr _ _ _ (so _ _ (by lia) (by lia)) q
def Bg(hi:i<p.size)(hl:l<=i)(k:Nat):dk (bubble p i (i-l)) k=if k=l then dk p i else if l<k/\k<=i then dk p (k-1)else dk p k:=by
 have e:=getElem?_bubble hi (i-l) (by lia) k;rw[show i-(i-l)=l by lia]at e;by_cases h1:k=l
 .rw[b_ h1]at e ⊢;exact Bc e
 .rw[cF h1]at e ⊢
  grind [Bc]
theorem Bh(o:Lt N lt)(an:Ea N lt cmp s):∀(f i:Nat)(p:Array Nat){Q:Array Nat->QX->Prop},Pm N p->i+f=N->So lt p i->
 (∀p',Pm N p'->So lt p' N->Q p' s)->(kas_bin f p i).kasWp cmp Q s
 |0,i,p,Q,pm,h,so,k=>k p pm (by grind)
 |f+1,i,p,Q,pm,h,so,k=>by
  unfold kas_bin;rw[P9];refine o7 o an pm (by lia) so i 0 i (by lia) (bK _) (by lia) (λa x=>by lia) (λa x y=>by lia) λm hm lo hi=>?_;refine Bh o an f (i+1) _ (pm.perm (bubble_perm _ _ _)) (by lia) (λa b hab hb=>?_) k;have hs:i<p.size:=by rw[pm.size];lia
  rw[Bg hs hm,Bg hs hm]
  repeat' split
  all_goals first|lia|(exact hi _ (by lia) (by lia))|(exact lo _ (by lia))|(exact so _ _ (by lia) (by lia))
def Eb(o:Lt N lt)(an:Ea N lt cmp s)(h2:2<=N)(k:∀p,Pm N p->So lt p N->Q p s):(kas_sort N).kasWp cmp Q s:=by
 unfold kas_sort;rw[P9];have pm:Pm N (List.toArray (List.range N)):=by unfold Pm;simp
 refine Bf o an pm h2 λm p' a b c d=>?_;show KasT.kasWp cmp (if m<N then kas_bin (N-max m 1) p' (max m 1)else .ret p') Q s;by_cases e:m<N
 .rw[b_ e];have:max m 1=m:=by lia
  rw[this];exact Bh o an (N-m) m p' c (by lia) d k
 .rw[cF e];have:m=N:=by lia
  subst this;exact k p' c d
end
end ST
namespace L2
open PySem PySem.Spec PySem.Calls PyProof.Rows ST
noncomputable abbrev iK(ns:List Int):List cJ:=ns.map Sum.inl
section
def oj(h:(aJ prog w).is (.inl i) v=true):∃t,v=.int i t:=by
 rcases bx (show lK (.inl i) v=true from h)with⟨j,t,e,rfl⟩|⟨x,t,e,_⟩
 .cases e;exact⟨t,rfl⟩
 .cases e
theorem items_int:∀{ns:List Int}{vs:List Q0},ItemsAre (aJ prog w) (iK ns) vs->∀v∈vs,∃i t,v=.int i t
 |[],_,h,v,hv=>by cases h;simp at hv
 |n::ns,_,h,v,hv=>by
  cases h with
  |cons h1 h2=>
   rcases cC.mp hv with rfl|hv
   .obtain⟨t,rfl⟩:=oj h1;exact⟨n,t,rfl⟩
   .exact items_int h2 v hv
def Hh(hk:(tK prog w).is s.heap (iK ns) b)(h:Q true s):wpAny (model prog w) A (hashByValue 8 (.ref b)) Q E s:=by
 have hT:=IsTupleKey.typeIs hk;obtain⟨o,items,n,ho,_,hd,hi⟩:=hk;unfold hashByValue;refine bj (wpAny_specialOf hT PySem.F.slot_tuple_hash.lookup ?_);dsimp only;refine bj (wpAny_seqItems ho hd ?_);refine bj ?_;show wpAny _ _ (forIn items _ _) _ _ s;rw[<- Array.forIn_toList];refine wpAny_forIn_list _ (λrest r s'=>r.1=none/\s'=s/\∀v∈rest,∃i t,v=Value.int i t) _ ?_ ?_ _ _ ⟨rfl,rfl,items_int hi⟩
 .rintro v rest r s' ⟨hr,rfl,i8⟩;obtain⟨i,t,rfl⟩:=i8 v cE;refine bj (bY ?_);simp only[N6,dv,qB];exact bY ⟨rfl,rfl,λu hu'=>i8 u (cg _ hu')⟩
 .rintro⟨r1,r2⟩ s' ⟨hr,rfl,_⟩;simp only at hr;subst hr;exact bY h
def uH(hk:(tK prog w).is s.heap (iK ns) b)(h:Q false s):wpAny (model prog w) A (ofAClassStatement 8 (.ref b)) Q E s:=by
 have hT:=IsTupleKey.typeIs hk;obtain⟨o,items,n,ho,_,hd,hi⟩:=hk;unfold ofAClassStatement;refine bj (Qg hT ?_);dsimp only;rw[b_ (by decide)];refine bj (bY ?_);simp only[N6,dv,qB];refine bj (wpAny_seqItems ho hd ?_);refine bj ?_;show wpAny _ _ (forIn items _ _) _ _ s;rw[<- Array.forIn_toList];refine wpAny_forIn_list _ (λrest r s'=>r.1=none/\s'=s/\∀v∈rest,∃i t,v=Value.int i t) _ ?_ ?_ _ _ ⟨rfl,rfl,items_int hi⟩
 .rintro v rest r s' ⟨hr,rfl,i8⟩;obtain⟨i,t,rfl⟩:=i8 v cE;refine bj (bY ?_);simp only[dv,qB];exact bY ⟨rfl,rfl,λu hu'=>i8 u (cg _ hu')⟩
 .rintro⟨r1,r2⟩ s' ⟨hr,rfl,_⟩;simp only at hr;subst hr;exact bY h
def Hi(hk:(tK prog w).is s.heap (iK ns) b)(hy:∀y∈ys,∃ms c,y=.ref c/\(tK prog w).is s.heap (iK ms) c)(h:Q false s):wpAny (model prog w) A (searchCouldBeSeen (.ref b) ys) Q E s:=by
 unfold searchCouldBeSeen;refine bj ?_;refine wpAny_forIn_list _ (λrest r s'=>r.1=none/\s'=s/\∀y∈rest,∃ms c,y=.ref c/\(tK prog w).is s.heap (iK ms) c) _ ?_ ?_ _ _ ⟨rfl,rfl,hy⟩
 .rintro v rest r s' ⟨hr,rfl,i8⟩;obtain⟨ms,c,rfl,hc⟩:=i8 v cE;have fin:∀u∈rest,∃ms c,u=Value.ref c/\(tK prog w).is s'.heap (iK ms) c:=λu hu'=>i8 u (cg _ hu');dsimp only;split
  .exact bY ⟨rfl,rfl,fin⟩
  .refine bj ((tK prog w).quiet hk ?_);simp only[N6,dv,qB];refine bj ((tK prog w).quiet hc ?_);simp only[N6,dv,qB];refine bj (uH hk ?_);simp only[dv,qB];refine bj (uH hc ?_);simp only[dv,qB];exact bY ⟨rfl,rfl,fin⟩
 .rintro⟨r1,r2⟩ s' ⟨hr,rfl,_⟩;simp only at hr;subst hr;exact bY h
end
section
def Og(prog:QZ)(w:World)(h:Heap)(es:Array (Int×Q0)):Prop:=∀e∈es.toList,∃ms c,e=((tK prog w).hash (iK ms),Value.ref c)/\(tK prog w).is h (iK ms) c
def Ec(h:wu m):(m%2==0)=false:=by rcases h with rfl|rfl|rfl|rfl<;>rfl
theorem ua.fits(T:ua t es)(hs:t.place.size<=t.mask):t.fits es.size=true:=by unfold SetTable.fits SetTable.fill;rw[T.tb.MB];simp[T.len]at hs ⊢;exact hs
def wB{α:Type}{es:Array α}{i:Nat}{e:α}(h:es[i]?=some e):e∈es.toList:=cS.mpr ⟨i,by rw[jk];exact h⟩
theorem rA{ep:Nat}{t:SetTable}{ns:List Int}{Q:SetFound->QX->Prop}(ho:s.heap.get? a=some o)(hd:o.data=.set es ep t)(T:ua t es)(hs:t.place.size<=t.mask)
 (hu:A.units<cLine) (hk:(tK prog w).is s.heap (iK ns) b) (el:Og prog w s.heap es)
 (h1:(∃e∈es.toList,∃c,e.2=.ref c/\(tK prog w).is s.heap (iK ns) c)->Q (.there none) s)
 (h2:(∀e∈es.toList,∀c,e.2=.ref c->¬(tK prog w).is s.heap (iK ns) c)->∀j,j∉t.place.toList->j<=t.mask->Rea t.mask (·∈ t.place.toList) ((tK prog w).hash (iK ns)) j->Q (.free j false) s) :
 ∀(fuel n:Nat)(stand:Option SetTable.Probe),stand.getD (t.probeStart ((tK prog w).hash (iK ns)))=it t.mask n (st t.mask ((tK prog w).hash (iK ns)))->
  (∀k,k<n->∃i e,∃hi:i<t.place.size,t.place[i]=(it t.mask k (st t.mask ((tK prog w).hash (iK ns)))).j/\es[i]?=some e/\∀c,e.2=.ref c->¬(tK prog w).is s.heap (iK ns) c)->
  (∃N,n<=N/\N<n+fuel/\(it t.mask N (st t.mask ((tK prog w).hash (iK ns)))).j∉t.place.toList)->
  wpAny (model prog w) A (setSearchFrom a (.ref b) ((tK prog w).hash (iK ns)) true fuel stand) Q E s
 |0,n,stand,_,_,⟨N,x1,x2,_⟩=>by lia
 |fuel+1,n,stand,e1,e2,⟨N,x1,x2,x3⟩=>by
  have v0:Va t.mask (it t.mask n (st t.mask ((tK prog w).hash (iK ns)))):=(Va.st _ _).it;have sp:=wx T.tb hs (λi=>(es[i]?.map (·.1)).getD 0) ((tK prog w).hash (iK ns)) v0;have at_:∀i,i<t.place.size->∃e,es[i]?=some e:=λi hi=>⟨es[i]'(by rw[<- T.len];exact hi),by simp[T.len▸hi]⟩;unfold setSearchFrom;refine bj (t8 ho hd (ua.fits T hs) ?_);dsimp only;have hg:t.gaveWay=false:=Ec T.tb.gD;rw[hg];simp only[dv,qB];rw[e1];have pre:∀{nn:Nat},(∀k,k<nn->∃i,∃hi:i<t.place.size,t.place[i]=(it t.mask k (it t.mask n (st t.mask ((tK prog w).hash (iK ns))))).j/\(es[i]?.map (·.1)).getD 0≠(tK prog w).hash (iK ns))->
   ∀k,k<n+nn->∃i e,∃hi:i<t.place.size,t.place[i]=(it t.mask k (st t.mask ((tK prog w).hash (iK ns)))).j/\es[i]?=some e/\∀c,e.2=.ref c->¬(tK prog w).is s.heap (iK ns) c:=by
   intro nn hb k hk';by_cases hkn:k<n
   .exact e2 k hkn
   .obtain⟨i,hi,q1,q2⟩:=hb (k-n) (by lia);obtain⟨e,he⟩:=at_ i hi;refine⟨i,e,hi,?_,he,λc hc his=>q2 ?_⟩
    .rw[q1,<- gm,show n+(k-n)=k by lia]
    .obtain⟨ms,c',rfl,his'⟩:=el e (wB he);have hc':c'=c:=by injection hc
     subst hc';rw[he];show(tK prog w).hash (iK ms)=_;rw[(tK prog w).inj his' his]
  generalize hq0:t.probe _ _ (it t.mask n (st t.mask ((tK prog w).hash (iK ns))))=pr;have hpr:t.probe (λi=>(es[i]?.map (·.1)).getD 0) ((tK prog w).hash (iK ns)) (it t.mask n (st t.mask ((tK prog w).hash (iK ns))))=pr:=hq0;rw[hpr]at sp;clear hpr hq0;cases sp with
  |em nn hem hb=>
   dsimp only;refine bY (h2 ?_ _ hem (v0.it).OV ?_)
   .intro e he c hc his;obtain⟨i,hi⟩:=cS.mp he;rw[jk]at hi;have hil:i<t.place.size:=by rw[T.len];exact(Gn.mp hi).1
    obtain⟨ms,c',rfl,his'⟩:=el e he;have hc':c'=c:=by injection hc
    subst hc';have ek:=(tK prog w).inj his' his;have hz:(t.place[i],((tK prog w).hash (iK ms),Value.ref c'))∈t.place.toList.zip es.toList:=cS.mpr ⟨i,by rw[PR];exact⟨by simp[hil],by rw[jk];exact hi⟩⟩;obtain⟨m,em,eb⟩:=T.JV _ hz;have em:(it t.mask m (st t.mask ((tK prog w).hash (iK ms)))).j=t.place[i]:=em;rw[ek]at em eb;have hm:m<n+nn:=by
     rcases Qb m (n+nn)with q|q|q
     .exact q
     .exfalso;refine hem ?_;show(it t.mask nn (it t.mask n _)).j∈t.place.toList;rw[<- gm,<- q,em];simp
     .exfalso;refine hem ?_;show(it t.mask nn (it t.mask n _)).j∈t.place.toList;rw[<- gm];exact eb _ q
    obtain⟨i',e',hi',q1,q2,q3⟩:=pre hb m hm;have hii:i'=i:=by
     have:t.place[i']=t.place[i]:=q1.trans em;rcases Qb i' i with q|q|q
     .have:=gA.mp T.tb.xx i' i (by simpa using hi') (by simpa using hil) q;simp at this;lia
     .exact q
     .have:=gA.mp T.tb.xx i i' (by simpa using hil) (by simpa using hi') q;simp at this;lia
    subst hii;rw[hi]at q2;cases q2;exact q3 c' rfl his
   .refine⟨n+nn,by rw[gm],λk hk'=>?_⟩;obtain⟨i,e,hi,q1,_⟩:=pre hb k hk';show _∈t.place.toList;rw[<- q1];simp
  |ca nn i hi hij hq hb=>
   dsimp only;obtain⟨e,he⟩:=at_ i hi;obtain⟨ms,c,rfl,his⟩:=el e (wB he);have rest:wpAny (model prog w) A (do
    let some (_,y):=es[i]?|unsupported "internal:set-entry"
    let equal <- holding [y] (eqBool y (.ref b))
    let (es',_,t') <- setState a
    if true&&equal then return SetFound.there none
    let some same:=t'.sameMemory t.moves t.mask|unsupported "set.changed-during-lookup:is-the-new-block-at-the-old-address"
    let still <- match(if same then t'.slot (it t.mask nn (it t.mask n (st t.mask ((tK prog w).hash (iK ns))))).j else .empty)with
     |.live i'=>match es'[i']? with
      |some (_,y')=>do pure (if <- isSame y' y then some i' else none)
      |none=>pure none
     |_=>pure none
    match still with
    |none=>rule "set.search.anew";setSearchFrom a (.ref b) ((tK prog w).hash (iK ns)) true fuel none
    |some i'=>if equal then return .there (some i')else setSearchFrom a (.ref b) ((tK prog w).hash (iK ns)) true fuel (some (it t.mask (nn+1) (it t.mask n (st t.mask ((tK prog w).hash (iK ns))))))) Q E s:=by
    rw[he];dsimp only;refine bj (qu ((tK prog w).eqBool hu his hk ?_));refine bj (t8 ho hd (ua.fits T hs) ?_);dsimp only;by_cases hkk:iK ms=iK ns
    .rw[io hkk];simp only[QP,PZ];exact bY (h1 ⟨_,wB he,c,rfl,by rw[<- hkk];exact his⟩)
    .rw[kW hkk];simp only[Bool.and_false,dv,qB];have hsm:t.sameMemory t.moves t.mask=some true:=by unfold SetTable.sameMemory;simp
     rw[hsm];dsimp only;rw[b_ rfl,<- hij,rk T.tb hi];dsimp only;rw[he];dsimp only;refine bj (wpAny_isSame_ref_self ?_);refine bj (bY ?_);rw[b_ rfl]
     try dsimp only
     refine rA ho hd T hs hu hk el h1 h2 fuel (n+(nn+1)) _ ?_ ?_ ⟨N,?_,?_,x3⟩
     .exact(gm t.mask n (nn+1) _).symm
     .intro k hk';by_cases hkn:k<n+nn
      .exact pre hb k hkn
      .have:k=n+nn:=by lia
       subst this;refine⟨i,_,hi,by rw[hij,gm],he,λc' hc' hh=>hkk ?_⟩;have:c=c':=by injection hc'
       subst this;exact(tK prog w).inj his hh
     .refine Gx λhc=>?_;have hN:N<n+(nn+1):=by lia
      by_cases hNn:N<n+nn
      .obtain⟨i',e',hi',q1,_⟩:=pre hb N hNn;exact x3 (by rw[<- q1];simp)
      .have:N=n+nn:=by lia
       subst this;exact x3 (by rw[gm,<- hij];simp)
     .lia
   split
   .refine bj (Hi hk ?_ ?_)
    .intro y hy;obtain⟨e',he',rfl⟩:=d7.mp hy;have he2:e'∈es.toList:=by have:=(Array.mem_toList_iff).mp he';rw[Array.mem_filter]at this;exact Array.mem_toList_iff.mpr this.1
     obtain⟨ms',c',rfl,his'⟩:=el e' he2;exact⟨ms',c',rfl,his'⟩
    .simp only[dv,qB];exact rest
   .exact rest
end
noncomputable def byT(w:World):Bool:=w.params.followText "set-order"
def SetAt(w:World)(h:Heap)(a:Addr)(es:Array (Int×Q0)):Prop:=∃o ep t,h.get? a=some o/\o.ExactSet/\o.data=.set es ep t/\ua t es/\rp t/\t.plain=true/\t.led=!byT w
def SetAt.keep(x:SetAt w h a es)(k:∀o,h.get? a=some o->h'.get? a=some o):SetAt w h' a es:=let ⟨o,ep,t,e,r⟩:=x;⟨o,ep,t,k o e,r⟩
def lS(h:rp t):t.place.size<=t.mask:=by unfold rp at h;lia
section
structure qx(es es':Array (Int×Q0)) (x:Int×Q0):Prop where
 mem:∀y,y∈es'.toList↔y=x\/y∈es.toList
 pw:∀R:Int×Q0->Int×Q0->Prop,(∀x y,R x y->R y x)->es.toList.Pairwise R->(∀e∈es.toList,R e x)->es'.toList.Pairwise R
 size:es'.size=es.size+1
def y8(es:Array (Int×Q0))(p:Nat)(x:Int×Q0)(hp:p<=es.size):qx es (SetTable.insertAt es p x) x:=by
 have e:=ST.insertAt_toList es p x hp;refine⟨λy=>?_,λR sy pw hx=>?_,ST.insertAt_size es p x hp⟩
 .rw[e,fD,cC];constructor
  .grind
  .rintro (rfl|z)
   .exact .inr (.inl rfl)
   .rw[<- O8 p es.toList,fD]at z;exact z.elim .inl λz=>.inr (.inr z)
 .rw[e,Qr];rw[<- O8 p es.toList,Qr]at pw;obtain⟨p1,p2,p3⟩:=pw;refine⟨p1,?_,?_⟩
  .rw[JF]
   grind
  .grind
def qx.laid(g:qx es es1 x)(l:Laid m es1 es2 t):qx es es2 x:=⟨λy=>(l.mem y).trans (g.mem y),λR sy pw hx=>l.pw R sy (g.pw R sy pw hx),by rw[l.size,g.size]⟩
def rB{ep:Nat}{t:SetTable}(es':Array (Int×Q0))(t':SetTable){h:Heap}(ho:h.get? a=some o)(hex:o.ExactSet)(hd:o.data=.set es ep t) :
 ∃o',(h.update a (Obj.putSet es' t')).get? a=some o'/\o'.ExactSet/\o'.data=.set es' (ep+1) t':=by
 have:=vW (Obj.putSet es' t') ho (by rw[putSet_of es' t' hd];rfl);rw[putSet_of es' t' hd]at this;exact⟨_,this,hex,rfl⟩
def wC{t:SetTable}(h:wu t.mask)(h1:n*5<t.mask*3)(h2:(n+1)*5>=t.mask*3)(h3:n+1<=300):∃m,SetTable.sizeAbove (SetTable.grown (n+1))=m+1/\wu m/\(n+1)*5<m*3:=by
 rcases h with e|e|e|e<;>rw[e]at h1 h2
 .have:n=4:=by lia
  subst this;exact⟨31,by decide,.inr (.inl rfl),by lia⟩
 .have:n=18:=by lia
  subst this;exact⟨127,by decide,.inr (.inr (.inl rfl)),by lia⟩
 .have:n=76:=by lia
  subst this;exact⟨511,by decide,.inr (.inr (.inr rfl)),by lia⟩
 .lia
def Bi{a:Addr}{o:Obj}{es:Array (Int×Q0)}{Q:Unit->QX->Prop}(ho:s.heap.get? a=some o)(hex:o.ExactSet)(hd:o.data=.set es ep t)(hf:t.fits es.size=true)(hm:wu m)(hn:SetTable.sizeAbove n=m+1)(hl:es.size*5<m*3)(hpl:t.plain=true)(hle:t.led=!byT w)
 (h:∀es' t',Laid m es es' t'->SetAt w (s.heap.update a (Obj.putSet es' t')) a es'->Q () {s with heap:=s.heap.update a (Obj.putSet es' t')}):wpAny (model prog w) A (setRelay a n) Q E s:=by
 have hmb:m<=511:=by rcases hm with rfl|rfl|rfl|rfl<;>lia
 unfold setRelay;refine bj (t8 ho hd hf ?_);dsimp only;rw[cF (by rw[hn,jY];lia)];obtain⟨t',order,e,L,hlp,hp⟩:=D_ hm es (by lia) t.finger (t.movedTo m) t.led t.plain;have er:t.relaid (es.map (·.1)) n=some (t',order):=by unfold SetTable.relaid;rw[hn];exact e
 rw[er];show wpAny _ _ (do
  let r <- (do
   if(order.filterMap (es[·]?)).size != es.size then unsupported "internal:set-table-lost-an-element"
   pure (order.filterMap (es[·]?),t'):Sem (Array (Int×Q0)×SetTable))
  storeSet a r.1 r.2) _ _ _
 refine bj ?_;rw[cF (by rw[L.size];simp)];refine bY ?_;refine wpAny_storeSet_of ho hd ?_ (by show(order.filterMap (es[·]?)).size<=_;rw[L.size,jY];lia);obtain⟨o',g1,g2,g3⟩:=rB (order.filterMap (es[·]?)) t' ho hex hd;refine h _ t' L ⟨o',_,t',g1,g2,g3,L.Di,?_,by rw[hp];exact hpl,by rw[hlp];exact hle⟩;unfold rp;rw[L.Di.len,L.size,L.mask];exact hl
end
section
def Bj(T:ua t es)(hs:t.place.size<=t.mask)(h:Int):∃N,N<100000/\(it t.mask N (st t.mask h)).j∉t.place.toList:=by
 obtain⟨j,hj,hn⟩:=o5 T.tb hs;obtain⟨N,h1,h2⟩:=FL T.tb.gD hj (Va.st t.mask h);refine⟨N,?_,by rw[h2];exact hn⟩;have:t.mask<=511:=by rcases T.tb.gD with e|e|e|e<;>rw[e]<;>lia
 unfold SetTable.turns at h1;lia
def Hj(hu:A.units<cLine)(hk:(tK prog w).is s.heap (iK ns) b)(hS:SetAt w s.heap a es)(el:Og prog w s.heap es)(hz:es.size+1<=300)
 (h1:∀tk,s.toks<=tk->(∃e∈es.toList,∃c,e.2=.ref c/\(tK prog w).is s.heap (iK ns) c)->Q false {s with toks:=tk})
 (h2:∀tk h' es',s.toks<=tk->(∀e∈es.toList,∀c,e.2=.ref c->¬(tK prog w).is s.heap (iK ns) c)->Heap.SameBut a s.heap h'->SetAt w h' a es'->qx es es' ((tK prog w).hash (iK ns),.ref b)->Q true {s with heap:=h',toks:=tk}) :
 wpAny (model prog w) A (setAdd a (.ref b)) Q E s:=by
 obtain⟨o,ep,t,ho,hex,hd,T,sp,hpl,hle⟩:=hS;have hf:=ua.fits T (lS sp);unfold setAdd;refine qu ?_;refine bj ((tK prog w).pyHash hu hk ?_);have htk:s.toks<=s.toks+(tK prog w).draws (iK ns):=Nat.le_add_right _ _;generalize s.toks+(tK prog w).draws (iK ns)=tk at htk;unfold setAddHashed setAddHashedIn;refine qu ?_;refine bj (t8 (s:={s with toks:=tk}) ho hd hf ?_);dsimp only;have hbs:byScan (.ref b) es=false:=by simp[byScan,Value.scannable]
 rw[hbs];simp only[dv,qB];unfold setSearch;obtain⟨N,n1,n2⟩:=Bj T (lS sp) ((tK prog w).hash (iK ns));refine bj (rA (s:={s with toks:=tk}) ho hd T (lS sp) hu hk el (λhin=>?_) (λhout j hj hjm hr=>?_) 100000 0 none rfl (λk hk'=>by lia) ⟨N,jT _,by lia,n2⟩)
 .exact bY (h1 tk htk hin)
 .dsimp only;refine bj (t8 (s:={s with toks:=tk}) ho hd hf ?_);dsimp only;obtain⟨T',em,ez⟩:=He T hj hjm (v:=Value.ref b) hr;have hpl':(t.put j).1.plain=true:=by rw[sI T.tb];exact hpl
  have hle':(t.put j).1.led=!byT w:=by rw[sI T.tb];exact hle
  rw[hpl'];simp only[PZ];refine bj (Hh (s:={s with toks:=tk}) hk ?_);simp only[PZ];have hp:(t.put j).2<=es.size:=by rw[xQ,<- T.len];exact(gn j T.tb.xx).1
  have g:=y8 es (t.put j).2 ((tK prog w).hash (iK ns),Value.ref b) hp;refine bj (wpAny_storeSet_of (s:={s with toks:=tk}) ho hd ?_ (by rw[g.size,jY];lia));obtain⟨o1,q1,q2,q3⟩:=rB (SetTable.insertAt es (t.put j).2 ((tK prog w).hash (iK ns),Value.ref b)) (t.put j).1 ho hex hd;have sb:=qV s.heap a (Obj.putSet (SetTable.insertAt es (t.put j).2 ((tK prog w).hash (iK ns),Value.ref b)) (t.put j).1);have fill:(t.put j).1.fill=es.size+1:=by unfold SetTable.fill;rw[T'.tb.MB,ez,T.len];rfl
  by_cases hfull:(t.put j).1.tooFull=true
  .rw[hfull];simp only[Bool.not_false,QP,PZ];unfold SetTable.tooFull at hfull;rw[fill,em]at hfull;have hfull:(es.size+1)*5>=t.mask*3:=by simpa using hfull
   have sp':es.size*5<t.mask*3:=by rw[<- T.len];exact sp
   obtain⟨m,m1,m2,m3⟩:=wC T.tb.gD sp' hfull hz;have le':(t.put j).1.place.size<=(t.put j).1.mask:=by
    rw[ez,em];unfold rp at sp;have:t.mask>=7:=by rcases T.tb.gD with e|e|e|e<;>rw[e]<;>lia
    lia
   refine bj (Bi (s:={s with heap:=s.heap.update a (Obj.putSet (SetTable.insertAt es (t.put j).2 ((tK prog w).hash (iK ns),Value.ref b)) (t.put j).1),toks:=tk}) q1 q2 q3 (ua.fits T' le') m2 m1 (by rw[g.size];exact m3) hpl' hle' λes' t' L sa=>?_);exact bY (h2 tk _ es' htk hout (sb.trans (qV _ a _)) sa (g.laid L))
  .have hfull:(t.put j).1.tooFull=false:=by simpa using hfull
   rw[hfull];simp only[Bool.and_false,dv,qB];refine bY (h2 tk _ _ htk hout sb ⟨o1,_,_,q1,q2,q3,T',?_,hpl',hle'⟩ g);unfold SetTable.tooFull at hfull;unfold rp;rw[fill]at hfull;rw[ez,T.len];simpa using hfull
end
noncomputable abbrev i_:=List Int×Addr
def Bk(h:iK a=iK b):a=b:=by
 induction a generalizing b with
 |nil=>cases b with
  |nil=>rfl
  |cons _ _=>cases h
 |cons x a ih=>cases b with
  |nil=>cases h
  |cons y b=>grind
section
variable{κ μ:Type}{x:κ×μ}
structure kA(ent:κ×μ->Int×Q0) (es:Array (Int×Q0)) (xs:List (κ×μ)):Prop where
 el:∀e∈es.toList,∃x∈xs,e=ent x
 sz:es.size<=xs.length
 pw:es.toList.Pairwise λe e'=>∀x x',e=ent x->e'=ent x'->x∈xs->x'∈xs->x.1≠x'.1
 all:∀x∈xs,∃y∈xs,y.1=x.1/\ent y∈es.toList
def FM(ent:κ×μ->Int×Q0)(xs:List (κ×μ)):Prop:=∀x∈xs,∀y∈xs,ent x=ent y->x.1=y.1
def kA.wide(v:kA ent es xs)(un:FM ent (xs++[x])):es.toList.Pairwise λe e'=>∀y y',e=ent y->e'=ent y'->y∈xs++[x]->y'∈xs++[x]->y.1≠y'.1:=by refine Pd (λ{a b} ha hb hab z z' e1 e2 m1 m2=>?_) v.pw;obtain⟨y,y1,rfl⟩:=v.el a ha;obtain⟨y',y1',rfl⟩:=v.el b hb;rw[un z m1 y (jX _ y1) e1.symm,un z' m2 y' (jX _ y1') e2.symm];exact hab y y' rfl rfl y1 y1'
def kA.seen(v:kA ent es xs)(hin:∃y∈xs,y.1=x.1)(un:FM ent (xs++[x])):kA ent es (xs++[x]):=by
 refine⟨λe he=>?_,?_,v.wide un,λy hy=>?_⟩
 .obtain⟨z,h1,h2⟩:=v.el e he;exact⟨z,jX _ h1,h2⟩
 .have:=v.sz;simp;lia
 .obtain⟨y',h1,h2⟩ : ∃z∈xs,z.1=y.1:=by
   rcases fD.mp hy with hy|hy
   .exact⟨y,hy,rfl⟩
   .rw[ip]at hy;subst hy;exact hin
  obtain⟨z,g1,g2,g3⟩:=v.all y' h1;exact⟨z,jX _ g1,g2.trans h2,g3⟩
def kA.new(v:kA ent es xs)(hin:¬∃y∈xs,y.1=x.1)(un:FM ent (xs++[x]))(g:qx es es' (ent x)):kA ent es' (xs++[x]):=by
 have hx:x∈xs++[x]:=jj _ (ip.mpr rfl);refine⟨λe he=>?_,?_,?_,λy hy=>?_⟩
 .rcases (g.mem e).mp he with rfl|he
  .exact⟨x,hx,rfl⟩
  .obtain⟨z,h1,h2⟩:=v.el e he;exact⟨z,jX _ h1,h2⟩
 .have:=v.sz;rw[g.size];simp;lia
 .refine g.pw _ (λa b hab z z' e1 e2 m1 m2 h=>hab z' z e2 e1 m2 m1 h.symm) (v.wide un) λe he z z' e1 e2 m1 m2 h=>?_;obtain⟨y,y1,rfl⟩:=v.el e he;exact hin ⟨y,y1,(un z m1 y (jX _ y1) e1.symm).symm.trans (h.trans (un z' m2 x hx e2.symm))⟩
 .rcases fD.mp hy with hy|hy
  .obtain⟨z,h1,h2,h3⟩:=v.all y hy;exact⟨z,jX _ h1,h2,(g.mem _).mpr (.inr h3)⟩
  .rw[ip]at hy;subst hy;exact⟨y,hx,rfl,(g.mem _).mpr (.inl rfl)⟩
end
section
variable{κ μ:Type}
def Bl(prog:QZ)(w:World)(A:Q1)(hb:Heap)(S:Addr)(ent:κ×μ->Int×Q0)(its:List (κ×μ)):Prop:=∀(x:κ×μ)(xs:List (κ×μ))(s:QX)(es:Array (Int×Q0))(Q:Bool->QX->Prop)(E:Q0->QX->Prop),x∈its->(∀y∈xs,y∈its)->(∀b o,hb.get? b=some o->s.heap.get? b=some o)->SetAt w s.heap S es->kA ent es xs->es.size+1<=300->
 (∀tk,s.toks<=tk->(∃y∈xs,y.1=x.1)->Q false {s with toks:=tk})->(∀tk h' es',s.toks<=tk->(¬∃y∈xs,y.1=x.1)->Heap.SameBut S s.heap h'->SetAt w h' S es'->qx es es' (ent x)->Q true {s with heap:=h',toks:=tk})->wpAny (model prog w) A (setAdd S (ent x).2) Q E s
variable{St:Nat->QX->Prop}
def mV(W:WalksS prog w A.in1 I fp wr G n P St)(S:Addr)(hSf:S∉fp)(hb:Heap)(hbS:hb.get? S=none)(hbw:∀b∈wr,hb.get? b=none)(its:List (κ×μ))(hn:its.length=n)
 (hval:∀i v,P i v->∃x,its[i]?=some x/\v=(ent x).2) (un:FM ent its) (add:Bl prog w A.in1 hb S ent its) (hz:n<=300) :
 ∀(k i:Nat)(s:QX)(es:Array (Int×Q0)),n-i=k->i<=n->St i s->(∀b o,hb.get? b=some o->s.heap.get? b=some o)->SetAt w s.heap S es->kA ent es (its.take i)->
  (∀s' es',Moved (S::wr) G s s'->SetAt w s'.heap S es'->kA ent es' its->R (.ok (.ret .none)) s')->
  codeAny (model prog w) A (.builtin "set.update.loop" ⟨[.ref S,.ref I],[]⟩) R s:=by
 have hSw:S∉wr:=λh=>hSf (W.sub _ h);have hsub:∀b∈wr,b∈S::wr:=λb hb=>cg _ hb;intro k;induction k with
 |zero=>
  intro i s es hk hi hst K hS v hR;have hin:i=n:=by lia
  subst hin;refine Pa PU ?_;rw[Qs vQ _];show wpAny _ A.in1 (pyNext (.ref I) >>= _) _ _ s;refine bj (W.done s _ _ hst λs' hm=>?_);rw[qm (by lia)]at v;have hR':=hR s' es (hm.mono hsub) (hS.keep λo e=>hm.heap S o hSw e) v;show wpAny _ A.in1 (ret Value.none) _ _ s';exact bY hR'
 |succ k ih=>
  intro i s es hk hi hst K hS v hR;have hlt:i<n:=by lia
  refine Pa PU ?_;rw[Qs vQ _];show wpAny _ A.in1 (pyNext (.ref I) >>= _) _ _ s;refine bj (W.item i s _ _ hlt hst λu s' hP hst' hm=>?_);obtain⟨x,hx,rfl⟩:=hval i u hP;have htk:its.take (i+1)=its.take i++[x]:=by rw[O1,hx];rfl
  have un':FM ent (its.take i++[x]):=by rw[<- htk];exact λy hy z hz=>un y (Dv hy) z (Dv hz)
  have K':∀b o,hb.get? b=some o->s'.heap.get? b=some o:=λb o e=>hm.heap b o (λz=>by rw[hbw b z]at e;cases e) (K b o e);have hS':=hS.keep λo e=>hm.heap S o hSw e;have hes:es.size+1<=300:=by have:=v.sz;rw[N0]at this;lia
  show wpAny _ A.in1 (holding [(ent x).2] (setAdd S (ent x).2) >>= _) _ _ s';refine bj (qu (add x (its.take i) s' es _ _ (kU hx) (λy hy=>Dv hy) K' hS' v hes (λtk htk' hin=>?_) λtk h' es' htk' hnin hsb hSn g=>?_))
  .refine bY ⟨plainId_quiet vQ _,ih (i+1) _ es (by lia) hlt (W.frame _ s' _ _ hst' htk' λb hb o e=>e) K' hS' (by rw[htk];exact v.seen hin un') λs'' es'' hm'' hS'' v''=>?_⟩;exact hR s'' es'' (Moved.trans W.gtrans ((hm.mono hsub).then_heap htk' λb o hb e=>e) hm'') hS'' v''
  .have K2:∀b o,hb.get? b=some o->h'.get? b=some o:=λb o e=>(hsb.2 b (λz=>by rw[z,hbS]at e;cases e)).trans (K' b o e);refine bY ⟨plainId_quiet vQ _,ih (i+1) _ es' (by lia) hlt (W.frame _ s' _ _ hst' htk' λb hb o e=>?_) K2 hSn (by rw[htk];exact v.new hnin un' g) λs'' es'' hm'' hS'' v''=>?_⟩
   .rw[hsb.2 b (λh:b=S=>hSf (h▸hb))];exact e
   .refine hR s'' es'' (Moved.trans W.gtrans ((hm.mono hsub).then_heap htk' λb o hb e=>?_) hm'') hS'' v'';rw[hsb.2 b (λh:b=S=>hb (h▸cE))];exact e
abbrev eT(prog:QZ)(w:World)(x:i_):Int×Q0:=((tK prog w).hash (iK x.1),Value.ref x.2)
def Ke(his:∀x∈its,(tK prog w).is hb (iK x.1) x.2):FM (eT prog w) its:=λx hx y hy e=>Bk ((tK prog w).inj (his x hx) (by
 have e:x.2=y.2:=by injection e with _ e;injection e
 rw[e];exact his y hy))
def Ed(hu:A.units<cLine)(his:∀x∈its,(tK prog w).is hb (iK x.1) x.2):Bl prog w A hb S (eT prog w) its:=λx xs s es Q E hx hs K hS v hz h1 h2=>by
 have hx':∀y∈xs,(tK prog w).is s.heap (iK y.1) y.2:=λy hy=>oh (his y (hs y hy)) K;refine Hj hu (oh (his x hx) K) hS (λe he=>?_) hz (λtk t hin=>h1 tk t ?_) λtk h' es' t hout sb sa g=>h2 tk h' es' t (λhin=>?_) sb sa g
 .obtain⟨y,hy,rfl⟩:=v.el e he;exact⟨_,_,rfl,hx' y hy⟩
 .obtain⟨e,he,c,hc,hh⟩:=hin;obtain⟨y,y1,rfl⟩:=v.el e he;injection hc with hc;subst hc;exact⟨y,y1,Bk ((tK prog w).inj (hx' y y1) hh)⟩
 .obtain⟨y,y1,y2⟩:=hin;obtain⟨z,z1,z2,z3⟩:=v.all y y1;exact hout _ z3 z.2 rfl (by rw[<- y2,<- z2];exact hx' z z1)
end
noncomputable abbrev setNew(led:Bool):Obj:={ cls:=.type "set",dict:=none,data:=.set #[] 0 (.fresh 0 0 led) }
def y9(e:h.get? a=some (setNew (!byT w))):SetAt w h a #[]:=by refine⟨_,0,_,e,⟨rfl,rfl,rfl⟩,rfl,⟨⟨.inl rfl,rfl,List.Pairwise.nil,λj hj=>nomatch hj⟩,rfl,λq hq=>nomatch hq⟩,?_,rfl,rfl⟩;show 0*5<7*3;decide
section
def qI(a:Q0)(h:Q₁ (.ref s.heap.objs.size) {s with heap:=s.heap.push (setNew (!byT w))}) :
 codeAny (model prog w) A (.call (.builtin "set.__new__") ⟨[.type "set",a],[]⟩) (wants Q₁ E) s:=by
 refine codeAny_of_tree (show wpAny _ A.in1 (do checkBuiltinCall "set.__new__" ⟨[.type "set",a],[]⟩;again (.builtin "set.__new__" ⟨[.type "set",a],[]⟩)) _ _ s from ?_);refine bj (wpAny_of_eq (PySem.F.newCall_set_1 a) (bY ⟨plainId_quiet PySem.F.plain_set_new _,Pa PySem.F.entry_set_new ?_⟩));rw[Qs PySem.F.plain_set_new _];unfold Builtin.«set.__new__» Builtin.Frozenset.newClass;have hsub:=sub_set_self;obtain⟨hp,g,d,tk,os⟩:=s;dsimp only;wp_walk;refine wpAny_askSetting (bY ?_);dsimp only;simp only[newObj];refine bj (wpAny_alloc (bY ?_));exact bY h
def y_{κ μ:Type}{ent:κ×μ->Int×Q0}{l:Addr}{items:Array Q0}{nl:Nat}{its:List (κ×μ)} {Q:Q0->QX->Prop} (hh:A.handled=none) (hl:s.heap.get? l=some { cls:=.type "list",data:=.seq items nl }) (hn:its.length=items.size) (hz:items.size<=300)
 (hval:∀(i:Nat)(v:Q0),items[i]?=some v->∃x,its[i]?=some x/\v=(ent x).2) (un:FM ent its) (add:Bl prog w A.in1.in1.in1 s.heap s.heap.objs.size ent its)
 (h:∀(h':Heap)(tk:Nat)(es:Array (Int×Q0)),SetAt w h' s.heap.objs.size es->kA ent es its->(∀b o,b<s.heap.objs.size->s.heap.get? b=some o->h'.get? b=some o)->Q (.ref s.heap.objs.size) {s with heap:=h',toks:=tk}) :
 wpAny (model prog w) A (call (.type "set") [.ref l]) Q E s:=by
 obtain⟨c,tl,hmro⟩:=PySem.F.called_set.mro;have hmade:=PySem.F.called_set.made;have hsub:=PySem.F.called_set.sub;refine QK (codeAny_of_tree ?_);show wpAny _ _ (callAny (.type "set") _) _ _ _;refine bY ⟨Code.quiet_builtin _ (by decide +kernel),Pa PySem.F.entry_type_call ?_⟩;rw[Around.under_plain (weight_type_call_type "set" [.ref l] []) rfl];have h1:=PySem.F.called_set.notType;have h2:=PySem.F.called_set.canCreate;have hct:=PySem.F.typeCall_set_1 (.ref l)
 repeat (any_goals (first|assumption|wp_step))
 refine P3 (qI (.ref l) (E:=E) (Q₁:=λobj s₁=>obj=.ref s.heap.objs.size/\s₁={s with heap:=s.heap.push (setNew (!byT w))}) ⟨rfl,rfl⟩) λr s₁ hr=>?_;rcases r with e|fl
 .exact hr
 cases fl with
 |ret obj=>
  obtain⟨rfl,rfl⟩:=hr;have hS:(s.heap.push (setNew (!byT w))).get? s.heap.objs.size=some (setNew (!byT w)):=cQ _ rfl;have hT:Shared.TypeIs {s with heap:=s.heap.push (setNew (!byT w))} (.ref s.heap.objs.size) "set":=⟨_,hS,rfl⟩;have hli:=PySem.F.called_set.init.lookup;have hbi:=PySem.F.called_set.init.bind (.ref s.heap.objs.size)
  repeat (any_goals (first|assumption|wp_step))
  refine P3 (Qp (R:=wants (λr s₂=>r=.none/\∃h' tk es,s₂={s with heap:=h',toks:=tk}/\SetAt w h' s.heap.objs.size es/\kA ent es its/\
   (∀b o,b<s.heap.objs.size->s.heap.get? b=some o->h'.get? b=some o)) E) PySem.F.called_set.init.plain PySem.F.entry_set_init (check_set_init_1 hT ?_)) λr₂ s₂ hr₂=>?_
  .have hol':(s.heap.push (setNew (!byT w))).get? l=some { cls:=.type "list",data:=.seq items nl }:=bE _ hl;have hsls:=PySem.F.sub_list_set;have hslf:=PySem.F.sub_list_frozenset;have hne:(Value.type "list"==Value.type "dict")=false:=by decide
   have hl1:(s.heap.push (setNew (!byT w))).IsList l items:=⟨_,hol',rfl,nl,rfl⟩;unfold Builtin.«set.__init__» noKeywords Builtin.Frozenset.updateFrom;generalize hPI:pyIter=PI
   wp_walk
   subst hPI;refine Qa hl1 (bj (wpAny_runValue ?_));have hlS:l<s.heap.objs.size:=cD hl;have hh3:A.in1.in1.in1.handled=none:=by simp[hh]
   have hneI:l≠(s.heap.push (setNew (!byT w))).objs.size:=by rw[Px];exact e_ (PJ hlS)
   have hno:∀b,s.heap.objs.size<=b->s.heap.get? b=none:=λb hb=>by
    cases q:s.heap.get? b with
    |none=>rfl
    |some o=>exact absurd (cD q) (Nat.not_lt.mpr hb)
   refine mV ((Walks.list hh3 _ l hneI items).toS) s.heap.objs.size ?hSf s.heap (hno _ (bK _)) ?hbw its hn hval un add hz (items.size-0) 0 _ #[] rfl (jT _) ⟨⟨_,cQ _ rfl,rfl,rfl⟩,(hl1.push _)⟩
    (λb o e=>bE _ (bE _ e)) (y9 (bE _ hS)) ⟨λe he=>(nomatch he),jT _,List.Pairwise.nil,λx hx=>(nomatch hx)⟩ ?hR
   case hSf=>rw[Px];simp only[cC,du,QW,not_or];exact⟨e_ (Ps _),QE hlS⟩
   case hbw=>intro b hb;simp only[cC,du,QW]at hb;subst hb;exact hno _ (by rw[Px];lia)
   case hR=>intro s' es hm hS' v;obtain⟨h',g',d',tk',os'⟩:=s';have eg:g'=s.gens:=hm.gens;have ed:d'=s.drawn:=hm.drawn;have eo:os'=s.os:=hm.os;subst eg ed eo;refine bY (bY ⟨rfl,h',tk',es,rfl,hS',v,λb o hb e=>hm.heap b o ?_ (bE _ (bE _ e))⟩);simp only[cC,du,QW,not_or];exact⟨e_ hb,by rw[Px];exact e_ (PJ hb)⟩
  .rcases r₂ with e|fl₂
   .exact hr₂
   cases fl₂ with
   |ret r=>
    obtain⟨rfl,h',tk,es,rfl,hS',v,hk'⟩:=hr₂
    repeat (any_goals (first|assumption|wp_step))
    exact h _ _ _ hS' v hk'
   |_=>exact hr₂.elim
 |_=>exact hr.elim
end
theorem o8{α:Type}:∀(l:List α)(i:Nat)(h:i<l.length),(l[i]::l.eraseIdx i).Perm l
 |[],i,h=>by simp at h
 |x::l,0,h=>O0 _
 |x::l,i+1,h=>by have ih:=o8 l i (by simpa using h);have e:(x::l).eraseIdx (i+1)=x::l.eraseIdx i:=rfl;rw[e,List.getElem_cons_succ];exact(List.Perm.swap _ _ _).trans (List.Perm.cons x ih)
theorem xS{α:Type}(next:Nat->Nat):∀(fuel k:Nat)(left:List α)(out:Array α),left.length=fuel->(pickOrder.go next fuel k left out).toList.Perm (out.toList++left)
 |0,k,left,out,h=>by have:left=[]:=Dp.mp h;subst this;unfold pickOrder.go;simp
 |f+1,k,left,out,h=>by have hi:next k%left.length<left.length:=QU _ (by lia);unfold pickOrder.go;rw[mJ hi];dsimp only;have ih:=xS next f (k+1) (left.eraseIdx (next k%left.length)) (out.push left[next k%left.length]) (by rw[List.length_eraseIdx,b_ hi];lia);refine ih.trans ?_;rw[Array.toList_push,Pe];exact List.Perm.append_left _ (o8 left _ hi)
def za{α:Type}(next:Nat->Nat)(xs:Array α):(pickOrder next xs).toList.Perm xs.toList:=by have:=xS next xs.size 0 xs.toList #[] (by simp);unfold pickOrder;simpa using this
def jz(w:World)(S:Addr)(ep:Nat)(es:Array (Int×Q0)):Array (Int×Q0):=if byT w then pickOrder (w.params.setOrder S ep) es else es
def uI(w:World)(S:Addr)(ep:Nat)(es:Array (Int×Q0)):(jz w S ep es).toList.Perm es.toList:=by
 unfold jz;split
 .exact za _ _
 .exact O0 _
def lU(w:World)(S:Addr)(ep:Nat)(es:Array (Int×Q0)):(jz w S ep es).size=es.size:=by have:=(uI w S ep es).length_eq;simpa using this
def dR(w:World)(t:SetTable):Nat->Nat
 |0=>0
 |i+1=>if byT w then 0 else t.place.getD i 0+1
def wD(T:Tb t):∀(i:Nat),i<=t.place.size->SetTable.below t.place (match i with|0=>0|i+1=>t.place.getD i 0+1)=i
 |0,_=>by
  obtain⟨a,b,c⟩:=gn 0 T.xx;dsimp only;rcases Nat.eq_zero_or_pos (SetTable.below t.place 0)with h|h
  .exact h
  .have:=b 0 (by lia) h;lia
 |i+1,hi=>by
  dsimp only;have e:t.place.getD i 0=t.place[i]:=by simp[Array.getD,show i<t.place.size by lia]
  rw[e];obtain⟨a,b,c⟩:=gn (t.place[i]+1) T.xx;rcases Qb (SetTable.below t.place (t.place[i]+1)) (i+1)with q|q|q
  .have h1:=c i (by lia) (by lia);lia
  .exact q
  .have h1:=b (i+1) (by lia) q;have h2:=gA.mp T.xx i (i+1) (by simp;lia) (by simp;lia) (by lia);simp at h2;lia
def slot_setiter_next:Slot "set_iterator" "__next__" "set_iterator.__next__":=.of (owner:="set_iterator") (n:="__next__") (by rw[typeLookup_type,builtinLookup_eq_fast];kernel_rfl) (by decide +kernel) (by decide +kernel) (by decide +kernel) (by first|exact .inl (by decide +kernel)|exact .inr (by decide +kernel)) (by rw[isSubtype_type];kernel_rfl)
def gp:entryFor table "set_iterator.__next__"=some Builtin.«set_iterator.__next__»:=entryFor_of_fast (by kernel_rfl)
def gH(a:Q0):argsOk "set_iterator.__next__" ⟨[a],[]⟩:=by(unfold argsOk;kernel_rfl)
def qJ:entryFor table "set.__iter__"=some Builtin.«frozenset.__iter__»:=entryFor_alias (id':="frozenset.__iter__") (by kernel_rfl) rfl (by decide +kernel) (by kernel_rfl)
def SetIt(h:Heap)(it S:Addr)(slot i n ep:Nat):Prop:=∃o,h.get? it=some o/\o.cls=.type "set_iterator"/\o.data=.fields #[.int slot 0,.int i 0,.ref S,.int n 0,.int ep 0]
def SetIt.typeIs{s:QX}{it S:Addr}{slot i n ep:Nat}(x:SetIt s.heap it S slot i n ep):s.TypeIs (.ref it) "set_iterator":=let ⟨o,ho,hc,_⟩:=x;⟨o,ho,hc⟩
def mW(h:Heap)(S:Addr)(es:Array (Int×Q0))(ep:Nat)(t:SetTable):Prop:=∃o,h.get? S=some o/\o.ExactSet/\o.data=.set es ep t
section
def wF(h:Q (byT w) s):wpAny (model prog w) A setsByText Q E s:=by unfold setsByText;exact bj (wpAny_askSetting (bY h))
def o9(r:mW s.heap S es ep t)(T:ua t es)(hs:t.place.size<=t.mask)(hpl:t.plain=true)(hle:t.led=!byT w)(hi:i<=es.size)
 (h:Q (((jz w S ep es)[i]?).map λe=>(e.2,dR w t (i+1))) s):wpAny (model prog w) A (setNext S (dR w t i) i ep) Q E s:=by
 obtain⟨o,ho,hex,hd⟩:=r;have hf:=ua.fits T hs;unfold setNext;refine bj (t8 ho hd hf ?_);dsimp only;refine bj (wF ?_);cases hb:byT w with
 |true=>
  simp only[PZ];rw[cF (by simp)];refine bj ?_;unfold setWalk;refine bj (t8 ho hd hf ?_);dsimp only;refine bj (wF ?_);rw[hb];simp only[PZ];refine bj (wpAny_askSetting (bY ?_));have e1:dR w t (i+1)=0:=by unfold dR;rw[hb];rfl
  have e2:dR w t i=0:=by cases i with|zero=>rfl|succ i=>(unfold dR;rw[hb];rfl)
  rw[e2];rw[e1]at h;unfold jz at h;rw[hb]at h;exact bY h
 |false=>
  simp only[dv,qB];rw[hb]at hle;have hle:t.led=true:=hle;show wpAny _ _ (if(!t.plain&&decide (es.size>1))=true then _ else _) _ _ _;rw[hpl];simp only[N6,QH,dv,qB];show wpAny _ _ ((if(!t.led&&!es.isEmpty)=true then unsupported "set:maker-not-led" else pure ()) >>= λ_=>_) _ _ _;rw[hle];simp only[N6,QH,dv,qB];refine bj (bY ?_);have e1:SetTable.below t.place (dR w t i)=i:=by
   have:=wD T.tb i (by rw[T.len];exact hi);cases i with
   |zero=>exact this
   |succ i=>unfold dR;rw[hb];exact this
  have eo:jz w S ep es=es:=by unfold jz;rw[hb];rfl
  rw[eo]at h;rw[e1];by_cases hlt:i<es.size
  .have g1:es[i]?=some es[i]:=by simp[hlt]
   have hp:i<t.place.size:=by rw[T.len];exact hlt
   have g2:t.place[i]?=some t.place[i]:=by simp[hp]
   rw[g1]at h;rw[g1,g2];have e2:dR w t (i+1)=t.place[i]+1:=by unfold dR;rw[hb];simp[Array.getD,hp]
   rw[e2]at h;exact bY h
  .have g1:es[i]?=none:=by simp;lia
   rw[g1]at h;rw[g1];exact bY h
end
def gI:Slot "set_iterator" "__iter__" "set_iterator.__iter__":=.of (owner:="set_iterator") (n:="__iter__") (by rw[typeLookup_type,builtinLookup_eq_fast];kernel_rfl) (by decide +kernel) (by decide +kernel) (by decide +kernel) (by first|exact .inl (by decide +kernel)|exact .inr (by decide +kernel)) (by rw[isSubtype_type];kernel_rfl)
def lb:entryFor table "set_iterator.__iter__"=some Builtin.«dict_keyiterator.__iter__»:=entryFor_alias (id':="dict_keyiterator.__iter__") (by kernel_rfl) rfl (by decide +kernel) (by kernel_rfl)
def lV(a:Q0):argsOk "set_iterator.__iter__" ⟨[a],[]⟩:=by(unfold argsOk;kernel_rfl)
section
def rC{it S:Addr}{slot i n ep:Nat}{P:PySem.Fin->QX->Prop}{F:Q0->QX->Prop}(ho:s.heap.get? it=some o)(hd:o.data=.fields #[.int slot 0,.int i 0,.ref S,.int n 0,.int ep 0])
 (r:mW s.heap S es ep t) (hf:t.fits es.size=true) (hn:n=es.size)
 (h:wpAny (model prog w) A (setNext S slot i ep) (λm s'=>match m with
   |some (x,next)=>wpAny (model prog w) A (do setField (.ref it) 0 (rawInt next);setField (.ref it) 1 (rawInt (i+1));ret x) P F s'
   |none=>wpAny (model prog w) A (do setField (.ref it) 2 .none;raiseNew (<- newExc (.type "StopIteration") [])) P F s') F s) :
 wpAny (model prog w) A (Builtin.«set_iterator.__next__» ⟨[.ref it],[]⟩) P F s:=by
 obtain⟨os,hos,hex,hds⟩:=r;unfold Builtin.«set_iterator.__next__» slotArgs;simp only[List.isEmpty_nil,N6,dv,qB,Qx,Qc];refine bj (bY ?_);refine bj (wpAny_fieldsOf ho hd ?_);dsimp only;refine bj ?_;unfold setEntries;refine bj (t8 hos hds hf (bY ?_));dsimp only;rw[cF (by rw[hn];simp)];simp only[QL];refine bj (mC h (λm s' hm=>?_) λ_ _ e=>e);cases m with
 |none=>exact hm
 |some p=>obtain⟨x,next⟩:=p;exact hm
def qK{it S:Addr}(hne:S≠it)(hh:A.handled=none){es:Array (Int×Q0)}{ep:Nat}{t:SetTable}(T:ua t es)(hs:t.place.size<=t.mask)(hpl:t.plain=true)(hle:t.led=!byT w) :
 Walks prog w A it [it,S] [it] es.size (λi v=>((jz w S ep es)[i]?).map (·.2)=some v) (λi h=>SetIt h it S (dR w t i) i es.size ep/\mW h S es ep t) where
 sub:=λb hb=>by simp at hb;simp[hb]
 frame:=λi h h' st hk=>by obtain⟨⟨o,h1,r1⟩,⟨o2,h2,r2⟩⟩:=st;exact⟨⟨o,hk it (by simp) o h1,r1⟩,⟨o2,hk S (by simp) o2 h2,r2⟩⟩
 item:=λi s Q E hi st hQ=>by
  obtain⟨x1,x2⟩:=st;have hT:=x1.typeIs;obtain⟨o,ho,hc,hd⟩:=x1;have x2':=x2;obtain⟨o2,ho2,hex2,hd2⟩:=x2;unfold pyNext;refine bj (wpAny_attempt (Pq (name:=Str.ofString "__next__") hT slot_setiter_next (vU slot_setiter_next hT gp ?_ (gH _))));refine rC ho hd x2' (ua.fits T hs) rfl (o9 x2' T hs hpl hle (by lia) ?_);have hio:i<(jz w S ep es).size:=by rw[lU];exact hi
  have e1:(jz w S ep es)[i]?=some (jz w S ep es)[i]:=by simp[hio]
  rw[e1];show wpAny _ _ _ _ _ _;refine bj (wpAny_setField ho hd (by simp) ?_);have d1:=Obj.data_mapFields hd (·.setIfInBounds 0 (rawInt ((dR w t (i+1):Nat):Int)));have ho1:=vW (Obj.mapFields (·.setIfInBounds 0 (rawInt ((dR w t (i+1):Nat):Int)))) ho (Obj.isFreed_of_fields d1);refine bj (wpAny_setField (s:={s with heap:=_}) ho1 d1 (by simp) ?_);have d2:=Obj.data_mapFields d1 (·.setIfInBounds 1 (rawInt ((i:Int)+1)));have ho3:=vW (Obj.mapFields (·.setIfInBounds 1 (rawInt ((i:Int)+1)))) ho1 (Obj.isFreed_of_fields d2);have sb:=(qV s.heap it (Obj.mapFields (·.setIfInBounds 0 (rawInt ((dR w t (i+1):Nat):Int))))).trans (qV _ it (Obj.mapFields (·.setIfInBounds 1 (rawInt ((i:Int)+1)))));refine bY ⟨_,rfl,bY ?_⟩;refine hQ _ _ s.toks (by rw[e1];rfl) ⟨⟨_,ho3,?_,?_⟩,o2,(sb.2 S hne).trans ho2,hex2,hd2⟩ (λb o hb e=>(sb.2 b (λz=>hb (by simp[z]))).trans e)
  .exact(Obj.cls_mapFields ..).trans ((Obj.cls_mapFields ..).trans hc)
  .rw[d2];simp[rawInt]
 done:=λs Q E st hQ=>by
  obtain⟨x1,x2⟩:=st;have hT:=x1.typeIs;obtain⟨o,ho,hc,hd⟩:=x1;unfold pyNext;refine bj (wpAny_attempt (Pq (name:=Str.ofString "__next__") hT slot_setiter_next (vU slot_setiter_next hT gp ?_ (gH _))));refine rC ho hd x2 (ua.fits T hs) rfl (o9 x2 T hs hpl hle (bK _) ?_);have e1:(jz w S ep es)[es.size]?=none:=by simp[lU]
  rw[e1];show wpAny _ _ _ _ _ _;refine bj (wpAny_setField ho hd (by simp) ?_);refine bj ?_;simp only[newExc,newTuple];refine bj (Gw ?_ (by size_fits));refine bj (m:=firstArgMember _ _) (wpAny_of_eq (a:=Value.none) (by first|rfl|(simp only[firstArgMember];rfl)) ?_);refine Gw ?_ (by size_fits);simp only[raiseNew];refine bj (wpAny_handled ?_);rw[show A.in1.handled=none from hh];refine bj (bY (wpAny_throw ?_));refine bj (wpAny_isInstance (T:="StopIteration") (b:=true) ⟨_,cQ _ rfl,rfl⟩ isSubtype_stop ?_);refine bY (hQ _ s.toks λb o hb e=>?_);exact bE _ (bE _ (((qV ..).2 b (λz=>hb (by simp[z]))).trans e))
 self:=λ_ _ _ _ st hQ=>by refine wpAny_pyIter_slot st.1.typeIs gI (vU gI st.1.typeIs lb ?_ (lV _));exact bY ⟨_,rfl,"set_iterator",_,st.1.typeIs,slot_setiter_next.lookup,hQ⟩
end
section
def wG(r:mW s.heap S es ep t)(hf:t.fits es.size=true)(hpl:t.plain=true)
 (h:Q (.ref s.heap.objs.size) { s with heap:=s.heap.push { cls:=.type "set_iterator",data:=.fields #[.int 0 0,.int 0 0,.ref S,.int es.size 0,.int ep 0] } }):wpAny (model prog w) A (pyIter (.ref S)) Q E s:=by
 obtain⟨o,ho,hex,hd⟩:=r;have hT:s.TypeIs (.ref S) "set":=⟨o,ho,hex.1⟩;refine wpAny_pyIter_slot hT PySem.F.slot_set_iter (vU PySem.F.slot_set_iter hT qJ ?_ (PySem.F.args_set_iter_1 _));unfold Builtin.«frozenset.__iter__» Builtin.Frozenset.slot0 slotArgs;simp only[List.isEmpty_nil,N6,dv,↓reduceIte,bind_assoc,Qx,Qc];unfold Builtin.Frozenset.addrOf Builtin.Frozenset.sizeOf setEntries;refine bj (bY (bj (bY ?_)));simp only[bind_assoc];refine bj (t8 ho hd hf (bj (bY (bj (bY ?_)))));refine bj ?_;unfold setDrawn;refine bj (t8 ho hd hf ?_);dsimp only;refine bj (wF (bY ?_));show wpAny _ _ (if(!byT w&&(!t.plain&&decide (es.size>1)))=true then _ else _) _ _ _;rw[hpl];simp only[N6,QH,Bool.and_false,dv,qB];refine bj (bY ?_);refine bj (wpAny_setEpoch_of ho hd hf ?_);exact bj (Gw (bY ⟨_,rfl,"set_iterator",_,⟨_,cQ _ rfl,rfl⟩,slot_setiter_next.lookup,h⟩))
def Bm(hT:s.TypeIs (.ref S) "set") (h:Q false s):wpAny (model prog w) A (Builtin.List.listLengthHint (.ref S)) Q E s:=by
 unfold Builtin.List.listLengthHint;refine bj (wpAny_specialOf hT PySem.F.slot_set_len.lookup ?_);dsimp only;have hsp:splitId "set.__len__"=some ("set","__len__"):=by decide +kernel
 rw[hsp];dsimp only;refine bj (wpAny_isInstance hT sub_set_self ?_);simp only[N6,dv,qB];rw[b_ (by decide +kernel)];refine bj (Qg hT ?_);exact bY h
def uJ(r:mW s.heap S es ep t)(T:ua t es)(hs:t.place.size<=t.mask)(hpl:t.plain=true)(hle:t.led=!byT w)(hh:A.handled=none)(hz:es.size<=300)
 (h:∀h' tk,s.heap.objs.size<h'.objs.size->(∀b o,s.heap.get? b=some o->h'.get? b=some o)->Q ((jz w S ep es).toList.map (·.2)) {s with heap:=h',toks:=tk}):wpAny (model prog w) A (collect (.ref S)) Q E s:=by
 have hf:=ua.fits T hs;obtain⟨o,ho,hex,hd⟩:=r;have hlt:S<s.heap.objs.size:=cD ho;unfold collect;refine bj (wpAny_runValue (Pa entry_proto_collect' (show wpAny _ _ (do again (.builtin "list.__iadd__" ⟨[<- newList [],.ref S],[]⟩)) _ _ s from ?_)));refine bj (wpAny_newList (bY ⟨Code.quiet_builtin _ (by decide +kernel),Pa entry_list_iadd' ?_⟩));show wpAny _ _ (Builtin.List.listExtendWith (.ref s.heap.objs.size) (.ref S) (.ref s.heap.objs.size)) _ _ { s with heap:=s.heap.push (seqObj "list" #[] 0) };have ho1:(s.heap.push (seqObj "list" #[] 0)).get? S=some o:=bE _ ho;have hT1:Shared.TypeIs { s with heap:=s.heap.push (seqObj "list" #[] 0) } (.ref S) "set":=⟨o,ho1,hex.1⟩;unfold Builtin.List.listExtendWith;refine bj (Qg hT1 ?_);have q1:Builtin.List.listSameRef (.ref s.heap.objs.size) (.ref S)=false:=by simp[Builtin.List.listSameRef,QE hlt]
 have q2:(Value.type "set"==Value.type "list")=false:=by decide
 have q3:(Value.type "set"==Value.type "tuple")=false:=by decide
 simp only[q1,q2,q3,Bool.or_false,dv,qB];refine bj (wG ⟨o,ho1,hex,hd⟩ hf hpl ?_);have hT2:Shared.TypeIs { s with heap:=(s.heap.push (seqObj "list" #[] 0)).push { cls:=.type "set_iterator",data:=.fields #[.int 0 0,.int 0 0,.ref S,.int es.size 0,.int ep 0] } } (.ref S) "set":=⟨o,bE _ ho1,hex.1⟩;refine bj (qu (Bm hT2 ?_));rw[b_ (by decide +kernel)];refine bj (wpAny_rule ?_);have hS0:((s.heap.push (seqObj "list" #[] 0)).push { cls:=.type "set_iterator",data:=.fields #[.int 0 0,.int 0 0,.ref S,.int es.size 0,.int ep 0] }).get? s.heap.objs.size=some (seqObj "list" #[] 0):=bE _ (cQ _ rfl);refine bj (show wpAny _ _ (updateSeq s.heap.objs.size (·.push .none) >>= λ_=>updateSeq s.heap.objs.size (·.pop)) _ _ _ from ?_);refine bj (wpAny_updateSeq hS0 rfl ?_);have hS1:=vW (Obj.mapSeq (·.push Value.none)) hS0 rfl;refine wpAny_updateSeq (hz:=by seq_fits) hS1 rfl ?_;have hS2:=vW (Obj.mapSeq (·.pop)) hS1 rfl;generalize hH:(((s.heap.push (seqObj "list" #[] 0)).push { cls:=.type "set_iterator",data:=.fields #[.int 0 0,.int 0 0,.ref S,.int es.size 0,.int ep 0] }).update s.heap.objs.size (Obj.mapSeq (·.push Value.none))).update s.heap.objs.size (Obj.mapSeq (·.pop))=H2 at *;have oth:∀b o,b≠s.heap.objs.size->((s.heap.push (seqObj "list" #[] 0)).push { cls:=.type "set_iterator",data:=.fields #[.int 0 0,.int 0 0,.ref S,.int es.size 0,.int ep 0] }).get? b=some o->H2.get? b=some o:=λb o hb e=>by rw[<- hH];exact(Gp _ _ (vG hb)).trans ((Gp _ _ (vG hb)).trans e)
 have old:∀b o,s.heap.get? b=some o->H2.get? b=some o:=λb o e=>oth b o (e_ (cD e)) (bE _ (bE _ e));have hsz1:(s.heap.push (seqObj "list" #[] 0)).objs.size=s.heap.objs.size+1:=size_push' _ _;have hit:H2.get? (s.heap.objs.size+1)=some { cls:=.type "set_iterator",data:=.fields #[.int 0 0,.int 0 0,.ref S,.int es.size 0,.int ep 0] }:=oth _ _ (by lia) (by rw[<- hsz1];exact cQ _ rfl);refine bY ⟨plainId_quiet PySem.F.plain_extend_loop _,?_⟩;show codeAny _ _ (.builtin "list.extend.loop" ⟨[.ref s.heap.objs.size,.ref (s.heap.push (seqObj "list" #[] 0)).objs.size,.ref s.heap.objs.size],[]⟩) _ _;rw[hsz1];have W:Walks prog w A.in1 (s.heap.objs.size+1) [s.heap.objs.size+1,S] [s.heap.objs.size+1] es.size (λi v=>((jz w S ep es)[i]?).map (·.2)=some v) (λi h=>SetIt h (s.heap.objs.size+1) S (dR w t i) i es.size ep/\mW h S es ep t):=qK (e_ (PJ hlt)) (by simp[hh]) T hs hpl hle;refine codeAny_extend_loopS W.toS (by rw[jY];lia) s.heap.objs.size (by simp only[cC,du,QW,not_or];exact⟨e_ (Ps _),QE hlt⟩) _ es.size 0 _ #[] _ rfl (jT _) ⟨⟨_,hit,rfl,rfl⟩,o,old S o ho,hex,hd⟩ (by rw[hS2];rfl) (ItemsOf.nil _) λs' acc c hm hS' hacc=>?_;obtain⟨h',g',d',tk',os'⟩:=s';have eg:g'=s.gens:=hm.gens;have ed:d'=s.drawn:=hm.drawn;have eo:os'=s.os:=hm.os;subst eg ed eo;refine bj (wpAny_load hS' ?_);have ea:acc.toList=(jz w S ep es).toList.map (·.2):=by
  apply Qd
  intro i;by_cases hi:i<acc.size
  .have e1:acc.toList[i]?=some acc[i]:=by rw[jk];simp[hi]
   have e2:=hacc.2 i acc[i] (by simp[hi]);rw[e1,iq,jk];exact e2.symm
  .rw[Jy (by simpa using Nat.le_of_not_lt hi),Jy];rw[cG,qU,lU,<- hacc.1];exact Nat.le_of_not_lt hi
 show wpAny _ _ (pure acc.toList) _ _ _;rw[ea];refine bY (h h' tk' (cD hS') λb o e=>hm.heap b o ?_ (old b o e));have:=cD e;simp only[cC,du,QW,not_or];exact⟨e_ this,e_ (PJ this)⟩
end
noncomputable def dS:List Int->List Int->Bool
 |[],[]=>false
 |[],_::_=>true
 |_::_,[]=>false
 |a::x,b::y=>if a=b then dS x y else decide (a<b)
theorem lW:∀a:List Int,dS a a=false
 |[]=>rfl
 |a::x=>by unfold dS;rw[b_ rfl];exact lW x
theorem sK:∀a b c:List Int,dS a b=true->dS b c=true->dS a c=true
 |[],[],_,h,_=>by cases h
 |[],_::_,[],_,h=>by cases h
 |[],_::_,_::_,_,_=>rfl
 |_::_,[],_,h,_=>by cases h
 |_::_,_::_,[],_,h=>by cases h
 |a::x,b::y,c::z,h1,h2=>by
  unfold dS at h1 h2 ⊢;by_cases e1:a=b
  .subst e1;rw[b_ rfl]at h1;by_cases e2:a=c
   .subst e2;rw[b_ rfl]at h2 ⊢;exact sK x y z h1 h2
   .rw[cF e2]at h2 ⊢;exact h2
  .grind
theorem sL:∀a b:List Int,a≠b->dS a b=true\/dS b a=true
 |[],[],h=>(h rfl).elim
 |[],_::_,_=>.inl rfl
 |_::_,[],_=>.inr rfl
 |a::x,b::y,h=>by
  unfold dS;by_cases e:a=b
  .subst e;rw[b_ rfl,b_ rfl];exact sL x y λz=>h (by rw[z])
  .grind
section
variable{prog:QZ}{w:World}{A:Q1}{s:QX}
theorem xT:∀{a b:List Int}{xs ys:List Q0}(i:Nat),ItemsAre (aJ prog w) (iK a) xs->ItemsAre (aJ prog w) (iK b) ys->Q (dS a b) s->PySem.W.KatLex prog w A true (decide (xs.length<ys.length)) Q (xs.zip ys) i s
 |[],[],_,_,i,hx,hy,h=>by cases hx;cases hy;exact h
 |[],_::_,_,_,i,hx,hy,h=>by
  cases hx;cases hy with
  |cons h1 h2=>exact PySem.W.kat_nil h
 |_::_,[],_,_,i,hx,hy,h=>by
  cases hy;cases hx with
  |cons h1 h2=>exact PySem.W.kat_nil h
 |a::x,b::y,_,_,i,hx,hy,h=>by
  cases hx with
  |@cons _ v1 _ vs1 h1 hx'=>
   cases hy with
   |@cons _ v2 _ vs2 h2 hy'=>
    obtain⟨t1,rfl⟩:=oj h1;obtain⟨t2,rfl⟩:=oj h2;rw[List.zip_cons_cons];refine PySem.W.kat_cons (wpAny_eqBool_int ?_);unfold dS at h;by_cases e:a=b
    .subst e;rw[b_ rfl]at h;rw[beq_self_eq_true];refine PySem.W.kat_yes ?_;have:=xT (i+1) hx' hy' h;simpa using this
    .rw[cF e]at h;have eb:(a==b)=false:=by grind
     rw[eb];refine PySem.W.kat_no ?_;cases i with
     |zero=>exact oneLt_int h
     |succ i=>exact PySem.W.kat_one _ _ (lt_int h)
structure qS(prog:QZ) (w:World) (h:Heap) (xs:List i_):Prop where
 is:∀x∈xs,(tK prog w).is h (iK x.1) x.2
 ne:∀x∈xs,x.1≠[]
 nd:(xs.map (·.1)).Nodup
noncomputable def valsT(xs:List i_):List Q0:=xs.map λx=>Value.ref x.2
noncomputable def gJ(xs:List i_)(i:Nat):List Int:=((xs[i]?).getD ([],0)).1
def Ee(t:qS prog w s.heap xs):Lt xs.length λi j=>dS (gJ xs i) (gJ xs j) where
 OX:=λi=>lW _
 tr:=λi j k=>sK _ _ _
 OW:=λi j hi hj e=>sL _ _ λz=>by
  have gi:gJ xs i=(xs.map (·.1))[i]'(by simpa using hi):=by simp[gJ,hi]
  have gj:gJ xs j=(xs.map (·.1))[j]'(by simpa using hj):=by simp[gJ,hj]
  rw[gi,gj]at z;rcases QG e with q|q
  .exact gA.mp t.nd i j (by simpa using hi) (by simpa using hj) q z
  .exact gA.mp t.nd j i (by simpa using hj) (by simpa using hi) q z.symm
def Bn(t:qS prog w s.heap xs):Ea xs.length (λi j=>dS (gJ xs i) (gJ xs j)) (PySem.W.kas_ask prog w A (tuples' true) (valsT xs)) s:=by intro i j C hi hj h;have one:∀k,k<xs.length->∃x,(valsT xs).getD k Value.none=.ref x.2/\gJ xs k=x.1/\x∈xs:=λk hk=>⟨xs[k],by simp[valsT,hk],by simp[gJ,hk],List.getElem_mem hk⟩;obtain⟨x,ex,kx,mx⟩:=one i hi;obtain⟨y,ey,ky,my⟩:=one j hj;unfold PySem.W.kas_ask;rw[ex,ey];obtain⟨ox,ix,nx,hx,cx,dx,lx⟩:=t.is x mx;obtain⟨oy,iy,ny,hy,cy,dy,ly⟩:=t.is y my;refine PySem.W.kat_lt hx dx hy dy ?_;have h:C (dS (gJ xs i) (gJ xs j)) s:=h;rw[kx,ky]at h;have:=xT (A:=A) 0 lx ly h;simpa using this
theorem uK:∀{xs:List i_},(∀x∈xs,(tK prog w).is h (iK x.1) x.2)->(∀x∈xs,x.1≠[])->∃fs:List Q0,PySem.W.KatTups h (valsT xs) fs/\fs.length=xs.length/\∀v∈fs,∃i t,v=Value.int i t
 |[],_,_=>⟨[],trivial,rfl,λv hv=>nomatch hv⟩
 |x::xs,h1,h2=>by
  obtain⟨fs,a,b,c⟩:=uK (λy hy=>h1 y (cg _ hy)) λy hy=>h2 y (cg _ hy);obtain⟨ox,ix,nx,hx,cx,dx,lx⟩:=h1 x cE;have hne:=h2 x cE;obtain⟨k,b'⟩:=x;dsimp only at hne lx hx;cases k with
  |nil=>exact(hne rfl).elim
  |cons n ns=>
   generalize hl:ix.toList=l at lx;cases lx with
   |@cons _ v _ vs q1 q2=>
    obtain⟨t,rfl⟩:=oj q1;refine⟨.int n t::fs,⟨⟨b',ox,ix,nx,rfl,hx,cx,dx,?_⟩,a⟩,by simp[b],λv hv=>?_⟩
    .rw[<- jk,hl];rfl
    .grind
def zb(t:qS prog w s.heap xs)(hne:0<xs.length)(h:Q (tuples' true) s):wpAny (model prog w) A (keyKind' (valsT xs).toArray) Q E s:=by
 obtain⟨fs,a,b,c⟩:=uK t.is t.ne;refine PySem.W.kat_kind (T:=.type "int") a (by lia) (λv hv=>?_) (by decide) ?_
 .obtain⟨i,t,rfl⟩:=c v hv;exact λA Q E s k q=>bY q
 .have:(Value.type "int" != Value.type "tuple")=true:=by decide
  rw[this];exact h
end
noncomputable def nY{α:Type}(d:α)(xs:List α)(i:Nat):α:=(xs[i]?).getD d
section
variable{α β:Type}
def o_(d:α)(xs:List α):(List.range xs.length).map (nY d xs)=xs:=by
 apply Qd
 intro i;rw[iq];by_cases h:i<xs.length
 .rw[List.getElem?_range h,mJ h];simp[nY,h]
 .rw[Jy (by grind),Jy (by grind)];rfl
def zc(d:α)(pm:Pm xs.length p):(p.toList.map (nY d xs)).Perm xs:=by have:=List.Perm.map (nY d xs) pm;rw[o_]at this;exact this
def Ef{r:α->α->Bool}(pm:Pm xs.length p)(so:So (λi j=>r (nY d xs i) (nY d xs j)) p xs.length):(p.toList.map (nY d xs)).Pairwise λx y=>r x y=true:=by
 rw[Pc,gA];intro i j hi hj hij;have hi':i<p.size:=by grind
 have hj':j<p.size:=by grind
 have:=so i j hij (by rw[<- pm.size];exact hj');dsimp only at this;have ei:dk p i=p.toList[i]:=by simp[dk,Array.getD,hi']
 have ej:dk p j=p.toList[j]:=by simp[dk,Array.getD,hj']
 rw[ei,ej]at this;exact this
def Bo{f:α->β}{e:β}(d:α)(pm:Pm xs.length p):(p.toList.map λi=>(xs.map f).getD i e)=(p.toList.map (nY d xs)).map f:=by rw[kg];refine vV λi hi=>?_;have hi:i<xs.length:=jl.mp (pm.mem_iff.mp hi);simp[nY,hi]
end
section
def qS.off(t:qS prog w h xs)(ho:h.get? a=some o)(hc:o.cls=.type "list") (k:∀b o,b≠a->h.get? b=some o->h'.get? b=some o):qS prog w h' xs:=by refine⟨λx hx=>?_,t.ne,t.nd⟩;obtain⟨ox,ix,nx,h1,c1,r⟩:=t.is x hx;refine⟨ox,ix,nx,k x.2 ox (λe=>?_) h1,c1,r⟩;rw[e,ho]at h1;cases h1;rw[hc]at c1;exact absurd c1 (by decide)
def Bp{a:Addr}{n:Nat}{vs:List Q0}{κ:SortKind}{lt:Nat->Nat->Bool}{P:PySem.Fin->QX->Prop}(ho:s.heap.get? a=some (seqObj "list" vs.toArray n)) (h64:vs.length<64)
 (hk:∀H,(∀b o,b≠a->s.heap.get? b=some o->H.get? b=some o)->2<=vs.length->(∀Q,Q κ {s with heap:=H}->wpAny (model prog w) A (keyKind' vs.toArray) Q E {s with heap:=H})/\Lt vs.length lt/\Ea vs.length lt (PySem.W.kas_ask prog w A κ vs) {s with heap:=H})
 (h:∀p h' c,Pm vs.length p->So lt p vs.length->h'.get? a=some (seqObj "list" (p.toList.map λi=>vs.getD i Value.none).toArray c)->(∀b o,b≠a->s.heap.get? b=some o->h'.get? b=some o)->P (.done (.ret .none)) {s with heap:=h'}) :
 wpAny (model prog w) A (Builtin.«list.sort» ⟨[.ref a],[]⟩) P E s:=by
 rw[list_sort_plain];refine bj (listItems_at ho rfl (bj (listUpdate_at ho rfl ?_ (by rw[cP,jY];lia) (jT _))));obtain⟨e1,ho1⟩ : ∃e1,(s.heap.update a (Obj.mapSeq λ_=>#[])).get? a=some (seqObj "list" #[] e1):=⟨_,get?_update_seq ho (λ_=>#[])⟩;refine bj (seqEpoch_at ho1 rfl (bj (wpAny_newTuple (bj (wpAny_newList (qu ?_) (jT _))) (by show vs.length<=_;rw[jY];lia))));have oth:∀b o,b≠a->s.heap.get? b=some o->(((s.heap.update a (Obj.mapSeq λ_=>(#[]:Array Q0))).push (seqObj "tuple" vs.toArray 0)).push (seqObj "list" #[] 0)).get? b=some o:=λb o hb e=>bE _ (bE _ ((Gp _ _ (vG hb)).trans e));have ho6:(((s.heap.update a (Obj.mapSeq λ_=>(#[]:Array Q0))).push (seqObj "tuple" vs.toArray 0)).push (seqObj "list" #[] 0)).get? a=some (seqObj "list" #[] e1):=bE _ (bE _ ho1);show wpAny (model prog w) A _ P E { s with heap:=((s.heap.update a (Obj.mapSeq λ_=>(#[]:Array Q0))).push (seqObj "tuple" vs.toArray 0)).push (seqObj "list" #[] 0) };generalize(((s.heap.update a (Obj.mapSeq λ_=>(#[]:Array Q0))).push (seqObj "tuple" vs.toArray 0)).push (seqObj "list" #[] 0))=H6 at ho6 oth;dsimp only;have fin:∀(p:Array Nat)(out:Array Q0),Pm vs.length p->So lt p vs.length->out=(p.toList.map λi=>vs.getD i Value.none).toArray->P (.done (.ret .none)) {s with heap:=H6.update a (Obj.mapSeq λ_=>out)}:=λp out hp hw ho=>by subst ho;exact h p _ _ hp hw (get?_update_seq ho6 λ_=>(p.toList.map λi=>vs.getD i Value.none).toArray) λb o hb e=>(Gp _ _ (vG hb)).trans (oth b o hb e)
 by_cases h2:vs.toArray.size<2
 .rw[b_ h2,b_ h2];refine bj (bY ?_);rw[StateT.run_pure];have hx2:vs.length<2:=by grind
  have hout:Array.map (λx:Keyed=>x.2) (vs.toArray.zip vs.toArray)=vs.toArray:=by apply Array.ext';simp[List.map_snd_zip]
  refine bj (bY ?_);dsimp only;refine bj (seqEpoch_at ho6 rfl (bj (listUpdate_at ho6 rfl ?_ (jT _) ?_)))
  .simp only[Qc,dv,qB];refine bY (fin (List.range vs.length).toArray _ (O0 _) (λa b h1 h2=>by lia) (hout.trans ?_));rw[show(λi=>vs.getD i Value.none)=nY Value.none vs from funext λi=>by simp[nY]];show _=(List.map _ (List.range vs.length)).toArray;rw[o_]
  .show(Array.map (λx:Keyed=>x.2) (vs.toArray.zip vs.toArray)).size<=_;rw[hout,cP,jY];lia
 .rw[cF h2,cF h2];have hx2:2<=vs.length:=by grind
  obtain⟨k1,k2,k3⟩:=hk H6 oth hx2;refine bj (k1 _ ?_);refine bj (mC (PySem.W.kat_run (s:={s with heap:=H6}) (Q:=λst' s'=>s'={s with heap:=H6}/\∃p:Array Nat,Pm vs.length p/\So lt p vs.length/\arrOf st'=p.map (PySem.W.kas_item (vs.toArray.zip vs.toArray))/\failedOf st'=none)
   (G:=λp s'=>s'={s with heap:=H6}/\Pm vs.length p/\So lt p vs.length) rfl (by lia) (by lia) (λp st' s' _ a2 a3 g=>⟨g.1,p,g.2.1,g.2.2,a2,a3⟩) ?_) ?_ λ_ _ e=>e)
  .exact Eb k2 k3 hx2 λp pm so=>⟨rfl,pm,so⟩
  .rintro⟨⟨⟩,st'⟩ s' ⟨rfl,p,pm,so,har,hf⟩;dsimp only;rw[PySem.W.kat_snds rfl har];refine bj (seqEpoch_at ho6 rfl (bj (listUpdate_at ho6 rfl ?_ (jT _) ?_)))
   .rw[hf];simp only[Qc,dv,qB];exact bY (fin _ _ pm so rfl)
   .have:=pm.size;simp[this];rw[jY];lia
def zd(ho:s.heap.get? a=some (seqObj "list" (valsT xs).toArray n)) (t:qS prog w s.heap xs) (h64:xs.length<64)
 (h:∀ys h' c,ys.Perm xs->ys.Pairwise (λx y=>dS x.1 y.1=true)->h'.get? a=some (seqObj "list" (valsT ys).toArray c)->(∀b o,b≠a->s.heap.get? b=some o->h'.get? b=some o)->P (.done (.ret .none)) {s with heap:=h'}) :
 wpAny (model prog w) A (Builtin.«list.sort» ⟨[.ref a],[]⟩) P E s:=by
 have hvl:(valsT xs).length=xs.length:=by simp[valsT]
 refine Bp (κ:=tuples' true) (lt:=λi j=>dS (gJ xs i) (gJ xs j)) ho (by lia) (λH oth h2=>?_) λp h' c pm so e k=>?_
 .have t6:qS prog w H xs:=t.off ho rfl oth;rw[hvl];exact⟨λQ q=>zb (s:={s with heap:=H}) t6 (by lia) q,Ee (s:={s with heap:=H}) t6,Bn (s:={s with heap:=H}) t6⟩
 .rw[hvl]at pm so;exact h (p.toList.map (nY ([],0) xs)) h' c (zc _ pm) (Ef (r:=λx y=>dS x.1 y.1) pm so) (by rw[e];unfold valsT;rw[Bo ([],0) pm]) k
def lX(prog:QZ)(w:World)(N:Nat):Prop:=∀(A:Q1)(E:Q0->QX->Prop)(s:QX)(a:Addr)(n:Nat)(xs:List i_)(P:PySem.Fin->QX->Prop),s.heap.get? a=some (seqObj "list" (valsT xs).toArray n)->qS prog w s.heap xs->xs.length<=N->
 (∀ys h' c,ys.Perm xs->ys.Pairwise (λx y=>dS x.1 y.1=true)->h'.get? a=some (seqObj "list" (valsT ys).toArray c)->(∀b o,b≠a->s.heap.get? b=some o->h'.get? b=some o)->P (.done (.ret .none)) {s with heap:=h'})->wpAny (model prog w) A (Builtin.«list.sort» ⟨[.ref a],[]⟩) P E s
def xU:lX prog w 63:=λ_ _ _ _ _ _ _ ho t hz h=>zd ho t (by lia) h
end
section
variable{κ μ:Type}{its:List (κ×μ)}
theorem uL:∀(l:List (Int×Q0)),(∀e∈l,∃x∈its,e=ent x)->∃zs:List (κ×μ),l=zs.map ent/\∀z∈zs,z∈its
 |[],_=>⟨[],rfl,λz hz=>nomatch hz⟩
 |e::l,h=>by
  obtain⟨x,hx,rfl⟩:=h e cE;obtain⟨zs,h1,h2⟩:=uL l λe he=>h e (cg _ he);exact⟨x::zs,by rw[h1];rfl,λz hz=>by
   rcases cC.mp hz with rfl|hz
   .exact hx
   .exact h2 z hz⟩
structure vT(lt:κ->κ->Prop) (its ys:List (κ×μ)):Prop where
 sub:∀y∈ys,y∈its
 all:∀x∈its,∃y∈ys,y.1=x.1
 pw:ys.Pairwise λx y=>lt x.1 y.1
def Hk(prog:QZ)(w:World)(hb:Heap)(ent:κ×μ->Int×Q0)(lt:κ->κ->Prop)(its:List (κ×μ)) (N:Nat):Prop:=∀(A:Q1)(E:Q0->QX->Prop)(s:QX)(a:Addr)(n:Nat)(zs:List (κ×μ))(P:PySem.Fin->QX->Prop),(∀b o,hb.get? b=some o->s.heap.get? b=some o)->s.heap.get? a=some (seqObj "list" (zs.map λz=>(ent z).2).toArray n)->(∀z∈zs,z∈its)->(zs.map (·.1)).Nodup->zs.length<=N->
 (∀(ys:List (κ×μ)) h' c,ys.Perm zs->ys.Pairwise (λx y=>lt x.1 y.1)->h'.get? a=some (seqObj "list" (ys.map λz=>(ent z).2).toArray c)->(∀b o,b≠a->s.heap.get? b=some o->h'.get? b=some o)->P (.done (.ret .none)) {s with heap:=h'})->wpAny (model prog w) A (Builtin.«list.sort» ⟨[.ref a],[]⟩) P E s
def sM(sa:SetAt w s.heap S es)(v:kA ent es its)(un:FM ent its)(hh:A.handled=none)(hN:N<=300)(hs:Hk prog w s.heap ent lt its N)(hz:its.length<=N)
 (h:∀(ys:List (κ×μ)) h' tk l c,vT lt its ys->ys.length<=N->s.heap.objs.size<=l->h'.get? l=some (seqObj "list" (ys.map λz=>(ent z).2).toArray c)->(∀b o,s.heap.get? b=some o->h'.get? b=some o)->Q (.ref l) {s with heap:=h',toks:=tk}) :
 wpAny (model prog w) A (call (.builtin "sorted") [.ref S]) Q E s:=by
 obtain⟨o,ep,t,ho,hex,hd,T,sp,hpl,hle⟩:=sa;have pe:=uI w S ep es;have hes:=v.sz;obtain⟨zs,ez,zm⟩:=uL (ent:=ent) (its:=its) (jz w S ep es).toList λe he=>v.el e (pe.mem_iff.mp he);have ev:(jz w S ep es).toList.map (·.2)=zs.map λz=>(ent z).2:=by rw[ez,kg];rfl
 have hzl:zs.length=es.size:=by have:=Pp List.length ez;rw[cG,qU,lU]at this;exact this.symm
 have nd:(zs.map (·.1)).Nodup:=by have pw:=(pe.pairwise_iff (λ{x y} hxy a b e1 e2 m1 m2 z=>hxy b a e2 e1 m2 m1 z.symm)).mpr v.pw;rw[ez,Pc]at pw;unfold List.Nodup;rw[Pc];exact Pd (λ{a b} ha hb hab=>hab a b rfl rfl (zm a ha) (zm b hb)) pw
 refine Calls.call_function_entry kind_sorted plain_sorted entry_sorted (args_sorted1 _) ?_;unfold Builtin.«sorted»;refine bj (m:=checkCount "sorted" 1 1 _) (bY (bj (uJ ⟨o,ho,hex,hd⟩ T (lS sp) hpl hle (by simp[hh]) (by lia) λh1 tk1 g1 k1=>?_)));rw[ev];refine bj (wpAny_newList ?_ (by rw[cG,hzl,jY];lia));have hoL:(h1.push (seqObj "list" (zs.map λz=>(ent z).2).toArray 0)).get? h1.objs.size=some (seqObj "list" (zs.map λz=>(ent z).2).toArray 0):=cQ _ rfl;have kk:∀b o,s.heap.get? b=some o->(h1.push (seqObj "list" (zs.map λz=>(ent z).2).toArray 0)).get? b=some o:=λb o e=>bE _ (k1 b o e);have ge:s.heap.objs.size<=h1.objs.size:=Qe g1;refine bj (qu (vU slot_list_sort ⟨_,hoL,rfl⟩ entry_list_sort (hs _ _ { s with heap:=h1.push (seqObj "list" (zs.map λz=>(ent z).2).toArray 0),toks:=tk1 } _ _ zs _ kk hoL zm nd (by lia) λys h2 c2 hp hw hl2 k2=>⟨_,rfl,?_⟩) (args_list_sort _)));refine bY ⟨_,rfl,h ys h2 tk1 _ c2 ⟨λy hy=>zm y (hp.mem_iff.mp hy),λx hx=>?_,hw⟩ (by rw[hp.length_eq];lia) ge hl2 λb o e=>k2 b o (λz=>?_) (kk b o e)⟩
 .obtain⟨y,y1,y2,y3⟩:=v.all x hx;have y4:=pe.mem_iff.mpr y3;rw[ez]at y4;obtain⟨z,z1,z2⟩:=d7.mp y4;exact⟨z,hp.mem_iff.mpr z1,(un z (zm z z1) y y1 z2).trans y2⟩
 .subst z;exact absurd (cD e) (Nat.not_lt.mpr ge)
end
def TupsIn(H:Hp):List V->List i_->Prop:=Paired λv x=>v=.ref x.2/\H x.2=some (.tup ((iK x.1).map kV))
theorem TupsIn.get(t:TupsIn H vs its)(rv:Vals vs us):its.length=us.length/\(∀(i:Nat)(v:Q0),us[i]?=some v->∃x:i_,its[i]?=some x/\v=.ref x.2)/\∀x∈its,H x.2=some (.tup ((iK x.1).map kV)):=by
 unfold TupsIn at t;induction t generalizing us with
 |nil=>cases rv;exact⟨rfl,λi v e=>by simp at e,λx hx=>nomatch hx⟩
 |@cons v y vs its q t ih=>
  cases rv with
  |@cons _ u _ us r s=>
   obtain⟨a,b,c⟩:=ih s;obtain⟨rfl,q⟩:=q;obtain rfl:u=Value.ref y.2:=r;refine⟨by simp[a],λi v e=>?_,λx hx=>?_⟩
   .cases i with
    |zero=>simp at e;exact⟨y,rfl,e.symm⟩
    |succ i=>exact b i v e
   .rcases cC.mp hx with rfl|hx
    .exact q
    .exact c x hx
section
def ze(hc:X.calm=true)(hu:X.A.units+64<cLine):CallR X (.type "set") (λxs H Q=>∃l vs its,xs=[.ref l]/\Rd H l (.lst vs)/\TupsIn H vs its/\vs.length<=300/\
 ∀p es,H p=none->kA (eT X.prog X.w) es its->Q (.ref p) (aY H p (.ext λh=>SetAt X.w h p es))):=by
 intro aa s σ H xs us Q I r h;obtain⟨l,vs,its,rfl,hl,hp,hz,q⟩:=h;obtain⟨u,rfl,ru⟩:=gF r;obtain rfl:u=Value.ref l:=ru;obtain⟨_,us,n,rv,hg⟩:=(show ObjOk X.prog X.w H s.heap l (.lst vs)from hl.ok I.aZ);obtain⟨g1,g2,g3⟩:=hp.get rv;have his:=λx hx=>iF I.aZ (g3 x hx);refine y_ (ent:=eT X.prog X.w) (I.ok.hd hc) hg (its:=its) (by grind) (by rw[cP,<- rv.length];exact hz) (λi v e=>g2 i v (by grind)) (Ke his) (Ed (by show X.A.units+1+1+1<cLine;lia) his) λh' tk es hS v hk=>?_;have hf:H s.heap.objs.size=none:=I.aZ.fresh (bK _);refine⟨.ref s.heap.objs.size,_,I.laid (a:=s.heap.objs.size) (o:=.ext λh=>SetAt X.w h s.heap.objs.size es) (t':=tk) (λb o e=>hk b o (cD e) e) (bK _) ?_,rfl,q _ es hf v⟩;exact⟨hS,(let ⟨o,_,_,e,_⟩:=hS;⟨o,e⟩),λh1 h2 hs k=>SetAt.keep hs k⟩
def sN(hc:X.calm=true)(hN:N<=300)(hs:lX X.prog X.w N):CallR X (.builtin "sorted") (λxs H Q=>∃p es its,xs=[.ref p]/\H p=some (.ext λh=>SetAt X.w h p es)/\kA (eT X.prog X.w) es its/\(∀x∈its,H x.2=some (.tup ((iK x.1).map kV)))/\(∀x∈its,x.1≠[])/\its.length<=N/\
 ∀l ys,H l=none->vT (λx y=>dS x y=true) its ys->Q (.ref l) (aY H l (.lst (ys.map λy=>.ref y.2)))):=by
 intro aa s σ H xs us Q I r h;obtain⟨p,es,its,rfl,hp,v,ht,hne,hz,q⟩:=h;obtain⟨u,rfl,ru⟩:=gF r;obtain rfl:u=Value.ref p:=ru;obtain⟨hS,_,_⟩:=(show ObjOk X.prog X.w H s.heap p (.ext λh=>SetAt X.w h p es)from I.aZ p _ hp);have his:=λx hx=>iF I.aZ (ht x hx);refine sM hS v (Ke his) (I.ok.hd hc) hN (lt:=λx y=>dS x y=true) (λA E s a n zs P kk ho zm nd hz h=>hs A E s a n zs P ho ⟨λx hx=>oh (his x (zm x hx)) kk,λx hx=>hne x (zm x hx),nd⟩ hz h) hz λys h' tk l c so hyl hle hl hk=>?_;refine⟨.ref l,_,I.laid (a:=l) (o:=.lst (ys.map λy=>.ref y.2)) (t':=tk) hk hle ⟨by rw[cG,jY];lia,_,c,?_,hl⟩,rfl,q l ys (I.aZ.fresh hle) so⟩;clear so hl hyl;induction ys with
 |nil=>exact .nil
 |cons y ys ih=>exact .cons rfl ih
end
end L2
namespace L2
open PySem PySem.Spec PySem.Calls PyProof.Rows
section
def Hl{k:List cJ}{dflt:Q0}{Q:Q0->QX->Prop}(hu:A.units<cLine)(lB:(tK prog w).is s.heap k a)(hm:s.heap.DictOfH (tK prog w) d xs)(hsz:xs.length<=sizeLine)
 (h1:∀p,atKey xs k=some p->Q p.2 {s with toks:=s.toks+(tK prog w).draws k})
 (h2:atKey xs k=none->∀h',h'.DictOfH (tK prog w) d (storedH xs k a dflt)->Heap.SameBut d s.heap h'->Q dflt {s with heap:=h',toks:=s.toks+(tK prog w).draws k}):wpAny (model prog w) A (dictSetDefault d (.ref a) dflt) Q E s:=by
 obtain⟨o,es,ep,ho,hc,hd,he,his,hn⟩:=hm;unfold dictSetDefault
 try with_reducible refine qu ?_
 refine bj ((tK prog w).pyHash hu lB (bj (wpAny_dictFind_heap (knd:=tK prog w) (s:={s with toks:=s.toks+(tK prog w).draws k}) hu lB ho hd he his hn (λhno=>?_) λj p hj=>?_)))
 .have hnone:=atKey_none_of_get hno;have hnot:k∉xs.map (·.1):=not_mem_keys_of_get hno;refine bj (wpAny_rule (bj (wpAny_updateDictKeys (hz:=by have e:=size_of_entries he;lia) (s:={s with toks:=s.toks+(tK prog w).draws k}) ho hd (bY (h2 hnone _ ⟨_,_,ep+1,vW _ ho (Obj.isFreed_of_dict (PP hd _)),hc.mapDictKeys _,PP hd _,?_,?_,?_⟩ (qV ..))))))
  .rw[storedH_new hnone];simp[he,entryOfKey]
  .rw[storedH_new hnone];intro x hx;rcases fD.mp hx with hx|hx
   .exact(tK prog w).keeps (his x hx) ho hd (qV ..)
   .obtain rfl:=ip.mp hx;exact(tK prog w).keeps lB ho hd (qV ..)
  .rw[storedH_new hnone,Do,Pb];exact⟨hn,by simp,λx hx y hy e=>by simp only[dz,Pk,ip]at hy;subst hy;exact hnot (e▸hx)⟩
 .refine bj (wpAny_dictEntries (s:={s with toks:=s.toks+(tK prog w).draws k}) ho hd ?_);rw[entry_at he j,hj];exact bj (wpAny_rule (bY (h1 p (atKey_of_get hn hj))))
end
section
def Eg:V->List V->Hp->VK->Prop:=λx xs H Q=>∃a b k y kvs,x=.ref a/\xs=[.ref b,y]/\H b=some (.tup (k.map kV))/\H a=some (.dT kvs)/\kvs.length<sizeLine/\
 ((∃v,d_ kvs k=some v/\Q v H)\/(d_ kvs k=none/\Q y (aY H a (.dT (dn kvs k y)))))
def rD(hu:X.A.units+64<cLine):G2 X "dict.setdefault" Eg:=by
 intro aa s σ H x xs v us Q I rx rs q;obtain⟨a,b,k,y,kvs,rfl,rfl,hb,ha,hz,q⟩:=q;obtain rfl:v=Value.ref a:=rx;obtain⟨u1,u2,rfl,ru1,ru2⟩:=ur rs;obtain rfl:u1=Value.ref b:=ru1;obtain⟨z1,y1,vs,r1,d1⟩:=FH I.aZ ha;have lB:=iF I.aZ hb;have hT:Shared.TypeIs s (.ref a) "dict":=by obtain⟨o,es,ep,ho,hc,_⟩:=d1;exact⟨o,ho,hc.1⟩
 refine vU qz hT Qn ?_ (Qj _ _ _);unfold Builtin.«dict.setdefault»;refine bj ?_;unfold Builtin.Dict.keyAndDefault;refine bj (wpAny_notOrdered_dict hT (show wpAny _ _ (pure (a,Value.ref b,some u2)) _ _ s from bY ?_));show wpAny _ _ (if(a==sysModules)=true then _ else(dictSetDefault a (Value.ref b) u2 >>= _)) _ _ s;rw[cF (by grind)];have cr:vs.length<=sizeLine:=by rw[<- Qw r1];exact z1
 have rv:=r1.val k;refine bj (Hl (by grind) lB d1 cr (λp hp=>?_) λhn0 h' dd' hs=>?_)
 .rcases q with⟨v,hv,q⟩|⟨hv,q⟩
  .have:RelO (some v) (some p.2):=by rw[<- hv];rw[hp]at rv;exact rv
   exact bY ⟨_,rfl,v,H,I.tok _,this,q⟩
  .have:=rv.kh;rw[hv,hp]at this;cases this
 .rcases q with⟨v,hv,q⟩|⟨hv,q⟩
  .have:=rv.kh;rw[hv,hn0]at this;cases this
  .obtain⟨o',es,ep,hq,h2,h3,h4,_,h5⟩:=dd';have hl:(dn kvs k y).length<=sizeLine:=by have:=gG kvs k y;lia
   have aZ:ObjOk X.prog X.w (aY H a (.dT (dn kvs k y))) h' a (.dT (dn kvs k y)):=by refine⟨hl,y1,_,(r1.put k hb ru2).keeps λc ys ec=>?_,o',es,ep,hq,h2,h3,h4,h5⟩;rw[aj (Aw ec ha (λz=>nomatch z))];exact ec
   exact bY ⟨_,rfl,y,_,lQ (t':=s.toks+(tK X.prog X.w).draws k) I (by rw[ha];exact True.intro) hs ⟨o',hq⟩ aZ,ru2,q⟩
def Bq:V->List V->Hp->VK->Prop:=λx xs H Q=>∃a b k y kvs,x=.ref a/\xs=[.ref b,y]/\H b=some (.tup (k.map kV))/\(H a=some (.dT kvs)\/(H a=some (.dK [])/\kvs=[]))/\kvs.length<sizeLine/\
 ((∃v,d_ kvs k=some v/\Q v H)\/(d_ kvs k=none/\Q y (aY H a (.dT (dn kvs k y)))))
def pd(hu:X.A.units+64<cLine):G2 X "dict.setdefault" Bq:=by
 intro aa s σ H x xs v us Q I rx rs q;obtain⟨a,b,k,y,kvs,e1,e2,hb,ha,hz,q⟩:=q;rcases ha with ha|⟨ha,rfl⟩
 .exact rD hu aa s σ H x xs v us Q I rx rs ⟨a,b,k,y,kvs,e1,e2,hb,ha,hz,q⟩
 .have nba:b≠a:=Aw hb ha (λz=>nomatch z);refine rD hu aa s σ (aY H a (.dT [])) x xs v us Q (I.N1 ha) rx rs ⟨a,b,k,y,[],e1,e2,by rw[aj nba];exact hb,aw,hz,.inr ?_⟩;rcases q with⟨v,hv,q⟩|⟨hv,q⟩
  .cases hv
  .have:aY (aY H a (.dT [])) a (.dT (dn [] k y))=aY H a (.dT (dn [] k y)):=by
    funext c;by_cases h:c=a
    .subst h;rw[aw,aw]
    .rw[aj h,aj h,aj h]
   exact⟨hv,by grind⟩
end
theorem KV.at(r:KV a b):∀(i:Nat) p q,a[i]?=some p->b[i]?=some q->p.1=q.1/\RelV p.2 q.2:=by
 induction r with
 |nil=>intro i p q e;simp at e
 |cons hq t ih=>
  intro i p q e1 e2;cases i with
  |zero=>simp at e1 e2;subst e1 e2;exact hq
  |succ i=>exact ih i p q (by simpa using e1) (by simpa using e2)
section
theorem xV:∀{vs:List V}{its:List Q0},vs.length=its.length->(∀(i:Nat) v u,vs[i]?=some v->its[i]?=some u->RelV v u)->Vals vs its
 |[],[],_,_=>.nil
 |[],_::_,e,_=>by cases e
 |_::_,[],e,_=>by cases e
 |v::vs,u::its,e,f=>.cons (f 0 v u rfl rfl) (xV (by simpa using e) λi w z a b=>f (i+1) w z (by simpa using a) (by simpa using b))
def Eh(ta:TA):TE:=λσ H Q=>ta σ H λvs H1=>∃j:Int,vs=[.int j]/\0<=j/\j<=1000/\∀l,H1 l=none->Q (.ref l) (aY H1 l (.lst ((List.range j.toNat).map λk=>.int (k:Nat))))
def zf(hc:X.calm=true)(hgl:Gl X "list") (hml:X.mg "list"=none) (hvl:bootBuiltins "list"=some (.type "list")) (hg:Gl X "range") (hm:X.mg "range"=none) (ha:PA X [a] ta) (hs:autoParam (starEach [a] X.env=[(false,eval a X.env)]) Rc)
 (hs2:autoParam (starEach [.Call (.Name "range" p2) [a] [] pos2] X.env=[(false,eval (.Call (.Name "range" p2) [a] [] pos2) X.env)]) Rc):PE X (.Call (.Name "list" p) [.Call (.Name "range" p2) [a] [] pos2] [] pos) (Eh ta):=by
 intro aa s σ H Q I h;refine Call_ (kZ I hgl hml hvl (xB ?_ hs2 rfl));rw[hs2];show wpAny _ _ (spliced ((false,eval (.Call (.Name "range" p2) [a] [] pos2) X.env)::[])) _ _ s;refine O6 (Call_ (kZ I hg hm boot_range (xB (cZ (ha pos2 aa s σ H _ I h) λus s1 ⟨vs,H1,I1,r1,q1⟩=>?_) hs rfl)));obtain⟨j,e,j0,j1,q⟩:=q1;subst e;cases r1 with
 |cons r rr=>
  cases rr;obtain⟨t,rfl⟩:=r;refine call_range_1 (PH ?_);have I2:Inv X aa σ H1 { s1 with heap:=s1.heap.push { cls:=.type "range",data:=.fields #[.int 0 s1.toks,.int j t,.int 1 (s1.toks+1)] },toks:=s1.toks+1+1 }:=I1.kept λb o e=>bE _ e;have hr:IsRange ({ s1 with heap:=s1.heap.push { cls:=.type "range",data:=.fields #[.int 0 s1.toks,.int j t,.int 1 (s1.toks+1)] },toks:=s1.toks+1+1 }:QX).heap s1.heap.objs.size 0 j 1 s1.toks t (s1.toks+1):=cQ _ rfl;generalize({ s1 with heap:=s1.heap.push { cls:=.type "range",data:=.fields #[.int 0 s1.toks,.int j t,.int 1 (s1.toks+1)] },toks:=s1.toks+1+1 }:QX)=s2 at I2 hr;have hn:Builtin.Range.rangeSize 0 j 1=(j.toNat:Nat):=by rw[rangeSize_one];split<;>lia
  refine call_list_range (I2.ok.hd hc) hr (small_one (by lia) (by lia) (by lia) (by lia)) hn (by lia) λh' tk acc c' kp e it=>?_;obtain⟨i1,i2⟩:=it;have rv:Vals ((List.range j.toNat).map λk=>.int (k:Nat)) acc.toList:=by
   refine xV (by rw[cG,PK,qU,i1]) λi v w ev ew=>?_;obtain⟨t',rfl⟩:=i2 i w (by rw[<- jk];exact ew);rw[iq]at ev;have hi:i<j.toNat:=by have:=(ci.mp ew).1;rw[qU,i1]at this;exact this
   rw[List.getElem?_range hi]at ev;cases ev;exact⟨t',by congr 1;lia⟩
  have e:h'.get? s2.heap.objs.size=some { cls:=.type "list",dict:=none,data:=.seq acc.toList.toArray c',slots:=#[] }:=by rw[Array.toArray_toList];exact e
  exact⟨.ref s2.heap.objs.size,_,I2.laid (t':=tk) kp (bK _) (show ObjOk X.prog X.w _ h' _ (.lst ((List.range j.toNat).map λk=>.int (k:Nat)))from⟨by rw[cG,PK,jY];lia,acc.toList,c',rv,e⟩),rfl,q _ (I2.aZ.fresh (bK _))⟩
end
noncomputable def sO:List Int->Int
 |[]=>0
 |x::r=>r.foldl (λa b=>if b<a then b else a) x
def zg(h:l≠[])(z:Int):sO (l++[z])=if z<sO l then z else sO l:=by
 cases l with
 |nil=>exact(h rfl).elim
 |cons x r=>show(r++[z]).foldl _ x=_;rw[Pf];rfl
theorem ph(xs:Array (Int×Tok)):∀k,k<xs.size->numAt xs (argBest (λi j=>decide (numAt xs i<numAt xs j)) k)=sO ((xs.toList.map (·.1)).take (k+1))
 |0,h=>by
  have e:xs.toList.map (·.1)≠[]:=λz=>by have:=Pp List.length z;simp at this;rw[this]at h;simp at h
  cases q:xs.toList.map (·.1)with
  |nil=>exact(e q).elim
  |cons y r=>
   have:(xs[0]?.map (·.1))=some y:=by rw[<- jk,<- iq,q];rfl
   show numAt xs 0=y;unfold numAt;rw[this];rfl
 |k+1,h=>by
  have ih:=ph xs k (by lia);have ez:(xs.toList.map (·.1))[k+1]?=some (numAt xs (k+1)):=by rw[iq,jk];unfold numAt;rw[Array.getElem?_eq_getElem h];rfl
  have et:(xs.toList.map (·.1)).take (k+1+1)=(xs.toList.map (·.1)).take (k+1)++[numAt xs (k+1)]:=by rw[List.take_succ,ez];rfl
  have ne:(xs.toList.map (·.1)).take (k+1)≠[]:=λz=>by have h9:=Pp List.length z;rw[N0,cG,qU,Qx]at h9;lia
  rw[et,zg ne,<- ih];show numAt xs (if(decide (numAt xs (k+1)<numAt xs (argBest _ k)))=true then k+1 else argBest _ k)=_;by_cases hl:numAt xs (k+1)<numAt xs (argBest (λi j=>decide (numAt xs i<numAt xs j)) k)
  .rw[b_ (io hl),b_ hl]
  .rw[cF (by simpa using hl),cF hl]
theorem pj:∀{ns:List Int}{its:List Q0},Vals (ns.map V.int) its->∃ps:List (Int×Tok),its=ps.map (λp=>.int p.1 p.2)/\ps.map (·.1)=ns
 |[],_,h=>by cases h;exact⟨[],rfl,rfl⟩
 |n::ns,_,h=>by
  cases h with
  |cons r rr=>obtain⟨t,rfl⟩:=r;obtain⟨ps,rfl,e⟩:=pj rr;exact⟨(n,t)::ps,rfl,by rw[dz,e]⟩
def zh(hc:X.calm=true):CallR X (.builtin "min") (λxs H Q=>∃p ns,xs=[.ref p]/\SqL X.K H p (ns.map V.int)/\ns≠[]/\Q (.int (sO ns)) H):=by
 intro aa s σ H xs us Q I r h;obtain⟨p,ns,rfl,hq,hne,q⟩:=h;obtain⟨u,rfl,rx⟩:=gF r;cases rx;obtain⟨its,rv,pl,hz⟩:=I.list hq;obtain⟨ps,rfl,e⟩:=pj rv;have hl:s.heap.IsList p (intItems ps.toArray):=by
  have:intItems ps.toArray=(ps.map (λp=>Value.int p.1 p.2)).toArray:=by simp[intItems]
  rw[this];exact pl.isList
 have hpos:0<ps.toArray.size:=by
  cases ps with
  |nil=>exact(hne e.symm).elim
  |cons _ _=>simp
 refine min_intList (I.ok.hd hc) hl hpos λv h' tk ev kp=>?_;obtain⟨t,rfl⟩:=intItems_at ev;rw[ph ps.toArray _ (by lia)];have ef:(ps.toArray.toList.map (·.1)).take (ps.toArray.size-1+1)=ns:=by rw[qm (by simp;lia)];simpa using e
 rw[ef];exact⟨.int (sO ns),H,I.kept (t':=tk) kp,⟨t,rfl⟩,q⟩
end L2
namespace L2
open PySem PySem.Spec PyProof.Rows
open Sem (wp)
open Builtin
open Sem (wp)
open Builtin
noncomputable def pk(kts:List (Addr×List V))(a:Addr)(o:Obj)(ns:List Int):Hp:=λb=>match kts.lookup b with
 |some xs=>some (.tup xs)
 |none=>if b=a then some (.cV o (.lst (ns.map V.int)))else none
section
def Ei(e:kts.lookup b=some xs):pk kts a o ns b=some (.tup xs):=by unfold pk;rw[e]
def Ej(e:kts.lookup a=none):pk kts a o ns a=some (.cV o (.lst (ns.map V.int))):=by unfold pk;rw[e];exact b_ rfl
def Ek(e:kts.lookup b=none)(n:b≠a):pk kts a o ns b=none:=by unfold pk;rw[e];exact cF n
end
theorem lY:∀{vs:List Q0}{ns:List Int},IntsAre vs ns->Vals (ns.map V.int) vs
 |_,_,.nil=>.nil
 |_,_,.cons n t h=>.cons ⟨t,rfl⟩ (lY h)
def zi{P:QZ}{w:World}{K:QY}{mg mb:Str->Option Q0}{CX:Ao}{k:Nat}{fa a:Addr}{fd:FuncData}{x:Str}{sp:Sp}{s₁:QX}{vs:List Q0}{ns:List Int}{kts:List (Addr×List V)}
 (KX:K.In s₁.heap) (hns:s₁.heap.Ns mainGlobals mg) (hb:s₁.heap.Ns builtinsNs mb) (hbb:∀x:Str,x≠"__name__"->mb x=bootBuiltins x) (hlim:s₁.heap.NoLimit) (hg:s₁.gens=#[])
 (ha:s₁.heap.get? a=some { cls:=.type "list",data:=.seq vs.toArray }) (hi:IntsAre vs ns) (hl:ns.length<=sizeLine) (hr:dj k callerA)
 (hK:∀o,K.lookup a=some o->o.cls=.type "list"->False)
 (hT:∀b xs,kts.lookup b=some xs->K.lookup b=none/\∃(o:Obj)(its:Array Q0)(n:Nat),s₁.heap.get? b=some o/\o.cls=.type "tuple"/\o.data=.seq its n/\its.size<=sizeLine/\Vals xs its.toList)
 (hM:∀p∈K,∀b xs,DD p.2=some (b,xs)->kts.lookup b=some xs)
 (F:∀base:Heap,K.In base->base.Ns mainGlobals mg->bA P w K mg base CX k fa fd [x] sp) (hbind:∀(s:QX)(u:Q0),BindsTo s fd ⟨[u],[]⟩ [(x,u)])
 (hsp:∀H:Hp,(∃o,H a=some (.cV o (.lst (ns.map V.int))))->sp [.ref a] H (λv _=>v=.bl true) λ_ _ _=>False)
 (hCX:∀H e s',CX [] H s₁ (λ_ _ _=>False) e s'->False) :
 codeAny (model P w) callerA (.call (.ref fa) ⟨[.ref a],[]⟩) (λr s'=>r=.ok (.ret (.bool true))/\OldK s₁.heap s'.heap/\s'.os=s₁.os/\AllBare s'.gens) s₁:=by
 have rv:=lY hi;have noK:K.lookup a=none:=by
  cases q:K.lookup a with
  |none=>rfl
  |some o=>have e:=KX a o q;rw[ha]at e;cases e;exact(hK _ q rfl).elim
 have noT:kts.lookup a=none:=by
  cases q:kts.lookup a with
  |none=>rfl
  |some xs=>obtain⟨_,o,its,n,e,c,_⟩:=hT a xs q;rw[ha]at e;cases e;exact absurd c (by simp)
 obtain⟨ob,eob⟩ : ∃ob:Obj,ob={ cls:=.type "list",data:=.seq vs.toArray }:=⟨_,rfl⟩;rw[<- eob]at ha;generalize eH:pk kts a ob ns=H;have Ha:H a=some (.cV ob (.lst (ns.map V.int))):=by rw[<- eH];exact Ej noT
 have Ht:∀b xs,kts.lookup b=some xs->H b=some (.tup xs):=λb xs e=>by rw[<- eH];exact Ei e
 have Hn:∀b,kts.lookup b=none->b≠a->H b=none:=λb e n=>by rw[<- eH];exact Ek e n
 have freeK:∀b o,K.lookup b=some o->H b=none:=λb o e=>by
  refine Hn b ?_ λz=>by rw[z,noK]at e;cases e
  cases q:kts.lookup b with
  |none=>rfl
  |some xs=>rw[(hT b xs q).1]at e;cases e
 have freeD:∀(b:Addr)(o:Obj)(es:Array DictEntry)(ep:Nat),s₁.heap.get? b=some o->o.data=.dict es ep->H b=none:=λb o es ep e d=>by
  refine Hn b ?_ λz=>?_
  .cases q:kts.lookup b with
   |none=>rfl
   |some xs=>obtain⟨_,o',its,n,e',_,d',_⟩:=hT b xs q;rw[e]at e';cases e';rw[d]at d';cases d'
  .rw[z,ha]at e;cases e;rw[eob]at d;cases d
 have nsK:∀{b:Addr}{m:Str->Option Q0},s₁.heap.Ns b m->(uj s₁.heap H).Ns b m:=λ{b m} ⟨o,es,ep,e,d,r⟩=>⟨o,es,ep,uk e (freeD b o es ep e d),d,r⟩;have hKb:K.In (uj s₁.heap H):=λb o e=>uk (KX b o e) (freeK b o e);have hMd:Mod K mg (uj s₁.heap H):=⟨hKb,nsK hns,⟨mb,nsK hb,hbb⟩,let ⟨mc,h1,h2⟩:=hlim;⟨mc,nsK h1,h2⟩⟩;have aZ:HOk P w H s₁.heap:=λb u e=>by
  cases q:kts.lookup b with
  |some xs=>rw[Ht b xs q]at e;cases e;obtain⟨_,o,its,n,e1,c,d,z,r⟩:=hT b xs q;refine⟨by rw[r.length];simpa using z,its.toList,r,o,e1,c,n,by simpa using d⟩
  |none=>
   by_cases hba:b=a
   .rw[hba,Ha]at e;cases e;rw[hba];exact⟨ha,by rw[cG];exact hl,vs,_,rv,by rw[ha,eob]⟩
   .rw[Hn b q hba]at e;cases e
 have e0:xw P w K mg (uj s₁.heap H) callerA [] s₁ H:=⟨rfl,hMd,λb o e=>DB e,QF (yL _ _),trivial,λb hb=>absurd (show b∈([]:List Addr)from hb) (by simp),aZ,.of_eq hg,λp hp b xs e=>Ht b xs (hM p hp b xs e)⟩;refine P3 ((F _ hKb (nsK hns)).run callerA [] s₁ H ⟨[.ref a],[]⟩ [.ref a] [.ref a] _ _ hr e0 (hbind s₁ (.ref a)) (.cons rfl .nil) (hsp H ⟨ob,Ha⟩)) λr s' h=>?_;cases r with
 |error e=>exact(hCX H e s' h).elim
 |ok fl=>
  cases fl with
  |next=>exact False.elim h
  |brk=>exact False.elim h
  |cont=>exact False.elim h
  |ret u=>
   obtain⟨v,H',os,bare,un,hok',r',q⟩:=h;have q':v=.bl true:=q;subst q';obtain rfl:u=Value.bool true:=r';refine⟨rfl,OldK.of_keep λb o e=>?_,os,bare⟩;by_cases hba:b=a
   .rw[hba]at e ⊢;have z2:=un.mK a ob _ Ha;obtain⟨e2,_⟩:=hok' a _ z2;rw[ha]at e;cases e;exact e2
   .refine un.keep b o e ?_ (by intro z;exact absurd (show b∈([]:List Addr)from z) (by simp)) (by simp);cases q:kts.lookup b with
    |none=>exact .inl (Hn b q hba)
    |some xs=>exact .inr ⟨xs,Ht b xs q⟩
section
variable{K K':QY}
def Nc(K:QY):Bool:=K.all λp=>(DD p.2).isNone
structure lG(K K':QY):Prop where
 look:∀b o,K.lookup b=some o->(∀its n,o.data≠.seq its n)->K'.lookup b=some o
def zj:lG K K:=⟨λ_ _ e _=>e⟩
def lG.code(S:lG K K')(h:codeIn K cd q=true):codeIn K' cd q=true:=by
 unfold codeIn at h ⊢;cases cd with
 |ref c=>
  dsimp only at h ⊢;cases e:K.lookup c with
  |none=>rw[e]at h;cases h
  |some o=>
   obtain⟨o1,o2,o3,o4⟩:=o;cases o3 with
   |fields vs=>rw[S.look c _ e (λ_ _ z=>nomatch z)];rw[e]at h;exact h
   |_=>rw[e]at h;cases h
 |_=>cases h
def lG.keep(S:lG K K')(e:K.lookup f=some ⟨o1,o2,.func fd,o4⟩):keepIn K' (.ref f)=true:=by unfold keepIn;dsimp only;rw[S.look f _ e (λ_ _ z=>nomatch z)]
def lG.ns(S:lG K K')(h:nsIn K n x=some r):nsIn K' n x=some r:=by
 unfold nsIn at h ⊢;cases e:K.lookup n with
 |none=>rw[e]at h;cases h
 |some o=>
  obtain⟨o1,o2,o3,o4⟩:=o;cases o3 with
  |dict es ep=>rw[S.look n _ e (λ_ _ z=>nomatch z)];rw[e]at h;exact h
  |_=>rw[e]at h;cases h
def lG.nsOk(S:lG K K')(h:PySem.W.nsOkIn K n=true):PySem.W.nsOkIn K' n=true:=by
 unfold PySem.W.nsOkIn at h ⊢;cases e:K.lookup n with
 |none=>rw[e]at h;cases h
 |some o=>
  obtain⟨o1,o2,o3,o4⟩:=o;cases o3 with
  |dict es ep=>rw[S.look n _ e (λ_ _ z=>nomatch z)];rw[e]at h;exact h
  |_=>rw[e]at h;cases h
theorem lG.tail(S:lG K K'):∀{l:List Q0},PySem.W.tailIn K bm l=true->PySem.W.tailIn K' bm l=true
 |[],h=>h
 |v::r,h=>by
  unfold PySem.W.tailIn at h ⊢;rw[QA]at h ⊢;refine h.imp id λh=>?_;cases v with
  |ref A=>
   dsimp only at h ⊢;cases e:K.lookup A with
   |none=>rw[e]at h;cases h
   |some o=>
    obtain⟨o1,o2,o3,o4⟩:=o;cases o3 with
    |cls cd=>rw[S.look A _ e (λ_ _ z=>nomatch z)];rw[e]at h;dsimp only at h ⊢;simp only[jh,Pw]at h ⊢;exact⟨⟨S.nsOk h.1.1,S.ns h.1.2⟩,S.tail h.2⟩
    |_=>rw[e]at h;cases h
  |_=>cases h
def lG.exc(S:lG K K')(h:excIn K C bm i=true):excIn K' C bm i=true/\sD K' C=sD K C:=by
 unfold excIn at h ⊢;unfold sD;cases e:K.lookup C with
 |none=>rw[e]at h;cases h
 |some o=>
  obtain⟨o1,o2,o3,o4⟩:=o;rw[e]at h;cases o3 with
  |cls cd=>
   rw[S.look C _ e (λ_ _ z=>nomatch z)];refine⟨?_,rfl⟩;split at h
   .rename_i dd cd' sl he;injection he with he;injection he with he1 he2 he3 he4;injection he3 with he3;subst he1 he2 he3 he4
    try dsimp only at h
    try dsimp only
    split at h
    .rename_i hm hs;simp only[jh,Pw]at h ⊢;exact⟨⟨⟨h.1.1.1,S.tail h.1.1.2⟩,S.nsOk h.1.2⟩,S.ns h.2⟩
    .cases h
   .cases h
  |_=>split at h<;>first|cases h|(rename_i he;injection he with he;injection he with _ _ he _;cases he)
end
noncomputable def xW:Q0->Bool
 |.type n=>n=="list"
 |_=>false
def Nd(K:QY):Bool:=K.all λp=>!xW p.2.cls
theorem Br:∀{K:QY},Nd K=true->K.lookup a=some o->o.cls=.type "list"->False
 |[],_,e,_=>by cases e
 |(b,x)::r,h,e,c=>by
  unfold Nd at h;rw[List.all_cons,jh]at h;rw[Pu]at e;split at e
  .cases e;rw[c]at h;have h1:=h.1;simp[xW]at h1
  .exact Br (K:=r) h.2 e c
section
variable{l:PySem.W.OpenLaw}{K:Params->QY}{CX:World->Ao}{sp:World->Sp}
def Bs(hn:l.most=some n)(hn2:n<=sizeLine)(hdf:d.params.defaults=[])(hr:dj k callerA)(hY:∀(w:World)(h:Heap),YP w h->(K w.params).In h)
 (hL:∀w:World,Nd (K w.params)=true/\Nc (K w.params)=true)
 (F:∀(w:World)(mg:Str->Option Q0)(fa:Addr)(h:Heap),(K w.params).In h->h.Ns mainGlobals mg->mg d.name=some (.ref fa)->
   ∃fd:FuncData,(∀(s:QX)(u:Q0),BindsTo s fd ⟨[u],[]⟩ [(x,u)])/\∀base:Heap,(K w.params).In base->base.Ns mainGlobals mg->bA l.prog w (K w.params) mg base (CX w) k fa fd [x] (sp w))
 (hsp:∀(w:World)(H:Hp)(a:Addr)(ns:List Int),ns.length<=n->(∃o,H a=some (.cV o (.lst (ns.map V.int))))->sp w [.ref a] H (λv _=>v=.bl true) λ_ _ _=>False)
 (hCX:∀(w:World)(H:Hp)(s:QX)(e:Q0)(s':QX),CX w [] H s (λ_ _ _=>False) e s'->False) :
 PySem.W.WalkO q loose XP YP l.row.toRowW d [] (λf vs=>PySem.call f vs):=by
 refine Att.attach_call hn hdf λw s₀ s₁ mg mb fa o pm cd doc a vs ns G Y ho hd hcd hmg hobj hints cr hg=>?_;have KX:=hY w _ Y;obtain⟨fd,hb,hF⟩:=F w mg fa _ KX G.T.g hmg;exact zi (kts:=[]) KX G.T.g G.T.b G.T.builtins G.T.nolimit hg hobj hints (gC cr hn2) hr (λo e c=>Br (hL w).1 e c) (λb xs e=>by cases e)
  (λp hp b xs e=>by have:=sk.mp (hL w).2 p hp;rw[e]at this;cases this) hF hb (λH hS=>hsp w H a ns cr hS) λH e s'=>hCX w H s₁ e s'
end
end L2
namespace L2
open PySem PySem.Spec PySem.Calls PyProof.Rows
noncomputable abbrev K0:=Sum Int (List Int)
abbrev NX:=List (List K0×Addr×Q0)
noncomputable def NVs(H:Hp):List K0->List V->Prop
 |[],vs=>vs=[]
 |.inl i::ks,vs=>∃r,vs=.int i::r/\NVs H ks r
 |.inr l::ks,vs=>∃c r,vs=.ref c::r/\H c=some (.tup (l.map V.int))/\NVs H ks r
def KeyN(H:Hp)(k:List K0)(b:Addr):Prop:=∃vs,H b=some (.tup vs)/\NVs H k vs
section
variable{H H':Hp}
theorem NVs.mono(kt:∀b vs,H b=some (.tup vs)->H' b=some (.tup vs)):∀{k:List K0}{vs:List V},NVs H k vs->NVs H' k vs
 |[],_,h=>h
 |.inl i::ks,_,⟨r,e,h⟩=>⟨r,e,NVs.mono kt h⟩
 |.inr l::ks,_,⟨c,r,e,e2,h⟩=>⟨c,r,e,kt _ _ e2,NVs.mono kt h⟩
theorem KeyN.mono(kt:∀b vs,H b=some (.tup vs)->H' b=some (.tup vs))(h:KeyN H k b):KeyN H' k b:=let ⟨vs,e,q⟩:=h;⟨vs,kt _ _ e,q.mono kt⟩
end
end L2
namespace L2
open PySem PySem.Spec PySem.Calls PyProof.Rows ST
section
def zk(t:TupsIn H vs its)(rv:Vals vs us):us=valsT its:=by
 unfold TupsIn at t;induction t generalizing us with
 |nil=>cases rv;rfl
 |cons q _ ih=>
  cases rv with
  |cons r s=>obtain⟨rfl,q⟩:=q;cases r;rw[ih s];rfl
def qL(hN:N<=300)(hs:lX X.prog X.w N):CallR X (.builtin "sorted") (λxs H Q=>∃(l:Addr)(vs:List V)(its:List i_),xs=[.ref l]/\Rd H l (.lst vs)/\TupsIn H vs its/\its.length<=N/\(∀x∈its,x.1≠[])/\(its.map (·.1)).Nodup/\
 ∀(l':Addr)(ys:List i_),H l'=none->ys.Perm its->ys.Pairwise (λx y=>dS x.1 y.1=true)->Q (.ref l') (aY H l' (.lst (ys.map λy=>.ref y.2)))):=by
 intro aa s σ H xs us Q I r h;obtain⟨l,vs,its,rfl,hl,hp,hz,hne,nd,q⟩:=h;obtain⟨u,rfl,ru⟩:=gF r;obtain rfl:u=Value.ref l:=ru;obtain⟨_,us,n,rv,hg⟩:=(show ObjOk X.prog X.w H s.heap l (.lst vs)from hl.ok I.aZ);obtain⟨_,_,g3⟩:=hp.get rv;obtain rfl:=zk hp rv;have hvl:(valsT its).length=its.length:=by simp[valsT]
 have sl:=jY;refine Calls.call_function_entry kind_sorted plain_sorted entry_sorted (args_sorted1 _) ?_;unfold Builtin.«sorted»;refine bj (m:=checkCount "sorted" 1 1 _) (bY (bj (collect_list (l:=l) (vs:=valsT its) ⟨_,hg,rfl,n,rfl⟩ ?_ (by rw[hvl];lia))));have k1:∀b o,s.heap.get? b=some o->((s.heap.push (seqObj "list" #[] 0)).update s.heap.objs.size (Obj.mapSeq (·++ (valsT its).toArray))).get? b=some o:=λb o e=>(Gp _ _ (vG (e_ (cD e)))).trans (bE _ e);have g1:s.heap.objs.size<=((s.heap.push (seqObj "list" #[] 0)).update s.heap.objs.size (Obj.mapSeq (·++ (valsT its).toArray))).objs.size:=Qe (cD (get?_update_seq (cQ _ rfl) (·++ (valsT its).toArray)));generalize((s.heap.push (seqObj "list" #[] 0)).update s.heap.objs.size (Obj.mapSeq (·++ (valsT its).toArray)))=h1 at k1 g1;refine bj (wpAny_newList ?_ (by rw[hvl];lia));have hoL:(h1.push (seqObj "list" (valsT its).toArray 0)).get? h1.objs.size=some (seqObj "list" (valsT its).toArray 0):=cQ _ rfl;have kk:∀b o,s.heap.get? b=some o->(h1.push (seqObj "list" (valsT its).toArray 0)).get? b=some o:=λb o e=>bE _ (k1 b o e);have t1:qS X.prog X.w (h1.push (seqObj "list" (valsT its).toArray 0)) its:=⟨λx hx=>oh (iF I.aZ (g3 x hx)) kk,hne,nd⟩;refine bj (qu (vU slot_list_sort ⟨_,hoL,rfl⟩ entry_list_sort ?body (args_list_sort _)))
 case body=>
  refine hs _ _ { s with heap:=h1.push (seqObj "list" (valsT its).toArray 0) } _ _ _ _ hoL t1 hz λys h2 c2 hp2 hw hl2 k2=>⟨_,rfl,?_⟩;have hf:H h1.objs.size=none:=I.aZ.fresh g1;refine bY ⟨_,rfl,.ref h1.objs.size,_,I.laid (a:=h1.objs.size) (o:=.lst (ys.map λy=>.ref y.2)) (t':=s.toks) (λb o e=>k2 b o (λz=>?_) (kk b o e)) g1 ?_,rfl,q h1.objs.size ys hf hp2 hw⟩
  .subst z;exact absurd (cD e) (Nat.not_lt.mpr g1)
  .refine⟨by rw[cG,hp2.length_eq];lia,valsT ys,c2,?_,hl2⟩;clear hl2 hw hp2;induction ys with
   |nil=>exact .nil
   |cons y ys ih=>exact .cons rfl ih
end
end L2
namespace L3
open PySem PySem.Spec PyProof.Rows L2
abbrev DK:=Sum cJ (List cJ)
inductive D where
 |bL|bl (b:Bool)|int (i:Int)|str (x:Str)|tup (ds:List D)|lst (ds:List D)|nF (ks:List DK) (ds:List D)
mutual
noncomputable def D.flat:D->Bool
 |.lst _=>false
 |.nF _ _=>false
 |.tup ds=>D.bp ds
 |_=>true
noncomputable def D.bp:List D->Bool
 |[]=>true
 |d::ds=>d.flat&&D.bp ds
end
mutual
noncomputable def D.dep:D->Nat
 |.lst ds=>D.lE ds+1
 |.tup ds=>D.lE ds+1
 |.nF _ ds=>D.lE ds+1000
 |_=>0
noncomputable def D.lE:List D->Nat
 |[]=>0
 |d::ds=>max d.dep (D.lE ds)
end
mutual
noncomputable def lc:D->D->Bool
 |.bL,e=>match e with|.bL=>true|_=>false
 |.bl a,e=>match e with|.bl b=>a==b|.int b=>(if a then 1 else 0)==b|_=>false
 |.int a,e=>match e with|.int b=>a==b|.bl b=>a==(if b then 1 else 0)|_=>false
 |.str a,e=>match e with|.str b=>a==b|_=>false
 |.tup as,e=>match e with|.tup bs=>eqDs as bs|_=>false
 |.lst as,e=>match e with|.lst bs=>eqDs as bs|_=>false
 |.nF ks as,e=>match e with|.nF ls bs=>decide (ks=ls)&&eqDs as bs|_=>false
noncomputable def eqDs:List D->List D->Bool
 |[],bs=>match bs with|[]=>true|_=>false
 |a::as,bs=>match bs with|b::r=>lc a b&&eqDs as r|[]=>false
end
mutual
theorem jA:∀d:D,lc d d=true
 |.bL=>rfl
 |.bl a=>by simp[lc]
 |.int a=>by simp[lc]
 |.str a=>by simp[lc]
 |.tup as=>by simp only[lc];exact eqDs_refl as
 |.lst as=>by simp only[lc];exact eqDs_refl as
 |.nF ks as=>by simp only[lc,decide_true,Bool.true_and];exact eqDs_refl as
theorem eqDs_refl:∀ds:List D,eqDs ds ds=true
 |[]=>rfl
 |d::ds=>by simp only[eqDs,jA d,eqDs_refl ds,QP]
end
def DAt(H:Hp)(a:Addr)(ks:List DK)(vs:List V):Prop:=(∃kvs:List (cJ×V),Rd H a (.dK kvs)/\ks=kvs.map (λp=>.inl p.1)/\vs=kvs.map Prod.snd)\/∃kvs:List (List cJ×V),Rd H a (.dT kvs)/\ks=kvs.map (λp=>.inr p.1)/\vs=kvs.map Prod.snd
noncomputable def Kf:HO->Prop
 |.lst _=>True
 |.dK _=>True
 |.dT _=>True
 |.ext _=>True
 |_=>False
def Mu(H:Hp)(a:Addr):Prop:=∃o,H a=some o/\Kf o
theorem Mu.lst(h:H a=some (.lst vs)):Mu H a:=⟨_,h,True.intro⟩
def Mu.same(h:Mu H a)(s:∀o,H a=some o->H' a=some o):Mu H' a:=let ⟨o,e,m⟩:=h;⟨o,s o e,m⟩
def Mu.some(h:Mu H a):H a≠none:=by obtain⟨o,e,_⟩:=h;rw[e];simp
def FN(h:Rd H a u):∃o,H a=some o:=h.elim (λe=>⟨_,e⟩) λ⟨_,e⟩=>⟨_,e⟩
def Bt(h:Rd H a u)(s:∀o,H a=some o->H' a=some o):Rd H' a u:=h.imp (s _) λ⟨o,e⟩=>⟨o,s _ e⟩
def DAt.obj(h:DAt H a ks vs):∃o,H a=some o:=h.elim (λ⟨_,e,_⟩=>FN e) λ⟨_,e,_⟩=>FN e
def DAt.keep(h:DAt H a ks vs)(s:∀o,H a=some o->H' a=some o):DAt H' a ks vs:=h.imp (λ⟨kvs,e,r⟩=>⟨kvs,Bt e s,r⟩) λ⟨kvs,e,r⟩=>⟨kvs,Bt e s,r⟩
def DAt.inj(h:DAt H a ks vs)(g:DAt H a ls ws):ks=ls/\vs=ws:=by rcases h with⟨k1,e1|⟨o1,e1⟩,r1,r2⟩|⟨k1,e1|⟨o1,e1⟩,r1,r2⟩<;>rcases g with⟨k2,e2|⟨o2,e2⟩,q1,q2⟩|⟨k2,e2|⟨o2,e2⟩,q1,q2⟩<;>(rw[e1]at e2;cases e2;try exact⟨r1.trans q1.symm,r2.trans q2.symm⟩)
noncomputable def Nf:HO->Prop
 |.dK _=>False
 |.dT _=>False
 |.cV _ (.dK _)=>False
 |.cV _ (.dT _)=>False
 |_=>True
def DAt.no(h:DAt H a ks vs)(e:H a=some o)(n:Nf o):False:=by rcases h with⟨k,z|⟨o',z⟩,_⟩|⟨k,z|⟨o',z⟩,_⟩<;>(rw[e]at z;cases z;exact n)
mutual
noncomputable def Is(H:Hp)(m:Addr->Prop):D->V->Prop
 |.bL,v=>v=.bL
 |.bl b,v=>v=.bl b
 |.int i,v=>v=.int i
 |.str x,v=>v=.str x
 |.tup ds,v=>∃a vs,v=.ref a/\H a=some (.tup vs)/\IsAll H m ds vs
 |.lst ds,v=>∃a vs,v=.ref a/\((H a=some (.lst vs)/\m a)\/∃o,H a=some (.cV o (.lst vs))/\m a)/\IsAll H m ds vs
 |.nF ks ds,v=>∃a vs,v=.ref a/\(DAt H a ks vs/\m a)/\IsAll H m ds vs
noncomputable def IsAll(H:Hp)(m:Addr->Prop):List D->List V->Prop
 |[],vs=>vs=[]
 |d::ds,vs=>∃v r,vs=v::r/\Is H m d v/\IsAll H m ds r
end
noncomputable def jB:HO->Prop
 |.tup _=>True
 |.cV _ _=>True
 |_=>False
section
mutual
theorem Is.mono(kp:∀a o,H a=some o->(m a\/jB o)->H' a=some o)(mm:∀a o,H a=some o->m a->m' a):∀{d:D}{v:V},Is H m d v->Is H' m' d v
 |.bL,_,h=>h
 |.bl _,_,h=>h
 |.int _,_,h=>h
 |.str _,_,h=>h
 |.tup ds,_,h=>by obtain⟨a,vs,e,h1,h2⟩:=h;exact⟨a,vs,e,kp a _ h1 (.inr True.intro),IsAll.mono kp mm h2⟩
 |.lst ds,_,h=>by
  obtain⟨a,vs,e,h1,h2⟩:=h;refine⟨a,vs,e,?_,IsAll.mono kp mm h2⟩;rcases h1 with⟨h1,h3⟩|⟨o,h1,h3⟩
  .exact .inl ⟨kp a _ h1 (.inl h3),mm a _ h1 h3⟩
  .exact .inr ⟨o,kp a _ h1 (.inr True.intro),mm a _ h1 h3⟩
 |.nF ks ds,_,h=>by obtain⟨a,vs,e,h1,h2⟩:=h;obtain⟨o,eo⟩:=h1.1.obj;exact⟨a,vs,e,⟨h1.1.keep λo e=>kp a o e (.inl h1.2),mm a o eo h1.2⟩,IsAll.mono kp mm h2⟩
theorem IsAll.mono(kp:∀a o,H a=some o->(m a\/jB o)->H' a=some o)(mm:∀a o,H a=some o->m a->m' a):∀{ds:List D}{vs:List V},IsAll H m ds vs->IsAll H' m' ds vs
 |[],_,h=>h
 |d::ds,_,h=>by obtain⟨v,r,e,h1,h2⟩:=h;exact⟨v,r,e,Is.mono kp mm h1,IsAll.mono kp mm h2⟩
end
def Is.weak(mm:∀a,m a->m' a)(h:Is H m d v):Is H m' d v:=h.mono (λ_ _ e _=>e) λa _ _=>mm a
def IsAll.weak(mm:∀a,m a->m' a)(h:IsAll H m ds vs):IsAll H m' ds vs:=h.mono (λ_ _ e _=>e) λa _ _=>mm a
def Is.same(s:Same H H')(h:Is H m d v):Is H' m d v:=h.mono (λa o e _=>s a o e) λ_ _ _ z=>z
def IsAll.same(s:Same H H')(h:IsAll H m ds vs):IsAll H' m ds vs:=h.mono (λa o e _=>s a o e) λ_ _ _ z=>z
mutual
theorem Is.flat:∀{d:D}{v:V},d.flat=true->Is H m d v->Is H m' d v
 |.bL,_,_,h=>h
 |.bl _,_,_,h=>h
 |.int _,_,_,h=>h
 |.str _,_,_,h=>h
 |.tup ds,_,f,h=>by obtain⟨a,vs,e,h1,h2⟩:=h;exact⟨a,vs,e,h1,IsAll.flat (by simpa only[D.flat]using f) h2⟩
 |.lst ds,_,f,_=>by simp[D.flat]at f
 |.nF ks ds,_,f,_=>by simp[D.flat]at f
theorem IsAll.flat:∀{ds:List D}{vs:List V},D.bp ds=true->IsAll H m ds vs->IsAll H m' ds vs
 |[],_,_,h=>h
 |d::ds,_,f,h=>by obtain⟨v,r,e,h1,h2⟩:=h;simp only[D.bp,jh]at f;exact⟨v,r,e,Is.flat f.1 h1,IsAll.flat f.2 h2⟩
end
mutual
theorem Is.inj:∀{d e:D}{v:V},Is H m d v->Is H m' e v->d=e
 |.bL,e,_,h,g=>by cases e<;>first|rfl|(cases h;first|(obtain⟨_,_,z,_⟩:=g;cases z;done)|cases g)
 |.bl _,e,_,h,g=>by cases e<;>(cases h;first|(obtain⟨_,_,z,_⟩:=g;cases z;done)|(cases g;rfl)|cases g)
 |.int _,e,_,h,g=>by cases e<;>(cases h;first|(obtain⟨_,_,z,_⟩:=g;cases z;done)|(cases g;rfl)|cases g)
 |.str _,e,_,h,g=>by cases e<;>(cases h;first|(obtain⟨_,_,z,_⟩:=g;cases z;done)|(cases g;rfl)|cases g)
 |.tup ds,e,_,h,g=>by
  obtain⟨a,vs,rfl,h1,h2⟩:=h;cases e with
  |tup es=>obtain⟨b,ws,z,g1,g2⟩:=g;cases z;rw[h1]at g1;cases g1;rw[IsAll.inj h2 g2]
  |lst es=>obtain⟨b,ws,z,g1,g2⟩:=g;cases z;rcases g1 with⟨g1,_⟩|⟨o,g1,_⟩<;>(rw[h1]at g1;cases g1)
  |nF ls es=>obtain⟨b,ws,z,g1,g2⟩:=g;cases z;exact(g1.1.no h1 True.intro).elim
  |_=>cases g
 |.lst ds,e,_,h,g=>by
  obtain⟨a,vs,rfl,h1,h2⟩:=h;cases e with
  |tup es=>obtain⟨b,ws,z,g1,g2⟩:=g;cases z;rcases h1 with⟨h1,_⟩|⟨o,h1,_⟩<;>(rw[h1]at g1;cases g1)
  |lst es=>
   obtain⟨b,ws,z,g1,g2⟩:=g;cases z;have e:vs=ws:=by rcases h1 with⟨h1,_⟩|⟨o,h1,_⟩<;>rcases g1 with⟨g1,_⟩|⟨o',g1,_⟩<;>(rw[h1]at g1;cases g1;try rfl)
   subst e;rw[IsAll.inj h2 g2]
  |nF ls es=>obtain⟨b,ws,z,g1,g2⟩:=g;cases z;rcases h1 with⟨h1,_⟩|⟨o,h1,_⟩<;>exact(g1.1.no h1 True.intro).elim
  |_=>cases g
 |.nF ks ds,e,_,h,g=>by
  obtain⟨a,vs,rfl,h1,h2⟩:=h;cases e with
  |tup es=>obtain⟨b,ws,z,g1,g2⟩:=g;cases z;exact(h1.1.no g1 True.intro).elim
  |lst es=>obtain⟨b,ws,z,g1,g2⟩:=g;cases z;rcases g1 with⟨g1,_⟩|⟨o,g1,_⟩<;>exact(h1.1.no g1 True.intro).elim
  |nF ls es=>obtain⟨b,ws,z,g1,g2⟩:=g;cases z;obtain⟨e1,e2⟩:=h1.1.inj g1.1;subst e1 e2;rw[IsAll.inj h2 g2]
  |_=>cases g
theorem IsAll.inj:∀{ds es:List D}{vs:List V},IsAll H m ds vs->IsAll H m' es vs->ds=es
 |[],es,_,h,g=>by
  cases h;cases es with
  |nil=>rfl
  |cons e es=>obtain⟨_,_,z,_⟩:=g;cases z
 |d::ds,es,_,h,g=>by
  obtain⟨v,r,rfl,h1,h2⟩:=h;cases es with
  |nil=>cases g
  |cons e es=>obtain⟨w,q,z,g1,g2⟩:=g;cases z;rw[Is.inj h1 g1,IsAll.inj h2 g2]
end
theorem IsAll.length:∀{ds:List D}{vs:List V},IsAll H m ds vs->vs.length=ds.length
 |[],_,h=>by cases h;rfl
 |d::ds,_,h=>by obtain⟨v,r,rfl,_,h2⟩:=h;simp[IsAll.length h2]
theorem IsAll.append:∀{ds es:List D}{vs ws:List V},IsAll H m ds vs->IsAll H m es ws->IsAll H m (ds++es) (vs++ws)
 |[],_,_,_,h,g=>by cases h;exact g
 |d::ds,_,_,_,h,g=>by obtain⟨v,r,rfl,h1,h2⟩:=h;exact⟨v,r++_,rfl,h1,IsAll.append h2 g⟩
def IsAll.snoc(h:IsAll H m ds vs)(g:Is H m d v):IsAll H m (ds++[d]) (vs++[v]):=h.append ⟨v,[],rfl,g,rfl⟩
theorem IsAll.get:∀{ds:List D}{vs:List V}{i:Nat}{d:D},IsAll H m ds vs->ds[i]?=some d->∃v,vs[i]?=some v/\Is H m d v
 |[],_,_,_,_,e=>by simp at e
 |d::ds,_,0,_,h,e=>by obtain⟨v,r,rfl,h1,h2⟩:=h;simp at e;subst e;exact⟨v,rfl,h1⟩
 |d::ds,_,i+1,_,h,e=>by obtain⟨v,r,rfl,h1,h2⟩:=h;obtain⟨w,a,b⟩:=IsAll.get (i:=i) h2 (by simpa using e);exact⟨w,by simpa using a,b⟩
theorem IsAll.take:∀{ds:List D}{vs:List V}(n:Nat),IsAll H m ds vs->IsAll H m (ds.take n) (vs.take n)
 |_,_,0,_=>rfl
 |[],_,n+1,h=>by cases h;exact rfl
 |d::ds,_,n+1,h=>by obtain⟨v,r,rfl,h1,h2⟩:=h;exact⟨v,r.take n,rfl,h1,IsAll.take n h2⟩
theorem IsAll.drop:∀{ds:List D}{vs:List V}(n:Nat),IsAll H m ds vs->IsAll H m (ds.drop n) (vs.drop n)
 |_,_,0,h=>h
 |[],_,n+1,h=>by cases h;exact rfl
 |d::ds,_,n+1,h=>by obtain⟨v,r,rfl,h1,h2⟩:=h;exact IsAll.drop n h2
end
section
variable{s:QX}{m m':Addr->Prop}
def Hm(ok:HOk P w H s.heap)(h:(H a=some (.lst vs)/\m a)\/∃o,H a=some (.cV o (.lst vs))/\m a) :
 ∃its:List Q0,Vals vs its/\s.heap.IsList a its.toArray:=by
 have key:ObjOk P w H s.heap a (.lst vs)->∃its:List Q0,Vals vs its/\s.heap.IsList a its.toArray:=λ⟨_,its,n,r,e⟩=>⟨its,r,⟨_,e,rfl,n,rfl⟩⟩;rcases h with⟨h,_⟩|⟨o,h,_⟩
 .exact key (ok a _ h)
 .exact key (ok a _ h).2
def Ho(ok:HOk P w H s.heap)(h:H a=some (.tup vs)):∃its:List Q0,Vals vs its/\s.heap.IsTuple a its.toArray:=by obtain⟨_,its,r,e⟩:=ok a _ h;exact⟨its,r,e⟩
def zl(n:Nat)(e:Nat->Bool):(List.range n).all e=true↔∀j,j<n->e j=true:=by simp[sk,jl]
theorem pq:∀(ds es:List D),eqDs ds es=true↔ds.length=es.length/\∀(j:Nat)(d e:D),ds[j]?=some d->es[j]?=some e->lc d e=true
 |[],[]=>by simp[eqDs]
 |[],e::es=>by simp[eqDs]
 |d::ds,[]=>by simp[eqDs]
 |d::ds,e::es=>by
  simp only[eqDs,jh,pq ds es,fU,Nat.add_right_cancel_iff];constructor
  .rintro⟨h1,h2,h3⟩;refine⟨h2,λj x y ex ey=>?_⟩;cases j with
   |zero=>simp at ex ey;subst ex;subst ey;exact h1
   |succ j=>exact h3 j x y (by simpa using ex) (by simpa using ey)
  .rintro⟨h2,h3⟩;exact⟨h3 0 d e rfl rfl,h2,λj x y ex ey=>h3 (j+1) x y (by simpa using ex) (by simpa using ey)⟩
theorem fY:∀{ds:List D}{j:Nat}{d:D},ds[j]?=some d->d.dep<=D.lE ds
 |[],_,_,e=>by simp at e
 |d::ds,0,_,e=>by simp at e;subst e;simp only[D.lE];lia
 |d::ds,j+1,x,e=>by have:=fY (ds:=ds) (j:=j) (d:=x) (by simpa using e);simp only[D.lE];lia
def sP(ok:HOk P w H s.heap){A:Q1}{ds es:List D}(h1:IsAll H m ds vs)(h2:IsAll H m' es ws)(r1:Vals vs its)(r2:Vals ws its2)
 (rec:∀d∈ds,∀e∈es,∀(v w:V)(u u':Q0),Is H m d v->Is H m' e w->RelV v u->RelV w u'->SeqAt.EqAt A.in1 s u u' (lc d e)) :
 ∀j (z1:j<its.toArray.size) (z2:j<its2.toArray.size),SeqAt.EqAt A.in1 s its.toArray[j] its2.toArray[j] (match ds[j]?,es[j]? with|some d,some e=>lc d e|_,_=>true):=by
 intro j z1 z2;have l1:=r1.length;have l2:=r2.length;have l3:=h1.length;have l4:=h2.length;have y1:j<its.length:=by simpa using z1
 have y2:j<its2.length:=by simpa using z2
 have k1:j<ds.length:=by lia
 have k2:j<es.length:=by lia
 obtain⟨v,ev,iv⟩:=h1.get (i:=j) (d:=ds[j]) (by simp[k1]);obtain⟨v',ev',iv'⟩:=h2.get (i:=j) (d:=es[j]) (by simp[k2]);obtain⟨u,eu,ru⟩:=r1.get ev;obtain⟨u',eu',ru'⟩:=r2.get ev'
 grind
theorem wH(hl:ds.length=es.length) :
 ((List.range ds.length).all λj=>match ds[j]?,es[j]? with|some d,some e=>lc d e|_,_=>true)=eqDs ds es:=by
 rw[PB,zl,pq];constructor
 .intro h;refine⟨hl,λj d e ed ee=>?_⟩;have:=h j (ci.mp ed).1;rw[ed,ee]at this;exact this
 .rintro⟨_,h⟩ j hj;have e1:ds[j]?=some ds[j]:=by simp[hj]
  have hj':j<es.length:=by lia
  have e2:es[j]?=some es[j]:=by simp[hj']
  rw[e1,e2];exact h j _ _ e1 e2
theorem sQ(hl:ds.length≠es.length):eqDs ds es=false:=by grind [eqDs,pq]
end
section
variable{s:QX}
abbrev nL(H:Hp)(s:QX)(m m':Addr->Prop)(A:Q1)(n:Nat):Prop:=∀(d e:D)(v w:V)(u u':Q0),d.dep<n->e.dep<1000->Is H m d v->Is H m' e w->RelV v u->RelV w u'->SeqAt.EqAt A.in1 s u u' (lc d e)
section
def px(ok:HOk P w H s.heap)(hn:(D.lst l1).dep<=n)(hE:(D.lst l2).dep<1000)(hu:A.units<cLine)(q1:IsAll H m l1 vs1)(q2:IsAll H m' l2 vs2)(y1:Vals vs1 its1)(y2:Vals vs2 its2)(p1:s.heap.IsList a1 its1.toArray)(p2:s.heap.IsList a2 its2.toArray)
 (rec:nL H s m m' A n):SeqAt.RcAt A s (.ref a1) (.ref a2) (lc (.lst l1) (.lst l2)):=by
 have e1:its1.toArray.size=l1.length:=by rw[cP,<- y1.length,q1.length]
 have e2:its2.toArray.size=l2.length:=by rw[cP,<- y2.length,q2.length]
 have hd:∀d∈l1,d.dep<n:=λd hd=>by obtain⟨j,hj⟩:=cS.mp hd;have:=fY hj;simp only[D.dep]at hn;lia
 have he:∀e∈l2,e.dep<1000:=λd hd=>by obtain⟨j,hj⟩:=cS.mp hd;have:=fY hj;simp only[D.dep]at hE;lia
 by_cases hl:l1.length=l2.length
 .have z:=SeqAt.RcAt.lists p1 p2 (by rw[e1,e2,hl]) hu (sP ok q1 q2 y1 y2 λd hm e hm2 v w u u' i1 i2 r1 r2=>rec d e v w u u' (hd d hm) (he e hm2) i1 i2 r1 r2);rw[e1,wH hl]at z;exact z
 .have z:=SeqAt.RcAt.lists_lengths p1 p2 (by rw[e1,e2];simpa using hl) hu;rw[show lc (.lst l1) (.lst l2)=eqDs l1 l2 from rfl,sQ hl];exact z
def sR(ok:HOk P w H s.heap)(hn:(D.lst l1).dep<=n)(hE:(D.lst l2).dep<1000)(hu:A.units<cLine)(q1:IsAll H m l1 vs1)(q2:IsAll H m' l2 vs2)(y1:Vals vs1 its1)(y2:Vals vs2 its2)(p1:s.heap.IsList a1 its1.toArray)(p2:s.heap.IsList a2 its2.toArray)
 (rec:nL H s m m' A n):SeqAt.RcNeAt A s (.ref a1) (.ref a2) (!lc (.lst l1) (.lst l2)):=by
 have e1:its1.toArray.size=l1.length:=by rw[cP,<- y1.length,q1.length]
 have e2:its2.toArray.size=l2.length:=by rw[cP,<- y2.length,q2.length]
 have hd:∀d∈l1,d.dep<n:=λd hd=>by obtain⟨j,hj⟩:=cS.mp hd;have:=fY hj;simp only[D.dep]at hn;lia
 have he:∀e∈l2,e.dep<1000:=λd hd=>by obtain⟨j,hj⟩:=cS.mp hd;have:=fY hj;simp only[D.dep]at hE;lia
 by_cases hl:l1.length=l2.length
 .have z:=SeqAt.RcNeAt.lists p1 p2 (by rw[e1,e2,hl]) hu (sP ok q1 q2 y1 y2 λd hm e hm2 v w u u' i1 i2 r1 r2=>rec d e v w u u' (hd d hm) (he e hm2) i1 i2 r1 r2);rw[e1,wH hl]at z;exact z
 .have z:=SeqAt.RcNeAt.lists_lengths p1 p2 (by rw[e1,e2];simpa using hl) hu;rw[show lc (.lst l1) (.lst l2)=eqDs l1 l2 from rfl,sQ hl];exact z
def xX:((List.range (min l1.length l2.length)).all (λj=>match l1[j]?,l2[j]? with|some d,some e=>lc d e|_,_=>true)&&l1.length==l2.length)=eqDs l1 l2:=by grind [wH,sQ]
def rE(ok:HOk P w H s.heap)(hn:(D.tup l1).dep<=n)(hE:(D.tup l2).dep<1000)(hu:A.units<cLine)(q1:IsAll H m l1 vs1)(q2:IsAll H m' l2 vs2)(y1:Vals vs1 its1)(y2:Vals vs2 its2)(p1:s.heap.IsTuple a1 its1.toArray)(p2:s.heap.IsTuple a2 its2.toArray)
 (rec:nL H s m m' A n):SeqAt.RcAt A s (.ref a1) (.ref a2) (lc (.tup l1) (.tup l2)):=by
 have e1:its1.toArray.size=l1.length:=by rw[cP,<- y1.length,q1.length]
 have e2:its2.toArray.size=l2.length:=by rw[cP,<- y2.length,q2.length]
 have hd:∀d∈l1,d.dep<n:=λd hd=>by obtain⟨j,hj⟩:=cS.mp hd;have:=fY hj;simp only[D.dep]at hn;lia
 have he:∀e∈l2,e.dep<1000:=λd hd=>by obtain⟨j,hj⟩:=cS.mp hd;have:=fY hj;simp only[D.dep]at hE;lia
 have z:=SeqAt.RcAt.tuples p1 p2 hu (sP ok q1 q2 y1 y2 λd hm e hm2 v w u u' i1 i2 r1 r2=>rec d e v w u u' (hd d hm) (he e hm2) i1 i2 r1 r2);rw[e1,e2,xX]at z;exact z
def uM(ok:HOk P w H s.heap)(hn:(D.tup l1).dep<=n)(hE:(D.tup l2).dep<1000)(hu:A.units<cLine)(q1:IsAll H m l1 vs1)(q2:IsAll H m' l2 vs2)(y1:Vals vs1 its1)(y2:Vals vs2 its2)(p1:s.heap.IsTuple a1 its1.toArray)(p2:s.heap.IsTuple a2 its2.toArray)
 (rec:nL H s m m' A n):SeqAt.RcNeAt A s (.ref a1) (.ref a2) (!lc (.tup l1) (.tup l2)):=by
 have e1:its1.toArray.size=l1.length:=by rw[cP,<- y1.length,q1.length]
 have e2:its2.toArray.size=l2.length:=by rw[cP,<- y2.length,q2.length]
 have hd:∀d∈l1,d.dep<n:=λd hd=>by obtain⟨j,hj⟩:=cS.mp hd;have:=fY hj;simp only[D.dep]at hn;lia
 have he:∀e∈l2,e.dep<1000:=λd hd=>by obtain⟨j,hj⟩:=cS.mp hd;have:=fY hj;simp only[D.dep]at hE;lia
 have z:=SeqAt.RcNeAt.tuples p1 p2 hu (sP ok q1 q2 y1 y2 λd hm e hm2 v w u u' i1 i2 r1 r2=>rec d e v w u u' (hd d hm) (he e hm2) i1 i2 r1 r2);rw[e1,e2,xX]at z;exact z
def uN(h:SeqAt.RcAt A s (.ref a1) (.ref a2) k)(hs:a1=a2->k=true):SeqAt.EqAt A s (.ref a1) (.ref a2) k:=by
 by_cases e:a1=a2
 .subst e;rw[hs rfl];exact SeqAt.EqAt.same _
 .exact SeqAt.EqAt.of_refs e h
end
def Is.shape(ok:HOk P w H s.heap)(hE:d.dep<1000)(h:Is H m d v)(r:RelV v u):(d=.bL/\u=.none)\/(∃b,d=.bl b/\u=.bool b)\/(∃i t,d=.int i/\u=.int i t)\/(∃x t,d=.str x/\u=.str x t)\/
 (∃l a vs its,d=.lst l/\v=.ref a/\u=.ref a/\IsAll H m l vs/\Vals vs its/\s.heap.IsList a its.toArray)\/∃l a vs its,d=.tup l/\v=.ref a/\u=.ref a/\IsAll H m l vs/\Vals vs its/\s.heap.IsTuple a its.toArray:=by
 cases d with
 |bL=>cases h;cases r;exact .inl ⟨rfl,rfl⟩
 |bl b=>cases h;cases r;exact .inr (.inl ⟨b,rfl,rfl⟩)
 |int i=>cases h;obtain⟨t,rfl⟩:=r;exact .inr (.inr (.inl ⟨i,t,rfl,rfl⟩))
 |str x=>cases h;obtain⟨t,rfl⟩:=r;exact .inr (.inr (.inr (.inl ⟨x,t,rfl,rfl⟩)))
 |lst l=>obtain⟨a,vs,rfl,g,q⟩:=h;cases r;obtain⟨its,y,p⟩:=Hm ok g;exact .inr (.inr (.inr (.inr (.inl ⟨l,a,vs,its,rfl,rfl,rfl,q,y,p⟩))))
 |tup l=>obtain⟨a,vs,rfl,g,q⟩:=h;cases r;obtain⟨its,y,p⟩:=Ho ok g;exact .inr (.inr (.inr (.inr (.inr ⟨l,a,vs,its,rfl,rfl,rfl,q,y,p⟩))))
 |nF k l=>exact absurd hE (by simp only[D.dep];lia)
def El(ok:HOk P w H s.heap)(hu:A.units<cLine)(rec:nL H s m m' A n)(hn:d.dep<=n)(hN:n<1000)(hE:e.dep<1000)(h1:Is H m d v)(h2:Is H m' e w')(r1:RelV v u)(r2:RelV w' u') :
 SeqAt.RcAt A s u u' (lc d e):=by
 rcases h1.shape ok (by lia) r1 with⟨rfl,rfl⟩|⟨b1,rfl,rfl⟩|⟨i1,t1,rfl,rfl⟩|⟨x1,t1,rfl,rfl⟩|⟨l1,a1,vs1,its1,rfl,rfl,rfl,q1,y1,p1⟩|⟨l1,a1,vs1,its1,rfl,rfl,rfl,q1,y1,p1⟩<;>rcases h2.shape ok hE r2 with⟨rfl,rfl⟩|⟨b2,rfl,rfl⟩|⟨i2,t2,rfl,rfl⟩|⟨x2,t2,rfl,rfl⟩|⟨l2,a2,vs2,its2,rfl,rfl,rfl,q2,y2,p2⟩|⟨l2,a2,vs2,its2,rfl,rfl,rfl,q2,y2,p2⟩;exact .none_none;exact .none_bool b2;exact .none_int i2 t2;exact .none_str x2 t2;exact .none_list p2 hu;exact .none_tuple p2 hu;exact .bool_none b1;exact .bool_bool b1 b2;exact .bool_int b1 i2 t2;exact .bool_str b1 x2 t2;exact .bool_list b1 p2 hu;exact .bool_tuple b1 p2 hu;exact .int_none i1 t1;exact .int_bool i1 t1 b2;exact .int_int i1 t1 i2 t2;exact .int_str i1 t1 x2 t2;exact .int_list i1 t1 p2 hu;exact .int_tuple i1 t1 p2 hu;exact .str_none x1 t1;exact .str_bool x1 t1 b2;exact .str_int x1 t1 i2 t2;exact .str_str x1 t1 x2 t2;exact .str_list x1 t1 p2 hu;exact .str_tuple x1 t1 p2 hu;exact .list_none p1 hu;exact .list_bool b2 p1 hu;exact .list_int i2 t2 p1 hu;exact .list_str x2 t2 p1 hu;exact px ok hn hE hu q1 q2 y1 y2 p1 p2 rec;exact .list_tuple p1 p2 hu;exact .tuple_none p1 hu;exact .tuple_bool b2 p1 hu;exact .tuple_int i2 t2 p1 hu;exact .tuple_str x2 t2 p1 hu;exact .tuple_list p1 p2 hu;exact rE ok hn hE hu q1 q2 y1 y2 p1 p2 rec
def Em(ok:HOk P w H s.heap)(hu:A.units<cLine)(rec:nL H s m m' A n)(hn:d.dep<=n)(hN:n<1000)(hE:e.dep<1000)(h1:Is H m d v)(h2:Is H m' e w')(r1:RelV v u)(r2:RelV w' u') :
 SeqAt.RcNeAt A s u u' (!lc d e):=by
 rcases h1.shape ok (by lia) r1 with⟨rfl,rfl⟩|⟨b1,rfl,rfl⟩|⟨i1,t1,rfl,rfl⟩|⟨x1,t1,rfl,rfl⟩|⟨l1,a1,vs1,its1,rfl,rfl,rfl,q1,y1,p1⟩|⟨l1,a1,vs1,its1,rfl,rfl,rfl,q1,y1,p1⟩<;>rcases h2.shape ok hE r2 with⟨rfl,rfl⟩|⟨b2,rfl,rfl⟩|⟨i2,t2,rfl,rfl⟩|⟨x2,t2,rfl,rfl⟩|⟨l2,a2,vs2,its2,rfl,rfl,rfl,q2,y2,p2⟩|⟨l2,a2,vs2,its2,rfl,rfl,rfl,q2,y2,p2⟩;exact .none_none;exact .none_bool b2;exact .none_int i2 t2;exact .none_str x2 t2;exact .none_list p2 hu;exact .none_tuple p2 hu;exact .bool_none b1;exact .bool_bool b1 b2;exact .bool_int b1 i2 t2;exact .bool_str b1 x2 t2;exact .bool_list b1 p2 hu;exact .bool_tuple b1 p2 hu;exact .int_none i1 t1;exact .int_bool i1 t1 b2;exact .int_int i1 t1 i2 t2;exact .int_str i1 t1 x2 t2;exact .int_list i1 t1 p2 hu;exact .int_tuple i1 t1 p2 hu;exact .str_none x1 t1;exact .str_bool x1 t1 b2;exact .str_int x1 t1 i2 t2;exact .str_str x1 t1 x2 t2;exact .str_list x1 t1 p2 hu;exact .str_tuple x1 t1 p2 hu;exact .list_none p1 hu;exact .list_bool b2 p1 hu;exact .list_int i2 t2 p1 hu;exact .list_str x2 t2 p1 hu;exact sR ok hn hE hu q1 q2 y1 y2 p1 p2 rec;exact .list_tuple p1 p2 hu;exact .tuple_none p1 hu;exact .tuple_bool b2 p1 hu;exact .tuple_int i2 t2 p1 hu;exact .tuple_str x2 t2 p1 hu;exact .tuple_list p1 p2 hu;exact uM ok hn hE hu q1 q2 y1 y2 p1 p2 rec
def xY(ok:HOk P w H s.heap)(hu:A.units<cLine)(rec:nL H s m m' A n)(hn:d.dep<=n)(hN:n<1000)(hE:e.dep<1000)(h1:Is H m d v)(h2:Is H m' e w')(r1:RelV v u)(r2:RelV w' u') :
 SeqAt.EqAt A s u u' (lc d e):=by
 rcases h1.shape ok (by lia) r1 with⟨rfl,rfl⟩|⟨b1,rfl,rfl⟩|⟨i1,t1,rfl,rfl⟩|⟨x1,t1,rfl,rfl⟩|⟨l1,a1,vs1,its1,rfl,rfl,rfl,q1,y1,p1⟩|⟨l1,a1,vs1,its1,rfl,rfl,rfl,q1,y1,p1⟩<;>rcases h2.shape ok hE r2 with⟨rfl,rfl⟩|⟨b2,rfl,rfl⟩|⟨i2,t2,rfl,rfl⟩|⟨x2,t2,rfl,rfl⟩|⟨l2,a2,vs2,its2,rfl,rfl,rfl,q2,y2,p2⟩|⟨l2,a2,vs2,its2,rfl,rfl,rfl,q2,y2,p2⟩;exact .same _;exact .none_bool b2;exact .none_int i2 t2;exact .none_str x2 t2;exact .none_list p2 hu;exact .none_tuple p2 hu;exact .bool_none b1;exact .bool_bool b1 b2;exact .bool_int b1 i2 t2;exact .bool_str b1 x2 t2;exact .bool_list b1 p2 hu;exact .bool_tuple b1 p2 hu;exact .int_none i1 t1;exact .int_bool i1 t1 b2;exact .int_int i1 t1 i2 t2;exact .int_str i1 t1 x2 t2;exact .int_list i1 t1 p2 hu;exact .int_tuple i1 t1 p2 hu;exact .str_none x1 t1;exact .str_bool x1 t1 b2;exact .str_int x1 t1 i2 t2;exact .str_str x1 t1 x2 t2;exact .str_list x1 t1 p2 hu;exact .str_tuple x1 t1 p2 hu;exact .list_none p1 hu;exact .list_bool b2 p1 hu;exact .list_int i2 t2 p1 hu;exact .list_str x2 t2 p1 hu;exact uN (px ok hn hE hu q1 q2 y1 y2 p1 p2 rec) (λz=>by subst z;rw[Is.inj h1 h2];exact jA _);exact .list_tuple p1 p2 hu;exact .tuple_none p1 hu;exact .tuple_bool b2 p1 hu;exact .tuple_int i2 t2 p1 hu;exact .tuple_str x2 t2 p1 hu;exact .tuple_list p1 p2 hu;exact uN (rE ok hn hE hu q1 q2 y1 y2 p1 p2 rec) (λz=>by subst z;rw[Is.inj h1 h2];exact jA _)
theorem FO(ok:HOk P w H s.heap):∀(n:Nat)(A:Q1){d e:D}{v w':V}{u u':Q0},A.units+n<cLine->n<1000->d.dep<=n->e.dep<1000->Is H m d v->Is H m' e w'->RelV v u->RelV w' u'->SeqAt.EqAt A s u u' (lc d e)
 |0,A,d,e,v,w',u,u',hu,hN,hn,hE,h1,h2,r1,r2=>xY ok (by lia) (λd e v w u u' hd=>absurd hd (by lia)) hn hN hE h1 h2 r1 r2
 |n+1,A,d,e,v,w',u,u',hu,hN,hn,hE,h1,h2,r1,r2=>xY ok (by lia) (λd e v w u u' hd he i1 i2 r1 r2=>FO ok n A.in1 (by show A.units+1+n<cLine;lia) (by lia) (by lia) he i1 i2 r1 r2) hn hN hE h1 h2 r1 r2
def Bu(ok:HOk P w H s.heap)(hu:A.units+n<cLine)(hN:n<1000):nL H s m m' A n:=λd e v w u u' hd he i1 i2 r1 r2=>FO ok (n-1) A.in1 (by show A.units+1+(n-1)<cLine;lia) (by lia) (by lia) he i1 i2 r1 r2
end
abbrev St:=L2.St
inductive Res(α:Type) where
 |stuck|ok (a:α)|exc (c:Str)
noncomputable def Res.bind{α β:Type}:Res α->(α->Res β)->Res β
 |.stuck,_=>.stuck
 |.exc c,_=>.exc c
 |.ok a,k=>k a
@[simp] theorem Res.gd {α β:Type}(a:α)(k:α->Res β):(Res.ok a).bind k=k a:=rfl
inductive Kd where
 |no|tr (d:D)|ds (d:D)
inductive Sl where
 |val (d:D) (fr:Bool)|own (ds:List D) (fr:Bool)|uf (d:D)|Dy (d:D)
noncomputable abbrev En:=List (Option Sl)
inductive R where
 |val (d:D) (fr:Bool) (al:List Nat)|new (ds:List D) (fr:Bool)|lJ (d:D)
noncomputable def R.d:R->D
 |.val d _ _=>d
 |.new ds _=>.lst ds
 |.lJ d=>d
noncomputable def R.fr:R->Bool
 |.val _ f _=>f
 |.new _ f=>f
 |.lJ _=>true
noncomputable def R.al:R->List Nat
 |.val _ _ al=>al
 |.new _ _=>[]
 |.lJ _=>[]
def lH(d:D)(fr:Bool)(al:List Nat):R:=if d.flat then .val d true []else .val d fr al
structure Gd where
 H₀:Hp
 Ma:Addr->Prop
 Z:Addr->Prop
 root:Option V
 Ob:Option V
noncomputable abbrev JO(H:Hp)(Ma:Addr->Prop):Gd:=⟨H,Ma,λ_=>False,none,none⟩
def MuZ(g:Gd)(H:Hp)(a:Addr):Prop:=Mu H a\/(g.Z a/\∃o u,H a=some (.cV o u))
theorem MuZ.same(h:MuZ g H a)(s:∀o,H a=some o->H' a=some o):MuZ g H' a:=h.imp (λz=>z.same s) λ⟨z,o,u,e⟩=>⟨z,o,u,s _ e⟩
def gD(g:Gd)(M:Addr->Prop)(fr:Bool)(a:Addr):Prop:=M a/\(fr=true->g.H₀ a=none)
noncomputable abbrev Pr:=Nat->Addr->Prop
def vmsk(g:Gd)(M:Addr->Prop)(fr:Bool)(ρ:Pr)(al:List Nat)(a:Addr):Prop:=gD g M fr a\/∃i,i∈al/\ρ i a
mutual
noncomputable def IsSh(H:Hp)(m:Addr->Prop):D->V->Prop
 |.tup ds,v=>∃a vs,v=.ref a/\H a=some (.tup vs)/\IsShs H m ds vs
 |.lst _,v=>∃a vs,v=.ref a/\H a=some (.lst vs)/\m a
 |_,_=>True
noncomputable def IsShs(H:Hp)(m:Addr->Prop):List D->List V->Prop
 |[],_=>True
 |d::ds,vs=>∃v r,vs=v::r/\IsSh H m d v/\IsShs H m ds r
end
def Dst(H:Hp)(T:Addr->Prop)(v:V):Prop:=∃(a:Addr)(vs:List V),v=.ref a/\T a/\(H a=some (.lst vs)\/(∃kvs,H a=some (.dK kvs)/\vs=kvs.map Prod.snd)\/(H a=some (.dT [])/\vs=[]))/\V.ref a∉vs/\∀(i j:Nat)(b:Addr),vs[i]?=some (V.ref b)->vs[j]?=some (V.ref b)->i=j
def Dst.mono(kp:∀a o,T a->H a=some o->H' a=some o)(mm:∀a,T a->T' a)(h:Dst H T v):Dst H' T' v:=by obtain⟨a,vs,e,ta,h1,h2⟩:=h;exact⟨a,vs,e,mm a ta,h1.imp (kp a _ ta) (.imp (λ⟨kvs,q,z⟩=>⟨kvs,kp a _ ta q,z⟩) λ⟨q,z⟩=>⟨kp a _ ta q,z⟩),h2⟩
def KdOk(H:Hp)(T:Addr->Prop)(v:V):Kd->Prop
 |.no=>True
 |.tr d=>Is H T d v
 |.ds d=>Is H T d v/\Dst H T v
theorem KdOk.mono(kp:∀a o,H a=some o->(T a\/jB o)->H' a=some o)(h:KdOk H T v k):KdOk H' T v k:=by
 cases k with
 |no=>exact h
 |tr d=>exact Is.mono kp (λ_ _ _ z=>z) h
 |ds d=>exact⟨Is.mono kp (λ_ _ _ z=>z) h.1,h.2.mono (λa o z e=>kp a o e (.inl z)) λ_ z=>z⟩
noncomputable def Gd.rt(g:Gd)(n:Nat):Option V:=if n=0 then g.root else g.Ob
def SlOk(g:Gd)(M T:Addr->Prop)(H:Hp)(v:V):Sl->Prop
 |.val d fr=>Is H (gD g M fr) d v
 |.own ds fr=>∃a vs,v=.ref a/\H a=some (.lst vs)/\(∀b,T b↔b=a)/\IsAll H (gD g M fr) ds vs
 |.uf d=>Is H T d v
 |.Dy d=>IsSh H T d v
noncomputable def Sl.MQ:Sl->Bool
 |.val _ _=>false
 |_=>true
def gK(env:En)(j:Nat):Bool:=match env[j]? with
 |some (some sl)=>sl.MQ
 |_=>false
structure Rep(g:Gd) (M:Addr->Prop) (ρ:Pr) (env:En) (σ:St) (H:Hp):Prop where
 same:Same g.H₀ H
 jr:∀a,M a->H a≠none
 ud:∀a,M a->g.H₀ a=none\/g.Ma a
 fl:∀a,M a->g.H₀ a=none->MuZ g H a
 slot:∀(i:Nat)(sl:Sl),env[i]?=some (some sl)->∃v,σ[i]?=some (some v)/\SlOk g M (ρ i) H v sl
 cI:∀(i:Nat)(a:Addr),ρ i a->¬M a/\g.H₀ a=none/\Mu H a
 apart:∀(i j:Nat)(a:Addr),ρ i a->ρ j a->i=j
 ow:∀(i:Nat)(a:Addr),ρ i a->gK env i=true
 len:env.length=σ.length
 zz:∀a,g.Z a->H a≠none
def ROk(g:Gd)(M:Addr->Prop)(ρ:Pr)(H0 H:Hp)(v:V):R->Prop
 |.val d fr al=>Is H (vmsk g M fr ρ al) d v
 |.new ds fr=>∃a vs,v=.ref a/\H a=some (.lst vs)/\¬M a/\H0 a=none/\(∀i,¬ρ i a)/\IsAll H (gD g M fr) ds vs
 |.lJ d=>∃T:Addr->Prop,(∀a,T a->¬M a/\H0 a=none/\Mu H a/\∀i,¬ρ i a)/\Is H T d v
structure Ext(M:Addr->Prop) (H:Hp) (M':Addr->Prop) (H':Hp):Prop where
 m:∀a,M a->M' a
 h:Same H H'
 n:∀a,M' a->M a\/H a=none
theorem Ext.refl(M:Addr->Prop)(H:Hp):Ext M H M H:=⟨λ_ z=>z,Same.refl H,λ_ z=>.inl z⟩
theorem Ext.trans{M M1 M2:Addr->Prop}(a:Ext M H M1 H1)(b:Ext M1 H1 M2 H2):Ext M H M2 H2:=⟨λx z=>b.m x (a.m x z),a.h.trans b.h,λx z=>(b.n x z).elim (a.n x) λw=>.inr (a.h.free w)⟩
section
mutual
theorem IsSh.mono(kp:∀a o,H a=some o->jB o->H' a=some o)(kl:∀a vs,m a->H a=some (.lst vs)->∃vs',H' a=some (.lst vs'))(mm:∀a,m a->m' a):∀{d:D}{v:V},IsSh H m d v->IsSh H' m' d v
 |.bL,_,h=>h
 |.bl _,_,h=>h
 |.int _,_,h=>h
 |.str _,_,h=>h
 |.tup ds,_,h=>by obtain⟨a,vs,e,h1,h2⟩:=h;exact⟨a,vs,e,kp a _ h1 True.intro,IsShs.mono kp kl mm h2⟩
 |.lst ds,_,h=>by obtain⟨a,vs,e,h1,h2⟩:=h;obtain⟨vs',h3⟩:=kl a vs h2 h1;exact⟨a,vs',e,h3,mm a h2⟩
 |.nF _ _,_,h=>h
theorem IsShs.mono(kp:∀a o,H a=some o->jB o->H' a=some o)(kl:∀a vs,m a->H a=some (.lst vs)->∃vs',H' a=some (.lst vs'))(mm:∀a,m a->m' a):∀{ds:List D}{vs:List V},IsShs H m ds vs->IsShs H' m' ds vs
 |[],_,h=>h
 |d::ds,_,h=>by obtain⟨v,r,e,h1,h2⟩:=h;exact⟨v,r,e,IsSh.mono kp kl mm h1,IsShs.mono kp kl mm h2⟩
end
def gD.mono(mm:∀a,M a->M' a)(h:gD g M fr a):gD g M' fr a:=⟨mm a h.1,h.2⟩
theorem vmsk.mono(mm:∀a,M a->M' a)(h:vmsk g M fr ρ al a):vmsk g M' fr ρ al a:=h.imp (gD.mono mm) id
def Is.ext(e:Ext M H M' H')(h:Is H (vmsk g M fr ρ al) d v):Is H' (vmsk g M' fr ρ al) d v:=h.mono (λa o q _=>e.h a o q) λ_ _ _ z=>z.mono e.m
def IsAll.ext(e:Ext M H M' H')(h:IsAll H (vmsk g M fr ρ al) ds vs):IsAll H' (vmsk g M' fr ρ al) ds vs:=h.mono (λa o q _=>e.h a o q) λ_ _ _ z=>z.mono e.m
theorem SlOk.weak(mm:∀a,M a->M' a)(h:SlOk g M T H v sl):SlOk g M' T H v sl:=by
 cases sl with
 |val d fr=>exact Is.weak (λb z=>gD.mono mm z) h
 |own ds fr=>obtain⟨b,vs,rfl,h1,h2,h4⟩:=h;exact⟨b,vs,rfl,h1,h2,IsAll.weak (λb z=>gD.mono mm z) h4⟩
 |uf d=>exact h
 |Dy d=>exact h
theorem SlOk.same(s:Same H H')(h:SlOk g M T H v sl):SlOk g M T H' v sl:=by
 cases sl with
 |val d fr=>exact Is.same s h
 |own ds fr=>obtain⟨b,vs,rfl,h1,h2,h4⟩:=h;exact⟨b,vs,rfl,s _ _ h1,h2,IsAll.same s h4⟩
 |uf d=>exact Is.same s h
 |Dy d=>exact IsSh.mono (λa o e _=>s a o e) (λa vs _ e=>⟨vs,s _ _ e⟩) (λ_ z=>z) h
def Rep.Du{T:Addr->Prop}(r:Rep g M ρ env σ H)(ht:∀a,T a->Mu H a/\g.H₀ a=none/\∀i,¬ρ i a):Rep g (λb=>M b\/T b) ρ env σ H where
 same:=r.same
 jr:=λb hb=>hb.elim (r.jr b) λe=>(ht b e).1.some
 ud:=λb hb=>hb.elim (r.ud b) λe=>.inl (ht b e).2.1
 fl:=λb hb h0=>hb.elim (λz=>r.fl b z h0) λe=>.inl (ht b e).1
 slot:=λi sl e=>by obtain⟨v,ev,s⟩:=r.slot i sl e;exact⟨v,ev,SlOk.weak (λ_=>.inl) s⟩
 cI:=λi a h=>⟨λz=>z.elim (r.cI i a h).1 λz=>(ht a z).2.2 i h,(r.cI i a h).2⟩
 apart:=r.apart
 ow:=r.ow
 len:=r.len
 zz:=r.zz
def Rep.more{a:Addr}(r:Rep g M ρ env σ H)(ha:H a=some (.lst ws))(h0:g.H₀ a=none)(no:∀i,¬ρ i a):Rep g (λb=>M b\/b=a) ρ env σ H:=r.Du λb e=>by subst e;exact⟨Mu.lst ha,h0,no⟩
def Rep.grow(r:Rep g M ρ env σ H)(s:Same H H'):Rep g M ρ env σ H' where
 same:=r.same.trans s
 jr:=λa ha e=>by
  cases q:H a with
  |none=>exact r.jr a ha q
  |some o=>rw[s a o q]at e;cases e
 ud:=r.ud
 fl:=λa ha h0=>(r.fl a ha h0).same λo e=>s a o e
 slot:=λi sl e=>by obtain⟨v,ev,k⟩:=r.slot i sl e;exact⟨v,ev,SlOk.same s k⟩
 cI:=λi a h=>let ⟨a1,a2,a3⟩:=r.cI i a h;⟨a1,a2,a3.same λo e=>s a o e⟩
 apart:=r.apart
 ow:=r.ow
 len:=r.len
 zz:=λa z e=>by
  cases q:H a with
  |none=>exact r.zz a z q
  |some o=>rw[s a o q]at e;cases e
theorem Rep.free(r:Rep g M ρ env σ H)(h:H a=none):g.H₀ a=none/\¬M a/\∀i,¬ρ i a:=by refine⟨r.same.free h,λz=>r.jr a z h,λi o=>?_⟩;exact(r.cI i a o).2.2.some h
def aQ(h:H a=none):Same H (aY H a o):=λb u e=>by rw[aj (ay e h)];exact e
theorem ROk.is(rep:Rep g M ρ env σ H)(x:Ext M0 H0 M H)(h0:Same g.H₀ H0)(h:ROk g M ρ H0 H v r):∃M',Ext M0 H0 M' H/\(∀a,M a->M' a)/\Rep g M' ρ env σ H/\Is H (vmsk g M' r.fr ρ r.al) r.d v:=by
 cases r with
 |val d fr al=>exact⟨M,x,λ_ z=>z,rep,h⟩
 |new ds fr=>obtain⟨a,vs,rfl,h1,h2,h3,h4,h5⟩:=h;have z0:g.H₀ a=none:=h0.free h3;exact⟨λb=>M b\/b=a,⟨λb z=>.inl (x.m b z),x.h,λb z=>z.elim (x.n b) λe=>.inr (e▸h3)⟩,λ_=>.inl,rep.more h1 z0 h4,a,vs,rfl,.inl ⟨h1,.inl ⟨.inr rfl,λ_=>z0⟩⟩,IsAll.weak (λb z=>.inl (gD.mono (λ_=>.inl) z)) h5⟩
 |lJ d=>obtain⟨T,ht,is⟩:=h;exact⟨λb=>M b\/T b,⟨λb z=>.inl (x.m b z),x.h,λb z=>z.elim (x.n b) λe=>.inr (ht b e).2.1⟩,λ_=>.inl,rep.Du λa z=>let ⟨a1,a2,a3,a4⟩:=ht a z;⟨a3,h0.free a2,a4⟩,Is.weak (λb z=>.inl ⟨.inr z,λ_=>h0.free (ht b z).2.1⟩) is⟩
theorem ROk.lH(h:Is H (vmsk g M fr ρ al) d v):ROk g M ρ H0 H v (lH d fr al):=by
 unfold L3.lH;split
 .exact Is.flat (by assumption) h
 .exact h
def ROk.back(s:Same H1 H0)(h:ROk g M ρ H0 H v r):ROk g M ρ H1 H v r:=by
 cases r with
 |val d fr al=>exact h
 |new ds fr=>obtain⟨a,vs,rfl,h1,h2,h3,h4,h5⟩:=h;exact⟨a,vs,rfl,h1,h2,s.free h3,h4,h5⟩
 |lJ d=>obtain⟨T,ht,is⟩:=h;exact⟨T,λa z=>let ⟨a1,a2,a3⟩:=ht a z;⟨a1,s.free a2,a3⟩,is⟩
end
def Eo(mg:Str->Option Q0)(E:XK)(g:Gd)(c:Str):Prop:=∀cls dx H',mg c=some cls->Same g.H₀ H'->E cls dx H'
section
variable(mg:Str->Option Q0)(E:XK)(g:Gd)(M:Addr->Prop)(ρ:Pr)(env:En)(σ:St)(H:Hp)
def PostE(Q:VK):Res R->Prop
 |.stuck=>False
 |.exc c=>Eo mg E g c
 |.ok r=>∀v M' H',Ext M H M' H'->Rep g M' ρ env σ H'->ROk g M' ρ H H' v r->Q v H'
def cb(rs:List R):Bool:=rs.all R.fr
def c_(rs:List R):List Nat:=rs.flatMap R.al
def PostA(Q:List V->Hp->Prop):Res (List R)->Prop
 |.stuck=>False
 |.exc c=>Eo mg E g c
 |.ok rs=>∀vs M' H',Ext M H M' H'->Rep g M' ρ env σ H'->IsAll H' (vmsk g M' (cb rs) ρ (c_ rs)) (rs.map R.d) vs->Q vs H'
noncomputable def PostT(Q:Bool->Hp->Prop):Res Bool->Prop
 |.stuck=>False
 |.exc c=>Eo mg E g c
 |.ok b=>∀M' H',Ext M H M' H'->Rep g M' ρ env σ H'->Q b H'
end
def Snd(mg:Str->Option Q0)(E:XK)(t:TE)(f:En->Res R):Prop:=∀g M ρ env σ H Q,Rep g M ρ env σ H->PostE mg E g M ρ env σ H Q (f env)->t σ H Q
def SndA(mg:Str->Option Q0)(E:XK)(t:TA)(f:En->Res (List R)):Prop:=∀g M ρ env σ H Q,Rep g M ρ env σ H->PostA mg E g M ρ env σ H Q (f env)->t σ H Q
def SndT(mg:Str->Option Q0)(E:XK)(t:TT)(f:En->Res Bool):Prop:=∀g M ρ env σ H Q,Rep g M ρ env σ H->PostT mg E g M ρ env σ H Q (f env)->t σ H Q
def PD(X:Cx)(E:XK)(e:Expr)(f:En->Res R):Prop:=∃t,PE X e t/\Snd X.mg E t f
def zn(X:Cx)(E:XK)(es:List Expr)(f:En->Res (List R)):Prop:=∃t,PA X es t/\SndA X.mg E t f
def zp(X:Cx)(E:XK)(e:Expr)(f:En->Res Bool):Prop:=∃t,PT X e t/\SndT X.mg E t f
def PWD(X:Cx)(E:XK)(e:Expr)(f:En->Res Bool):Prop:=∃t,PW X e t/\SndT X.mg E t f
theorem PWD.pt(h:PWD X E e f):zp X E e f:=let ⟨t,a,b⟩:=h;⟨t,a.pt,b⟩
section
def PostE.ext(e:Ext M H M' H')(p:PostE mg E g M ρ env σ H Q r):PostE mg E g M' ρ env σ H' Q r:=by
 cases r with
 |stuck=>exact p
 |exc c=>exact p
 |ok r=>exact λv M2 H2 e2 rep2 ro=>p v M2 H2 (e.trans e2) rep2 (ro.back e.h)
def PostA.ext(e:Ext M H M' H')(p:PostA mg E g M ρ env σ H Q r):PostA mg E g M' ρ env σ H' Q r:=by
 cases r with
 |stuck=>exact p
 |exc c=>exact p
 |ok r=>exact λv M2 H2 e2=>p v M2 H2 (e.trans e2)
def PostT.ext(e:Ext M H M' H')(p:PostT mg E g M ρ env σ H Q r):PostT mg E g M' ρ env σ H' Q r:=by
 cases r with
 |stuck=>exact p
 |exc c=>exact p
 |ok r=>exact λM2 H2 e2=>p M2 H2 (e.trans e2)
def PostE.val(p:PostE mg E g M ρ env σ H Q (.ok (lH d fr al)))(rep:Rep g M ρ env σ H)(h:Is H (vmsk g M fr ρ al) d v):Q v H:=p v M H (Ext.refl M H) rep (ROk.lH h)
theorem PostE.new(p:PostE mg E g M ρ env σ H Q (.ok (.new ds fr)))(rep:Rep g M ρ env σ H)(ha:H a=none)(h:IsAll H (gD g M fr) ds vs):Q (.ref a) (aY H a (.lst vs)):=by have s:Same H (aY H a (.lst vs)):=aQ ha;obtain⟨h0,hm,ho⟩:=rep.free ha;exact p _ M _ ⟨λ_ z=>z,s,λ_ z=>.inl z⟩ (rep.grow s) ⟨a,vs,rfl,aw,hm,ha,ho,IsAll.same s h⟩
theorem PostE.tup(p:PostE mg E g M ρ env σ H Q (.ok (lH (.tup ds) fr al)))(rep:Rep g M ρ env σ H)(ha:H a=none)(h:IsAll H (vmsk g M fr ρ al) ds vs):Q (.ref a) (aY H a (.tup vs)):=by have s:Same H (aY H a (.tup vs)):=aQ ha;exact p _ M _ ⟨λ_ z=>z,s,λ_ z=>.inl z⟩ (rep.grow s) (ROk.lH ⟨a,vs,rfl,aw,IsAll.same s h⟩)
def Snd.one{t:TE}{f:En->Res R}(h:Snd mg E t f)(rep:Rep g M ρ env σ H){α:Type}{K:R->Res α}{P:(M:Addr->Prop)->(H:Hp)->Res α->Prop}{Q:VK}
 (hp:P M H ((f env).bind K)) (hs:∀M H,P M H .stuck->False) (hx:∀M H c,P M H (.exc c)->Eo mg E g c) (he:∀M H M' H' r,Ext M H M' H'->P M H r->P M' H' r)
 (k:∀r v M' H',Ext M H M' H'->Rep g M' ρ env σ H'->Is H' (vmsk g M' r.fr ρ r.al) r.d v->P M' H' (K r)->Q v H'):t σ H Q:=by
 refine h g M ρ env σ H Q rep ?_;cases e:f env with
 |stuck=>rw[e]at hp;exact hs _ _ hp
 |exc c=>rw[e]at hp;exact hx _ _ c hp
 |ok r=>rw[e]at hp;intro v M1 H1 e1 rep1 ro;obtain⟨M2,e2,_,rep2,is⟩:=ro.is rep1 e1 rep.same;exact k r v M2 H1 e2 rep2 is (he _ _ _ _ _ e2 hp)
def Snd.kz{f:En->Res R}(h:Snd mg E t f)(rep:Rep g M ρ env σ H){K:R->Res R}(hp:PostE mg E g M ρ env σ H Q' ((f env).bind K))
 (k:∀r v M' H',Ext M H M' H'->Rep g M' ρ env σ H'->Is H' (vmsk g M' r.fr ρ r.al) r.d v->PostE mg E g M' ρ env σ H' Q' (K r)->Q v H'):t σ H Q:=
 h.one rep (P:=λM H r=>PostE mg E g M ρ env σ H Q' r) hp (λ_ _ z=>z) (λ_ _ _ z=>z) (λ_ _ _ _ _ e p=>p.ext e) k
def Snd.JJ{f:En->Res R}(h:Snd mg E t f)(rep:Rep g M ρ env σ H){K:R->Res (List R)}{Q':List V->Hp->Prop}(hp:PostA mg E g M ρ env σ H Q' ((f env).bind K))
 (k:∀r v M' H',Ext M H M' H'->Rep g M' ρ env σ H'->Is H' (vmsk g M' r.fr ρ r.al) r.d v->PostA mg E g M' ρ env σ H' Q' (K r)->Q v H'):t σ H Q:=
 h.one rep (P:=λM H r=>PostA mg E g M ρ env σ H Q' r) hp (λ_ _ z=>z) (λ_ _ _ z=>z) (λ_ _ _ _ _ e p=>p.ext e) k
def Snd.Aj{f:En->Res R}(h:Snd mg E t f)(rep:Rep g M ρ env σ H){K:R->Res Bool}{Q':Bool->Hp->Prop}(hp:PostT mg E g M ρ env σ H Q' ((f env).bind K))
 (k:∀r v M' H',Ext M H M' H'->Rep g M' ρ env σ H'->Is H' (vmsk g M' r.fr ρ r.al) r.d v->PostT mg E g M' ρ env σ H' Q' (K r)->Q v H'):t σ H Q:=
 h.one rep (P:=λM H r=>PostT mg E g M ρ env σ H Q' r) hp (λ_ _ z=>z) (λ_ _ _ z=>z) (λ_ _ _ _ _ e p=>p.ext e) k
def Snd.Ds{fa fb:En->Res R}(ha:Snd mg E ta fa)(hb:Snd mg E tb fb)(rep:Rep g M ρ env σ H){K:R->R->Res R}{S:V->V->Hp->Prop}
 (hp:PostE mg E g M ρ env σ H Q' ((fa env).bind λra=>(fb env).bind λrb=>K ra rb))
 (k:∀ra rb x y M' H',Rep g M' ρ env σ H'->Is H' (vmsk g M' ra.fr ρ ra.al) ra.d x->Is H' (vmsk g M' rb.fr ρ rb.al) rb.d y->PostE mg E g M' ρ env σ H' Q' (K ra rb)->S x y H') :
 ta σ H λx H1=>tb σ H1 λy H2=>S x y H2:=
 ha.kz rep hp λra x M1 H1 e1 rep1 i1 p1=>hb.kz rep1 p1 λrb y M2 H2 e2 rep2 i2 p2=>k ra rb x y M2 H2 rep2 (i1.ext e2) i2 p2
end
noncomputable def lim:Nat:=1000000
def iG(h:n<=lim):n<=sizeLine:=by rw[jY];unfold lim at h;lia
def Bv(h:n<lim):n<sizeLine:=by rw[jY];unfold lim at h;lia
def nM(ds:List D)(fr:Bool)(al:List Nat):R:=if D.bp ds then .new ds true else if al.isEmpty then .new ds fr else .val (.lst ds) fr al
section
def vmsk.nil(h:vmsk g M fr ρ [] a):gD g M fr a:=h.elim id λ⟨_,z,_⟩=>absurd z (by simp)
theorem PostE.lst(p:PostE mg E g M ρ env σ H Q (.ok (nM ds fr al)))(rep:Rep g M ρ env σ H)(ha:H a=none)(h:IsAll H (vmsk g M fr ρ al) ds vs):Q (.ref a) (aY H a (.lst vs)):=by
 unfold nM at p;by_cases hf:D.bp ds=true
 .rw[b_ hf]at p;exact p.new rep ha (IsAll.flat hf h)
 .rw[cF hf]at p;cases al with
  |nil=>exact PostE.new (p:=p) rep ha (IsAll.weak (λ_ z=>z.nil) h)
  |cons i al=>have p:PostE mg E g M ρ env σ H Q (.ok (.val (.lst ds) fr (i::al))):=p;have s:Same H (aY H a (.lst vs)):=aQ ha;obtain⟨h0,hm,ho⟩:=rep.free ha;refine p _ (λb=>M b\/b=a) _ ⟨λ_=>.inl,s,λb z=>z.imp id λ(e:b=a)=>by grind⟩ ((rep.grow s).more aw h0 ho) ⟨a,vs,rfl,.inl ⟨aw,.inl ⟨.inr rfl,λ_=>h0⟩⟩,?_⟩;exact(IsAll.same s h).weak λb z=>z.mono λ_=>.inl
def Is.rd(h:Is H m (.lst ds) v):∃a vs,v=.ref a/\Rd H a (.lst vs)/\IsAll H m ds vs:=by obtain⟨a,vs,e,h1,h2⟩:=h;exact⟨a,vs,e,h1.imp (·.1) λ⟨o,z,_⟩=>⟨o,z⟩,h2⟩
end
section
def av(i:Nat):En->Res R:=λenv=>match env[i]? with
 |some (some (.val d fr))=>.ok (lH d fr [])
 |some (some (.own ds fr))=>.ok (.val (.lst ds) fr [i])
 |some (some (.uf d))=>.ok (.val d true [i])
 |_=>.stuck
def xZ:Snd mg E (aH i) (av i):=by
 intro g M ρ env σ H Q rep p;unfold av at p;cases e1:env[i]? with
 |none=>rw[e1]at p;exact p.elim
 |some o=>
  cases o with
  |none=>rw[e1]at p;exact p.elim
  |some sl=>
   obtain⟨v,ev,k⟩:=rep.slot i sl e1;rw[e1]at p;refine⟨v,ev,?_⟩;cases sl with
   |val d fr=>exact PostE.val p rep (Is.weak (λ_ z=>.inl z) k)
   |own ds fr=>obtain⟨a,vs,rfl,h1,h2,h4⟩:=k;exact p _ M H (Ext.refl M H) rep ⟨a,vs,rfl,.inl ⟨h1,.inr ⟨i,by simp,(h2 a).mpr rfl⟩⟩,IsAll.weak (λ_ z=>.inl z) h4⟩
   |uf d=>exact p _ M H (Ext.refl M H) rep (Is.weak (λa z=>.inr ⟨i,by simp,z⟩) k)
   |Dy d=>exact p.elim
def Hq(h:PE X e (aH i)):PD X E e (av i):=⟨_,h,xZ⟩
def vC(d:D):En->Res R:=λ_=>.ok (.val d true [])
def x4(h:∀H m,Is H m d v):Snd mg E (tC v) (vC d):=λg M ρ env σ H Q rep p=>p v M H (Ext.refl M H) rep (h H _)
def az{i j pos}:PD X E (.Constant (.int i) j pos) (vC (.int i)):=⟨_,aP,x4 λ_ _=>rfl⟩
def pz{b j pos}:PD X E (.Constant (.bool b) j pos) (vC (.bl b)):=⟨_,JX,x4 λ_ _=>rfl⟩
def wI{x j pos}:PD X E (.Constant (.str x) j pos) (vC (.str x)):=⟨_,GG,x4 λ_ _=>rfl⟩
def Hr{j pos}:PD X E (.Constant .none j pos) (vC .bL):=⟨_,mQ,x4 λ_ _=>rfl⟩
def v2(op:R->R->Res R)(fa fb:En->Res R):En->Res R:=λenv=>(fa env).bind λra=>(fb env).bind λrb=>op ra rb
def uc(X:Cx)(E:XK)(f:Q0->Q0->Sem Q0)(op:R->R->Res R):Prop:=∃r:R2,OpR X f r/\
 ∀g M ρ env σ H Q ra rb x y,Rep g M ρ env σ H->Is H (vmsk g M ra.fr ρ ra.al) ra.d x->Is H (vmsk g M rb.fr ρ rb.al) rb.d y->PostE X.mg E g M ρ env σ H Q (op ra rb)->r x y H Q
def aD(ho:uc X E (binaryOp op) k)(ha:PD X E a fa)(hb:PD X E b fb):PD X E (.BinOp a op b pos) (v2 k fa fb):=by obtain⟨r,h1,h2⟩:=ho;obtain⟨ta,pa,sa⟩:=ha;obtain⟨tb,pb,sb⟩:=hb;exact⟨_,oJ h1 pa pb,λg M ρ env σ H Q rep p=>sa.Ds sb rep p λra rb x y M' H' rep' i1 i2 p'=>h2 g M' ρ env σ H' Q ra rb x y rep' i1 i2 p'⟩
def wJ(ho:uc X E (compareOp op) k)(ha:PD X E a fa)(hb:PD X E b fb)(hm:behindInMarks op b=false):PD X E (.Compare a [op] [b] pos) (v2 k fa fb):=by obtain⟨r,h1,h2⟩:=ho;obtain⟨ta,pa,sa⟩:=ha;obtain⟨tb,pb,sb⟩:=hb;exact⟨_,xH h1 pa pb hm,λg M ρ env σ H Q rep p=>sa.Ds sb rep p λra rb x y M' H' rep' i1 i2 p'=>h2 g M' ρ env σ H' Q ra rb x y rep' i1 i2 p'⟩
def oI(C:Int->Int->Bool)(k:Int->Int->D)(a b:R):Res R:=match a.d,b.d with
 |.int i,.int j=>if C i j then .ok (.val (k i j) true [])else .stuck
 |_,_=>.stuck
def rF{f:Q0->Q0->Sem Q0}{C:Int->Int->Prop}{kV:Int->Int->V}(c:Int->Int->Bool)(k:Int->Int->D)(ho:OpR X f (rI C kV))(hc:∀i j,c i j=true->C i j)(hk:∀H m i j,Is H m (k i j) (kV i j)):uc X E f (oI c k):=by
 refine⟨_,ho,λg M ρ env σ H Q ra rb x y rep i1 i2 p=>?_⟩;unfold oI at p;cases e1:ra.d with
 |int i=>
  rw[e1]at p i1;cases e2:rb.d with
  |int j=>
   rw[e2]at p i2;cases i1;cases i2;by_cases h:c i j=true
   .simp only[h,PZ]at p;exact⟨i,j,rfl,rfl,hc i j h,p _ M H (Ext.refl M H) rep (hk H _ i j)⟩
   .simp only[h]at p;exact p.elim
  |_=>rw[e2]at p;exact p.elim
 |_=>rw[e1]at p;exact p.elim
def pA{f:Q0->Q0->Sem Q0}{kV:Int->Int->V}(k:Int->Int->D)(ho:OpR X f (xF kV))(hk:∀H m i j,Is H m (k i j) (kV i j)):uc X E f (oI (λ_ _=>true) k):=by refine rF (C:=λ_ _=>True) (kV:=kV) _ k (λaa s σ H x y v u Q I rx ry h=>?_) (λ_ _ _=>True.intro) hk;obtain⟨i,j,a,b,_,q⟩:=h;exact ho aa s σ H x y v u Q I rx ry ⟨i,j,a,b,q⟩
def Hu:R->R->Res R:=oI (λ_ _=>true) λi j=>.int (i-j)
noncomputable def zq(i j:Int):Bool:=(decide (-(2^64)<i)&&decide (i<2^64)) ||(decide (-(2^64)<j)&&decide (j<2^64))
def mX:R->R->Res R:=oI zq λi j=>.int (i*j)
def jC:R->R->Res R:=oI (λ_ j=>decide (0<j)&&decide (j<1073741824)) λi j=>.int (i/j)
def c9:R->R->Res R:=oI (λ_ j=>decide (0<j)) λi j=>.int (i%j)
def Hv:uc X E (binaryOp .Sub) Hu:=pA _ GO λ_ _ _ _=>rfl
def gY:uc X E (binaryOp .Mult) mX:=rF _ _ GP (λi j h=>by simp only[zq,QA,jh,O2]at h;exact h) λ_ _ _ _=>rfl
def dU:uc X E (binaryOp .FloorDiv) jC:=rF _ _ DH (λi j h=>by simp only[jh,O2]at h;exact h) λ_ _ _ _=>rfl
def bc:uc X E (binaryOp .Mod) c9:=rF _ _ GQ (λi j h=>by simpa using h) λ_ _ _ _=>rfl
def Kg:R->R->Res R:=oI (λ_ _=>true) λi j=>.bl (decide (i<j))
def MF:R->R->Res R:=oI (λ_ _=>true) λi j=>.bl (decide (j<i))
def Ng:R->R->Res R:=oI (λ_ _=>true) λi j=>.bl (decide (j<=i))
def FP:uc X E (compareOp .Lt) Kg:=pA _ FD λ_ _ _ _=>rfl
def FQ:uc X E (compareOp .Gt) MF:=pA _ FE λ_ _ _ _=>rfl
def Kh:uc X E (compareOp .GtE) Ng:=pA _ J3 λ_ _ _ _=>rfl
def Inv.Ot(I:L2.Inv X aa σ H s)(h:Rd H l (.lst xs)) :
 xs.length<=sizeLine/\∃(its:List Q0)(n:Nat),Vals xs its/\xs.length=its.length/\s.heap.get? l=some { cls:=.type "list",data:=.seq its.toArray n }:=by
 obtain⟨z,its,n,r,e⟩:=(h.ok I.aZ:ObjOk X.prog X.w H s.heap l (.lst xs));exact⟨z,its,n,r,r.length,e⟩
def Ki:R2:=λx y H Q=>∃l b xs zs,x=.ref l/\y=.ref b/\Rd H l (.lst xs)/\Rd H b (.lst zs)/\xs.length+zs.length<=sizeLine/\∀p,H p=none->Q (.ref p) (aY H p (.lst (xs++zs)))
def op_catS:OpR X (binaryOp .Add) Ki:=by
 intro aa s σ H x y v u Q I rx ry h;obtain⟨l,b,xs,zs,rfl,rfl,hH,hB,hz,q⟩:=h;cases rx;cases ry;obtain⟨z,its,n,r,hl,e⟩:=Inv.Ot I hH;obtain⟨z2,its2,n2,r2,hl2,e2⟩:=Inv.Ot I hB;refine PySem.P.add_list e e2 ?_ (by grind);have ea:its.toArray++its2.toArray=(its++its2).toArray:=by simp
 rw[ea];exact⟨.ref _,_,I.N9 (t':=s.toks) (r.append r2) (by grind),rfl,q _ I.fresh⟩
def gZ(a b:R):Res R:=match a.d,b.d with
 |.int i,.int j=>.ok (.val (.int (i+j)) true [])
 |.lst xs,.lst ys=>if xs.length+ys.length<=lim then .ok (nM (xs++ys) (a.fr&&b.fr) (a.al++b.al))else .stuck
 |.tup xs,.tup ys=>if xs.length+ys.length<=lim/\xs≠[]then .ok (lH (.tup (xs++ys)) (a.fr&&b.fr) (a.al++b.al))else .stuck
 |.str x,.str y=>if x.length+y.length<=lim then .ok (.val (.str (x++y)) true [])else .stuck
 |_,_=>.stuck
section
def vmsk.l(h:vmsk g M f1 ρ l1 a):vmsk g M (f1&&f2) ρ (l1++l2) a:=h.imp (λz=>⟨z.1,λe=>z.2 (by grind)⟩) λ⟨i,hi,o⟩=>⟨i,by simp[hi],o⟩
def vmsk.r(h:vmsk g M f2 ρ l2 a):vmsk g M (f1&&f2) ρ (l1++l2) a:=h.imp (λz=>⟨z.1,λe=>z.2 (by grind)⟩) λ⟨i,hi,o⟩=>⟨i,by simp[hi],o⟩
end
def db:uc X E (binaryOp .Add) gZ:=by
 refine⟨_,op_add.or (op_catS.or (op_catT.or v8)),λg M ρ env σ H Q ra rb x y rep i1 i2 p=>?_⟩;unfold gZ at p;cases e1:ra.d with
 |int i=>
  rw[e1]at p i1;cases e2:rb.d with
  |int j=>rw[e2]at p i2;cases i1;cases i2;exact .inl ⟨i,j,rfl,rfl,p _ M H (Ext.refl M H) rep rfl⟩
  |_=>rw[e2]at p;exact p.elim
 |lst xs=>
  rw[e1]at p i1;cases e2:rb.d with
  |lst ys=>
   rw[e2]at p i2;obtain⟨a,vs,rfl,h1,h2⟩:=i1.rd;obtain⟨b,ws,rfl,h3,h4⟩:=i2.rd;by_cases hz:xs.length+ys.length<=lim
   .simp only[hz,PZ]at p;refine .inr (.inl ⟨a,b,vs,ws,rfl,rfl,h1,h3,by rw[h2.length,h4.length];exact iG hz,λq hq=>?_⟩);exact p.lst rep hq ((h2.weak λ_ z=>z.l).append (h4.weak λ_ z=>z.r))
   .simp only[hz,qB]at p;exact p.elim
  |_=>rw[e2]at p;exact p.elim
 |tup xs=>
  rw[e1]at p i1;cases e2:rb.d with
  |tup ys=>
   rw[e2]at p i2;obtain⟨a,vs,rfl,h1,h2⟩:=i1;obtain⟨b,ws,rfl,h3,h4⟩:=i2;dsimp only at p;by_cases hz:xs.length+ys.length<=lim/\xs≠[]
   .rw[b_ hz]at p;have n1:vs≠[]:=λz=>hz.2 (by have:=h2.length;rw[z]at this;exact Qo this.symm);refine .inr (.inr (.inl ⟨a,b,vs,ws,rfl,rfl,SqT.of h1,SqT.of h3,n1,by rw[h2.length,h4.length];exact iG hz.1,λz=>?_,λ_ q hq=>?_⟩))
    .have ey:ys=[]:=by have:=h4.length;rw[z]at this;exact Qo this.symm
     rw[ey,Jv]at p;exact p.val rep (Is.weak (d:=.tup xs) (λ_ z=>z.l) ⟨a,vs,rfl,h1,h2⟩)
    .exact p.tup rep hq ((h2.weak λ_ z=>z.l).append (h4.weak λ_ z=>z.r))
   .rw[cF hz]at p;exact p.elim
  |_=>rw[e2]at p;exact p.elim
 |str xs=>
  rw[e1]at p i1;cases e2:rb.d with
  |str ys=>
   rw[e2]at p i2;cases i1;cases i2;by_cases hz:xs.length+ys.length<=lim
   .simp only[hz,PZ]at p;exact .inr (.inr (.inr ⟨xs,ys,rfl,rfl,iG hz,p _ M H (Ext.refl M H) rep rfl⟩))
   .simp only[hz,qB]at p;exact p.elim
  |_=>rw[e2]at p;exact p.elim
 |_=>rw[e1]at p;exact p.elim
def zr(a b:R):Res R:=if a.d.dep<=50/\b.d.dep<=50 then .ok (.val (.bl (lc a.d b.d)) true [])else .stuck
def FR(a b:R):Res R:=if a.d.dep<=50/\b.d.dep<=50 then .ok (.val (.bl (!lc a.d b.d)) true [])else .stuck
def Nh:R2:=λx y H Q=>∃d e m m',Is H m d x/\Is H m' e y/\(d.dep<=50/\e.dep<=50)/\Q (.bl (lc d e)) H
def Ni:R2:=λx y H Q=>∃d e m m',Is H m d x/\Is H m' e y/\(d.dep<=50/\e.dep<=50)/\Q (.bl (!lc d e)) H
def Hw(hu:X.A.units+64<cLine):OpR X (compareOp .Eq) Nh:=by intro aa s σ H x y v u Q I rx ry h;obtain⟨d,e,m,m',h1,h2,hd,q⟩:=h;exact El I.aZ (by lia) (Bu I.aZ (A:=X.A) (n:=50) (by lia) (by lia)) hd.1 (by lia) (by lia) h1 h2 rx ry X.prog X.w X.xe _ ⟨.bl _,H,I,rfl,q⟩
def Hx(hu:X.A.units+64<cLine):OpR X (compareOp .NotEq) Ni:=by intro aa s σ H x y v u Q I rx ry h;obtain⟨d,e,m,m',h1,h2,hd,q⟩:=h;exact Em I.aZ (by lia) (Bu I.aZ (A:=X.A) (n:=50) (by lia) (by lia)) hd.1 (by lia) (by lia) h1 h2 rx ry X.prog X.w X.xe _ ⟨.bl _,H,I,rfl,q⟩
def pB(hu:X.A.units+64<cLine):uc X E (compareOp .Eq) zr:=by
 refine⟨_,Hw hu,λg M ρ env σ H Q ra rb x y rep i1 i2 p=>?_⟩;unfold zr at p;by_cases h:ra.d.dep<=50/\rb.d.dep<=50
 .rw[b_ h]at p;exact⟨_,_,_,_,i1,i2,h,p _ M H (Ext.refl M H) rep rfl⟩
 .rw[cF h]at p;exact p.elim
def FS(hu:X.A.units+64<cLine):uc X E (compareOp .NotEq) FR:=by
 refine⟨_,Hx hu,λg M ρ env σ H Q ra rb x y rep i1 i2 p=>?_⟩;unfold FR at p;by_cases h:ra.d.dep<=50/\rb.d.dep<=50
 .rw[b_ h]at p;exact⟨_,_,_,_,i1,i2,h,p _ M H (Ext.refl M H) rep rfl⟩
 .rw[cF h]at p;exact p.elim
end
section
variable{X:Cx}
noncomputable def D.Dh:D->Bool
 |.bL=>true
 |_=>false
def Is.FA(h:Is H m d v):decide (v=.bL)=d.Dh:=by
 cases d with
 |bL=>cases h;rfl
 |bl b=>cases h;rfl
 |int b=>cases h;rfl
 |str b=>cases h;rfl
 |tup ds=>obtain⟨a,vs,rfl,_⟩:=h;rfl
 |lst ds=>obtain⟨a,vs,rfl,_⟩:=h;rfl
 |nF ks ds=>obtain⟨a,vs,rfl,_⟩:=h;rfl
def FT:D->Res Bool
 |.bL=>.ok false
 |.bl b=>.ok b
 |.int i=>.ok (i != 0)
 |.str y=>if y.length<=lim then .ok ((y.length:Int) != 0)else .stuck
 |.tup ds=>.ok (!ds.isEmpty)
 |.lst ds=>.ok (!ds.isEmpty)
 |.nF _ _=>.stuck
theorem Is.FT(h:Is H m d v)(e:FT d=.ok k):GY X.K v H k:=by
 cases d with
 |bL=>cases h;cases e;rfl
 |bl b=>cases h;cases e;rfl
 |int b=>cases h;cases e;rfl
 |str b=>
  cases h;unfold L3.FT at e;dsimp only at e;by_cases hl:b.length<=lim
  .rw[b_ hl]at e;cases e;exact⟨iG hl,rfl⟩
  .rw[cF hl]at e;cases e
 |tup ds=>obtain⟨a,vs,rfl,h1,h2⟩:=h;cases e;refine .inr (.inl ⟨vs,SqT.of h1,?_⟩);have:=h2.length;cases ds<;>cases vs<;>simp_all
 |lst ds=>obtain⟨a,vs,rfl,h1,h2⟩:=h.rd;cases e;refine .inl ⟨vs,.inl h1,?_⟩;have:=h2.length;cases ds<;>cases vs<;>simp_all
 |nF ks ds=>cases e
def Bw(fa:En->Res R):En->Res Bool:=λenv=>(fa env).bind λra=>FT ra.d
def wK(ha:PD X E a fa)(he:autoParam (∀whole,isTrue a X.env whole=(do let v <- whole;standAt a.pos;holding [v] (truthy v))) Rb):zp X E a (Bw fa):=by
 obtain⟨ta,pa,sa⟩:=ha;refine⟨_,AG pa he,λg M ρ env σ H Q rep p=>sa.Aj rep p λr v M' H' e rep' i p'=>?_⟩;cases q:FT r.d with
 |stuck=>rw[q]at p';exact p'.elim
 |exc c=>
  exfalso;unfold FT at q
  grind
 |ok k=>rw[q]at p';exact⟨k,i.FT q,p' M' H' (Ext.refl _ _) rep'⟩
def vB(fa:En->Res R):En->Res Bool:=λenv=>(fa env).bind λra=>match ra.d with
 |.bl b=>.ok b
 |_=>.stuck
def eh(ho:uc X E (compareOp op) k)(ha:PD X E a fa)(hb:PD X E b fb)(hm:behindInMarks op b=false):zp X E (.Compare a [op] [b] pos) (vB (v2 k fa fb)):=by
 obtain⟨r,h1,h2⟩:=ho;obtain⟨ta,pa,sa⟩:=ha;obtain⟨tb,pb,sb⟩:=hb;have S:Snd X.mg E (k7 r ta tb) (v2 k fa fb):=λg M ρ env σ H Q rep p=>sa.Ds sb rep p λra rb x y M' H' rep' i1 i2 p'=>h2 g M' ρ env σ H' Q ra rb x y rep' i1 i2 p';refine⟨_,iD h1 pa pb hm,λg M ρ env σ H Q rep p=>S.Aj rep p λr v M' H' e rep' i p'=>?_⟩;cases q:r.d with
 |bl b=>rw[q]at i;simp only[q]at p';cases i;exact⟨b,rfl,p' M' H' (Ext.refl _ _) rep'⟩
 |_=>simp only[q]at p';exact p'.elim
def Ep(ha:PD X E a fa):zp X E (.Compare a [.Is] [.Constant .none j pos'] pos) (λenv=>(fa env).bind λra=>.ok ra.d.Dh):=by obtain⟨ta,pa,sa⟩:=ha;refine⟨_,GI (GH pa),λg M ρ env σ H Q rep p=>sa.Aj rep p λr v M' H' e rep' i p'=>?_⟩;exact⟨_,rfl,by rw[i.FA];exact p' M' H' (Ext.refl _ _) rep'⟩
def Bx(fa:En->Res Bool):En->Res Bool:=λenv=>(fa env).bind λb=>.ok (!b)
def Nj(fa fb:En->Res Bool):En->Res Bool:=λenv=>(fa env).bind λb=>if b then .ok true else fb env
section
def SndT.Aj{f:En->Res Bool}(h:SndT mg E t f)(rep:Rep g M ρ env σ H){K:Bool->Res Bool}{Q':Bool->Hp->Prop}{Q:Bool->Hp->Prop}(hp:PostT mg E g M ρ env σ H Q' ((f env).bind K))
 (k:∀b M' H',Ext M H M' H'->Rep g M' ρ env σ H'->PostT mg E g M' ρ env σ H' Q' (K b)->Q b H'):t σ H Q:=by
 refine h g M ρ env σ H Q rep ?_;cases e:f env with
 |stuck=>rw[e]at hp;exact hp
 |exc c=>rw[e]at hp;exact hp
 |ok b=>rw[e]at hp;exact λM1 H1 e1 rep1=>k b M1 H1 e1 rep1 (PostT.ext e1 hp)
def SndT.kz{f:En->Res Bool}(h:SndT mg E t f)(rep:Rep g M ρ env σ H){K:Bool->Res R}{Q:Bool->Hp->Prop}(hp:PostE mg E g M ρ env σ H Q' ((f env).bind K))
 (k:∀b M' H',Ext M H M' H'->Rep g M' ρ env σ H'->PostE mg E g M' ρ env σ H' Q' (K b)->Q b H'):t σ H Q:=by
 refine h g M ρ env σ H Q rep ?_;cases e:f env with
 |stuck=>rw[e]at hp;exact hp
 |exc c=>rw[e]at hp;exact hp
 |ok b=>rw[e]at hp;exact λM1 H1 e1 rep1=>k b M1 H1 e1 rep1 (PostE.ext e1 hp)
end
def sS(ha:zp X E a fa):zp X E (.UnaryOp .Not a pos) (Bx fa):=by obtain⟨ta,pa,sa⟩:=ha;exact⟨_,AA pa,λg M ρ env σ H Q rep p=>sa.Aj rep p λb M' H' e rep' p'=>p' M' H' (Ext.refl _ _) rep'⟩
def Er(ha:zp X E a fa):PWD X E (.BoolOp .Or [a] pos) fa:=let ⟨t,pa,sa⟩:=ha;⟨t,Az pa,sa⟩
def Hy{rest:List Expr}{fa fb:En->Res Bool}{pos:Pos}(ha:zp X E a fa)(hb:PWD X E (.BoolOp .Or (b::rest) pos) fb):PWD X E (.BoolOp .Or (a::b::rest) pos) (Nj fa fb):=by
 obtain⟨ta,pa,sa⟩:=ha;obtain⟨tb,pb,sb⟩:=hb;refine⟨_,FC pa pb,λg M ρ env σ H Q rep p=>sa.Aj rep p λb M' H' e rep' p'=>?_⟩;cases b with
 |true=>exact yZ (p' M' H' (Ext.refl _ _) rep')
 |false=>exact AX (sb g M' ρ env σ H' Q rep' p')
def Oh(fc:En->Res Bool)(fa fb:En->Res R):En->Res R:=λenv=>(fc env).bind λb=>if b then fa env else fb env
def Kj(hc:zp X E c fc)(ha:PD X E a fa)(hb:PD X E b fb):PD X E (.IfExp c a b pos) (Oh fc fa fb):=by
 obtain⟨tc,pc,sc⟩:=hc;obtain⟨ta,pa,sa⟩:=ha;obtain⟨tb,pb,sb⟩:=hb;refine⟨_,AB pc pa pb,λg M ρ env σ H Q rep p=>sc.kz rep p λb M' H' e rep' p'=>?_⟩;cases b with
 |true=>exact yZ (sa g M' ρ env σ H' Q rep' p')
 |false=>exact AX (sb g M' ρ env σ H' Q rep' p')
def Dw(a b:R):Res R:=match a.d,b.d with
 |.lst xs,.int i=>match hG xs i with
  |some d=>.ok (lH d a.fr a.al)
  |none=>.stuck
 |.tup xs,.int i=>match hG xs i with
  |some d=>.ok (lH d a.fr a.al)
  |none=>.stuck
 |.str z,.int i=>if z.length<=lim then(match hG z.cps.toList i with
  |some c=>.ok (.val (.str ⟨#[c]⟩) true [])
  |none=>.stuck)else .stuck
 |_,_=>.stuck
theorem IsAll.hG(h:IsAll H m ds vs)(e:L2.hG ds i=some d):∃v,L2.hG vs i=some v/\Is H m d v:=by
 unfold L2.hG at e ⊢;rw[h.length];cases q:AM ds.length i with
 |none=>rw[q]at e;cases e
 |some j=>rw[q]at e;exact h.get e
def FU:∃r:R2,IxR X r/\∀g M ρ env σ H Q ra rb x y,Rep g M ρ env σ H->Is H (vmsk g M ra.fr ρ ra.al) ra.d x->Is H (vmsk g M rb.fr ρ rb.al) rb.d y->PostE X.mg E g M ρ env σ H Q (Dw ra rb)->r x y H Q:=by
 refine⟨_,G5,λg M ρ env σ H Q ra rb x y rep i1 i2 p=>?_⟩;unfold Dw at p;cases e1:ra.d with
 |lst xs=>
  rw[e1]at p i1;cases e2:rb.d with
  |int i=>
   rw[e2]at p i2;cases i2;obtain⟨a,vs,rfl,h1,h2⟩:=i1.rd;cases q:hG xs i with
   |none=>simp only[q]at p;exact p.elim
   |some d=>simp only[q]at p;obtain⟨v,ev,iv⟩:=h2.hG q;exact .inl ⟨a,vs,i,v,rfl,rfl,.inl h1,ev,p.val rep iv⟩
  |_=>rw[e2]at p;exact p.elim
 |tup xs=>
  rw[e1]at p i1;cases e2:rb.d with
  |int i=>
   rw[e2]at p i2;cases i2;obtain⟨a,vs,rfl,h1,h2⟩:=i1;cases q:hG xs i with
   |none=>simp only[q]at p;exact p.elim
   |some d=>simp only[q]at p;obtain⟨v,ev,iv⟩:=h2.hG q;exact .inr (.inl ⟨a,vs,i,v,rfl,rfl,SqT.of h1,ev,p.val rep iv⟩)
  |_=>rw[e2]at p;exact p.elim
 |str z=>
  rw[e1]at p i1;cases e2:rb.d with
  |int i=>
   rw[e2]at p i2;cases i1;cases i2;by_cases hz:z.length<=lim
   .simp only[hz,PZ]at p;cases q:hG z.cps.toList i with
    |none=>simp only[q]at p;exact p.elim
    |some c=>simp only[q]at p;exact .inr (.inr ⟨z,i,c,rfl,rfl,iG hz,q,p _ M H (Ext.refl _ _) rep rfl⟩)
   .simp only[hz,qB]at p;exact p.elim
  |_=>rw[e2]at p;exact p.elim
 |_=>rw[e1]at p;exact p.elim
def Kk(ha:PD X E a fa)(hb:PD X E b fb)(hs:sv b):PD X E (.Subscript a b pos) (v2 Dw fa fb):=by obtain⟨r,h1,h2⟩:=FU (X:=X) (E:=E);obtain⟨ta,pa,sa⟩:=ha;obtain⟨tb,pb,sb⟩:=hb;exact⟨_,bZ h1 pa pb hs,λg M ρ env σ H Q rep p=>sa.Ds sb rep p λra rb x y M' H' rep' i1 i2 p'=>h2 g M' ρ env σ H' Q ra rb x y rep' i1 i2 p'⟩
def dE(i:Nat)(fb:En->Res R):En->Res R:=λenv=>match env[i]? with
 |some (some (.own ds fr))=>(fb env).bind λrb=>match rb.d with
  |.int k=>match hG ds k with
   |some d=>.ok (lH d fr [])
   |none=>.stuck
  |_=>.stuck
 |_=>v2 Dw (av i) fb env
def wL(ha:PE X a (aH i))(hb:PD X E b fb)(hs:sv b):PD X E (.Subscript a b pos) (dE i fb):=by
 obtain⟨r,h1,h2⟩:=FU (X:=X) (E:=E);obtain⟨tb,pb,sb⟩:=hb;refine⟨_,bZ (ix_list.or h1) ha pb hs,λg M ρ env σ H Q rep p=>?_⟩;have gen:PostE X.mg E g M ρ env σ H Q (v2 Dw (av i) fb env)->k7 (λx y H Q=>G3 X.K x y H Q\/r x y H Q) (aH i) tb σ H Q:=λp=>Snd.Ds xZ sb rep p λra rb x y M' H' rep' i1 i2 p'=>.inr (h2 g M' ρ env σ H' Q ra rb x y rep' i1 i2 p');unfold dE at p;cases e1:env[i]? with
 |none=>rw[e1]at p;exact gen p
 |some o=>
  cases o with
  |none=>rw[e1]at p;exact gen p
  |some sl=>
   cases sl with
   |val d fr=>rw[e1]at p;exact gen p
   |uf d=>rw[e1]at p;exact gen p
   |Dy d=>rw[e1]at p;exact gen p
   |own ds fr=>
    rw[e1]at p;obtain⟨v,ev,a,vs,rfl,k1,k2,k4⟩:=rep.slot i _ e1;refine⟨_,ev,sb.kz rep p λrb y M' H' e rep' i2 p'=>?_⟩;cases q:rb.d with
    |int k=>
     rw[q]at i2;simp only[q]at p';cases i2;cases q2:hG ds k with
     |none=>simp only[q2]at p';exact p'.elim
     |some d=>simp only[q2]at p';have k5:IsAll H' (vmsk g M' fr ρ []) ds vs:=(IsAll.weak (λ_ z=>.inl z) k4:IsAll H (vmsk g M fr ρ []) ds vs).ext e;obtain⟨w,ew,iw⟩:=k5.hG q2;exact .inl ⟨a,vs,k,w,rfl,rfl,.inl (.inl (e.h _ _ k1)),ew,p'.val rep' iw⟩
    |_=>simp only[q]at p';exact p'.elim
end
section
def SndA.one{t:TA}{f:En->Res (List R)}(h:SndA mg E t f)(rep:Rep g M ρ env σ H){α:Type}{K:List R->Res α}{P:(M:Addr->Prop)->(H:Hp)->Res α->Prop}{Q:List V->Hp->Prop}
 (hp:P M H ((f env).bind K)) (hs:∀M H,P M H .stuck->False) (hx:∀M H c,P M H (.exc c)->Eo mg E g c) (he:∀M H M' H' r,Ext M H M' H'->P M H r->P M' H' r)
 (k:∀rs vs M' H',Ext M H M' H'->Rep g M' ρ env σ H'->IsAll H' (vmsk g M' (cb rs) ρ (c_ rs)) (rs.map R.d) vs->P M' H' (K rs)->Q vs H'):t σ H Q:=by
 refine h g M ρ env σ H Q rep ?_;cases e:f env with
 |stuck=>rw[e]at hp;exact hs _ _ hp
 |exc c=>rw[e]at hp;exact hx _ _ c hp
 |ok r=>rw[e]at hp;exact λvs M1 H1 e1 rep1 is=>k r vs M1 H1 e1 rep1 is (he _ _ _ _ _ e1 hp)
def SndA.kz{f:En->Res (List R)}(h:SndA mg E t f)(rep:Rep g M ρ env σ H){K:List R->Res R}{Q:List V->Hp->Prop}(hp:PostE mg E g M ρ env σ H Q' ((f env).bind K))
 (k:∀rs vs M' H',Ext M H M' H'->Rep g M' ρ env σ H'->IsAll H' (vmsk g M' (cb rs) ρ (c_ rs)) (rs.map R.d) vs->PostE mg E g M' ρ env σ H' Q' (K rs)->Q vs H'):t σ H Q:=
 h.one rep (P:=λM H r=>PostE mg E g M ρ env σ H Q' r) hp (λ_ _ z=>z) (λ_ _ _ z=>z) (λ_ _ _ _ _ e p=>p.ext e) k
def SndA.JJ{f:En->Res (List R)}(h:SndA mg E t f)(rep:Rep g M ρ env σ H){K:List R->Res (List R)}{Q':List V->Hp->Prop}{Q:List V->Hp->Prop}(hp:PostA mg E g M ρ env σ H Q' ((f env).bind K))
 (k:∀rs vs M' H',Ext M H M' H'->Rep g M' ρ env σ H'->IsAll H' (vmsk g M' (cb rs) ρ (c_ rs)) (rs.map R.d) vs->PostA mg E g M' ρ env σ H' Q' (K rs)->Q vs H'):t σ H Q:=
 h.one rep (P:=λM H r=>PostA mg E g M ρ env σ H Q' r) hp (λ_ _ z=>z) (λ_ _ _ z=>z) (λ_ _ _ _ _ e p=>p.ext e) k
def IsAll.args(h1:Is H (vmsk g M r.fr ρ r.al) r.d v)(h2:IsAll H (vmsk g M (cb rs) ρ (c_ rs)) (rs.map R.d) vs) :
 IsAll H (vmsk g M (cb (r::rs)) ρ (c_ (r::rs))) ((r::rs).map R.d) (v::vs):=by
 refine⟨v,vs,rfl,h1.weak λa z=>?_,h2.weak λa z=>?_⟩
 .exact(z.l:vmsk g M (r.fr&&cb rs) ρ (r.al++c_ rs) a)
 .exact(z.r:vmsk g M (r.fr&&cb rs) ρ (r.al++c_ rs) a)
end
section
noncomputable def aL:En->Res (List R):=λ_=>.ok []
def ag(f:En->Res R)(fs:En->Res (List R)):En->Res (List R):=λenv=>(f env).bind λr=>(fs env).bind λrs=>.ok (r::rs)
def ao:zn X E [] aL:=⟨_,aG,λg M ρ env σ H Q rep p=>p [] M H (Ext.refl _ _) rep rfl⟩
def ac(he:PD X E e f)(hr:zn X E es fs)(hs:autoParam (starEach (e::es) X.env=(false,eval e X.env)::starEach es X.env) Rc):zn X E (e::es) (ag f fs):=by obtain⟨t,p1,s1⟩:=he;obtain⟨u,p2,s2⟩:=hr;refine⟨_,ai p1 p2 hs,λg M ρ env σ H Q rep p=>s1.JJ rep p λr v M1 H1 e1 rep1 i1 q1=>s2.JJ rep1 q1 λrs vs M2 H2 e2 rep2 i2 q2=>?_⟩;exact q2 (v::vs) M2 H2 (Ext.refl _ _) rep2 (IsAll.args (i1.ext e2) i2)
def ko(fs:En->Res (List R)):En->Res R:=λenv=>(fs env).bind λrs=>if rs.length<=lim then .ok (lH (.tup (rs.map R.d)) (cb rs) (c_ rs))else .stuck
def eB(h:zn X E es fs):PD X E (.Tuple es k pos) (ko fs):=by
 obtain⟨t,p1,s1⟩:=h;refine⟨_,d9 p1,λg M ρ env σ H Q rep p=>s1.kz rep p λrs vs M1 H1 e1 rep1 i1 q1=>?_⟩;by_cases hl:rs.length<=lim
 .rw[b_ hl]at q1;exact⟨by rw[i1.length,cG];exact iG hl,λa ha=>q1.tup rep1 ha i1⟩
 .rw[cF hl]at q1;exact q1.elim
def pC(fs:En->Res (List R)):En->Res R:=λenv=>(fs env).bind λrs=>if rs.length<=lim then .ok (nM (rs.map R.d) (cb rs) (c_ rs))else .stuck
def iH(h:zn X E es fs):PD X E (.List es pos) (pC fs):=by
 obtain⟨t,p1,s1⟩:=h;refine⟨_,iE p1,λg M ρ env σ H Q rep p=>s1.kz rep p λrs vs M1 H1 e1 rep1 i1 q1=>?_⟩;by_cases hl:rs.length<=lim
 .rw[b_ hl]at q1;exact⟨by rw[i1.length,cG];exact iG hl,λa ha=>q1.lst rep1 ha i1⟩
 .rw[cF hl]at q1;exact q1.elim
end
def nl(H0 H':Hp)(a:Addr):Prop:=H0 a=none/\Mu H' a
def RetOk(g:Gd)(H':Hp)(v:V):R->Prop
 |.val d fr _=>Is H' (λa=>nl g.H₀ H' a\/(fr=false/\g.Ma a)) d v
 |.new ds fr=>∃a vs,v=.ref a/\H' a=some (.lst vs)/\g.H₀ a=none/\IsAll H' (λb=>b≠a/\(nl g.H₀ H' b\/(fr=false/\g.Ma b))) ds vs
 |.lJ d=>Is H' (nl g.H₀ H') d v
def Kl(mg:Str->Option Q0)(E:XK)(g:Gd)(Q:VK):Res R->Prop
 |.stuck=>False
 |.exc c=>Eo mg E g c
 |.ok r=>∀v H',Same g.H₀ H'->RetOk g H' v r->Q v H'
def lI(mg:Str->Option Q0)(n:Nat)(F:List D->Res R):Sp:=λvs H Q E=>vs.length=n/\∃ds Ma,IsAll H Ma ds vs/\Kl mg E (JO H Ma) Q (F ds)
def FV(d:D)(fr:Bool)(rs:List R):R:=if d.flat then .val d true []else if fr then .lJ d else .val d (cb rs) (c_ rs)
def jD(rs:List R):R->R
 |.val d fr _=>FV d fr rs
 |.new ds fr=>if D.bp ds then .new ds true else if fr then .lJ (.lst ds)else if(c_ rs).isEmpty then .new ds (cb rs)else .val (.lst ds) (cb rs) (c_ rs)
 |.lJ d=>FV d true rs
section
def Rep.came(rep:Rep g M ρ env σ H)(s:Same H H')(p:Addr->Prop):Rep g (λa=>M a\/(nl H H' a/\p a)) ρ env σ H':=(rep.grow s).Du λa z=>⟨z.1.2,rep.same.free z.1.1,(rep.free z.1.1).2.2⟩
def By(rs:List R)(rep:Rep g M ρ env σ H)(s:Same H H')(h:Is H' (λa=>nl H H' a\/(fr=false/\vmsk g M (cb rs) ρ (c_ rs) a)) d v) :
 ∃M',Ext M H M' H'/\Rep g M' ρ env σ H'/\ROk g M' ρ H H' v (FV d fr rs):=by
 unfold FV;by_cases hf:d.flat=true
 .rw[b_ hf];exact⟨M,⟨λ_ z=>z,s,λ_ z=>.inl z⟩,rep.grow s,Is.flat hf h⟩
 .rw[cF hf];cases fr with
  |true=>
   refine⟨M,⟨λ_ z=>z,s,λ_ z=>.inl z⟩,rep.grow s,nl H H',λa z=>?_,?_⟩
   .exact⟨λw=>rep.jr a w z.1,z.1,z.2,(rep.free z.1).2.2⟩
   .exact Is.weak (λa z=>z.elim id λw=>by cases w.1) h
  |false=>
   refine⟨_,⟨λ_=>.inl,s,λ_ z=>z.imp id (·.1.1)⟩,rep.came s λ_=>True,?_⟩;refine Is.weak (λa z=>?_) h;rcases z with z|⟨_,z⟩
   .exact .inl ⟨.inr ⟨z,True.intro⟩,λ_=>rep.same.free z.1⟩
   .exact z.mono λ_=>.inl
def RetOk.caller(rs:List R)(rep:Rep g M ρ env σ H)(s:Same H H')(h:RetOk (JO H (vmsk g M (cb rs) ρ (c_ rs))) H' v r) :
 ∃M',Ext M H M' H'/\Rep g M' ρ env σ H'/\ROk g M' ρ H H' v (jD rs r):=by
 cases r with
 |val d fr al=>exact By rs rep s h
 |lJ d=>exact By rs rep s (Is.weak (λa z=>.inl z) h)
 |new ds fr=>
  obtain⟨a,vs,rfl,h1,h2,h3⟩:=h;have h2:H a=none:=h2;obtain⟨f0,f1,f2⟩:=rep.free h2;have R1:Rep g (λb=>M b\/(nl H H' b/\b≠a)) ρ env σ H':=rep.came s λb=>b≠a;have nm:¬(M a\/(nl H H' a/\a≠a)):=λz=>z.elim f1 λz=>z.2 rfl;have X1:Ext M H (λb=>M b\/(nl H H' b/\b≠a)) H':=⟨λ_=>.inl,s,λ_ z=>z.imp id (·.1.1)⟩;unfold jD;dsimp only;by_cases hfl:D.bp ds=true
  .rw[b_ hfl];exact⟨_,X1,R1,a,vs,rfl,h1,nm,h2,f2,IsAll.flat hfl h3⟩
  .rw[cF hfl];cases fr with
   |true=>
    refine⟨M,⟨λ_ z=>z,s,λ_ z=>.inl z⟩,rep.grow s,nl H H',λa z=>?_,?_⟩
    .exact⟨λw=>rep.jr a w z.1,z.1,z.2,(rep.free z.1).2.2⟩
    .exact⟨a,vs,rfl,.inl ⟨h1,h2,Mu.lst h1⟩,IsAll.weak (λb z=>z.2.elim id λw=>by cases w.1) h3⟩
   |false=>
    simp only[dv,qB];by_cases hc:(c_ rs).isEmpty=true
    .rw[b_ hc];refine⟨_,X1,R1,a,vs,rfl,h1,nm,h2,f2,?_⟩;refine IsAll.weak (λb z=>?_) h3;rcases z with⟨nb,z|⟨hf,z⟩⟩
     .exact⟨.inr ⟨z,nb⟩,λ_=>rep.same.free z.1⟩
     .have hl:c_ rs=[]:=by simpa using hc
      have z:vmsk g M (cb rs) ρ (c_ rs) b:=z;rw[hl]at z;exact⟨.inl z.nil.1,z.nil.2⟩
    .rw[cF hc];refine⟨λb=>(M b\/(nl H H' b/\b≠a))\/b=a,⟨λ_ z=>.inl (.inl z),s,λb z=>z.elim (X1.n b) λe=>.inr (e▸h2)⟩,R1.more h1 f0 f2,a,vs,rfl,.inl ⟨h1,.inl ⟨.inr rfl,λ_=>f0⟩⟩,?_⟩;refine IsAll.weak (λb z=>?_) h3;rcases z with⟨nb,z|⟨hf,z⟩⟩
     .exact .inl ⟨.inl (.inr ⟨z,nb⟩),λ_=>rep.same.free z.1⟩
     .exact vmsk.mono (λ_ w=>.inl (.inl w)) z
end
section
variable{X:Cx}{ps:List Str}
def cc(F:List D->Res R)(fs:En->Res (List R)):En->Res R:=λenv=>(fs env).bind λrs=>(F (rs.map R.d)).bind λr=>.ok (jD rs r)
def Bz(hl:∀env rs,fs env=.ok rs->rs.length=ps.length)(s:SndA X.mg E t fs):Snd X.mg E (xI (lI X.mg ps.length F) [] E t) (cc F fs):=by
 intro g M ρ env σ H Q rep p;refine s g M ρ env σ H _ rep ?_;unfold cc at p;cases e:fs env with
 |stuck=>rw[e]at p;exact p
 |exc c=>rw[e]at p;exact p
 |ok rs=>
  rw[e]at p;intro vs M1 H1 e1 rep1 is;have p1:PostE X.mg E g M1 ρ env σ H1 Q ((F (rs.map R.d)).bind λr=>.ok (jD rs r)):=PostE.ext e1 p;rw[Jv];refine⟨by rw[is.length,cG];exact hl env rs e,rs.map R.d,_,is,?_⟩;cases q:F (rs.map R.d)with
  |stuck=>rw[q]at p1;exact p1
  |exc c=>rw[q]at p1;exact λcls dx H' h1 h2=>p1 cls dx H' h1 (rep1.same.trans h2)
  |ok r=>rw[q]at p1;intro v H2 s2 ro;obtain⟨M3,e3,rep3,ro3⟩:=RetOk.caller rs rep1 s2 ro;exact p1 v M3 H2 e3 rep3 ro3
def Es(G:bA X.prog X.w X.K X.mg X.base CX k f fd ps (lI X.mg ps.length F))(hr:dj k X.A)(hg:Gl X x)(hm:X.mg x=some (.ref f))(hk:keepIn X.K (.ref f)=true)(hb:Binds X.K fd ps [])(hx:fP CX X E)
 (ha:zn X E (e::es) fs) (hl:∀env rs,fs env=.ok rs->rs.length=ps.length) (hdb:autoParam (dB x) Q_) (he:autoParam (sE X e es) Rc) (hpl:autoParam (bT X pos es) Rc) :
 PD X E (.Call (.Name x p) (e::es) [] pos) (cc F fs):=by
 obtain⟨t,p1,s1⟩:=ha;exact⟨_,ss G hr hg hm hk hb .nil hx p1 hdb he hpl,Bz hl s1⟩
def aK:∀env rs,aL env=.ok rs->rs.length=0:=λ_ _ e=>by cases e;rfl
def ah{f:En->Res R}{fs:En->Res (List R)}(h:∀env rs,fs env=.ok rs->rs.length=n):∀env rs,ag f fs env=.ok rs->rs.length=n+1:=λenv rs e=>by
 unfold ag at e;cases q:f env with
 |stuck=>rw[q]at e;cases e
 |exc c=>rw[q]at e;cases e
 |ok r=>
  rw[q]at e;cases q2:fs env with
  |stuck=>simp only[Res.gd,q2]at e;cases e
  |exc c=>simp only[Res.gd,q2]at e;cases e
  |ok rs'=>simp only[Res.gd,q2]at e;cases e;simp[h env rs' q2]
def kE(X:Cx)(E:XK)(f:Q0)(k:List R->Res R):Prop:=∃r,CallR X f r/\
 ∀g M ρ env σ H Q rs vs,Rep g M ρ env σ H->IsAll H (vmsk g M (cb rs) ρ (c_ rs)) (rs.map R.d) vs->PostE X.mg E g M ρ env σ H Q (k rs)->r vs H Q
def ol(k:List R->Res R)(fs:En->Res (List R)):En->Res R:=λenv=>(fs env).bind k
def dc{id:String}{k:List R->Res R}(hc:kE X E (.builtin id) k) (hg:Gl X x) (hm:X.mg x=none) (hv:bootBuiltins x=some (.builtin id)) (ha:zn X E (e::es) fs) (hn:autoParam (x≠"__name__") Q_) (hdb:autoParam (dB x) Q_)
 (he:autoParam (starEach (e::es) X.env=(false,eval e X.env)::starEach es X.env) Rc) (hpl:autoParam (bT X pos es) Rc):PD X E (.Call (.Name x p) (e::es) [] pos) (ol k fs):=by
 obtain⟨r,h1,h2⟩:=hc;obtain⟨t,p1,s1⟩:=ha;exact⟨_,dG h1 hg hm hv p1 hn hdb he hpl,λg M ρ env σ H Q rep p=>s1.kz rep p λrs vs M1 H1 e1 rep1 i1 q1=>h2 g M1 ρ env σ H1 Q rs vs rep1 i1 q1⟩
def dZ{k:List R->Res R}(hc:kE X E (.type T) k) (hg:Gl X x) (hm:X.mg x=none) (hv:bootBuiltins x=some (.type T)) (ha:zn X E (e::es) fs) (hn:autoParam (x≠"__name__") Q_) (hdb:autoParam (dB x) Q_)
 (he:autoParam (starEach (e::es) X.env=(false,eval e X.env)::starEach es X.env) Rc) (hpl:autoParam (bT X pos es) Rc):PD X E (.Call (.Name x p) (e::es) [] pos) (ol k fs):=by
 obtain⟨r,h1,h2⟩:=hc;obtain⟨t,p1,s1⟩:=ha;exact⟨_,rf h1 hg hm hv p1 hn hdb he hpl,λg M ρ env σ H Q rep p=>s1.kz rep p λrs vs M1 H1 e1 rep1 i1 q1=>h2 g M1 ρ env σ H1 Q rs vs rep1 i1 q1⟩
def BA:List R->Res R
 |[r]=>match r.d with
  |.lst ds=>.ok (.val (.int ds.length) true [])
  |.tup ds=>.ok (.val (.int ds.length) true [])
  |.str z=>if z.length<=lim then .ok (.val (.int z.length) true [])else .stuck
  |_=>.stuck
 |_=>.stuck
def Hz:kE X E (.builtin "len") BA:=by
 refine⟨_,call_len_seq.or sA,λg M ρ env σ H Q rs vs rep i p=>?_⟩;rcases rs with _|⟨r,_|_⟩
 .exact p.elim
 rotate_left
 .exact p.elim
 obtain⟨v,w,rfl,i1,i2⟩:=i;cases i2;have i1:Is H (vmsk g M (cb [r]) ρ (c_ [r])) r.d v:=i1;unfold BA at p;dsimp only at p;cases q:r.d with
 |lst ds=>rw[q]at p i1;obtain⟨a,ws,rfl,h1,h2⟩:=i1.rd;exact .inl ⟨a,ws,rfl,.inl (.inl h1),by rw[h2.length];exact p _ M H (Ext.refl _ _) rep rfl⟩
 |tup ds=>rw[q]at p i1;obtain⟨a,ws,rfl,h1,h2⟩:=i1;exact .inl ⟨a,ws,rfl,.inr (SqT.of h1),by rw[h2.length];exact p _ M H (Ext.refl _ _) rep rfl⟩
 |str z=>
  rw[q]at p i1;cases i1;by_cases hz:z.length<=lim
  .simp only[hz,PZ]at p;exact .inr ⟨z,rfl,iG hz,p _ M H (Ext.refl _ _) rep rfl⟩
  .simp only[hz,qB]at p;exact p.elim
 |_=>rw[q]at p;exact p.elim
def kF:List R->Res R
 |[r]=>match r.d with
  |.lst ds=>.ok (nM ds r.fr r.al)
  |.tup ds=>.ok (nM ds r.fr r.al)
  |_=>.stuck
 |_=>.stuck
def x5(h:vmsk g M (cb [r]) ρ (c_ [r]) a):vmsk g M r.fr ρ r.al a:=by
 have e1:cb [r]=r.fr:=by simp[cb]
 have e2:c_ [r]=r.al:=by simp[c_]
 rw[e1,e2]at h;exact h
def j7:kE X E (.type "list") kF:=by
 refine⟨_,sB,λg M ρ env σ H Q rs vs rep i p=>?_⟩;rcases rs with _|⟨r,_|_⟩
 .exact p.elim
 rotate_left
 .exact p.elim
 obtain⟨v,w,rfl,i1,i2⟩:=i;cases i2;have i1:Is H (vmsk g M (cb [r]) ρ (c_ [r])) r.d v:=i1;replace i1:=i1.weak λ_ z=>x5 z;unfold kF at p;dsimp only at p;cases q:r.d with
 |lst ds=>rw[q]at p i1;obtain⟨a,ws,rfl,h1,h2⟩:=i1.rd;exact⟨a,ws,rfl,.inl (.inl h1),λl hl=>p.lst rep hl h2⟩
 |tup ds=>rw[q]at p i1;obtain⟨a,ws,rfl,h1,h2⟩:=i1;exact⟨a,ws,rfl,.inr (SqT.of h1),λl hl=>p.lst rep hl h2⟩
 |_=>rw[q]at p;exact p.elim
end
inductive Fl where
 |nx (env:En)|rt (r:R)|bk (env:En)|ct (env:En)|rm (r:R) (env:En)
structure mL(M:Addr->Prop) (H:Hp) (M':Addr->Prop) (H':Hp):Prop where
 m:∀a,M a->M' a
 h:∀a o,H a=some o->(M a\/jB o)->H' a=some o
def mL.refl(M:Addr->Prop)(H:Hp):mL M H M H:=⟨λ_ z=>z,λ_ _ e _=>e⟩
def mL.trans{M M1 M2:Addr->Prop}(a:mL M H M1 H1)(b:mL M1 H1 M2 H2):mL M H M2 H2:=⟨λx z=>b.m x (a.m x z),λx o e z=>b.h x o (a.h x o e z) (z.imp (a.m x) id)⟩
def Ext.cV(e:Ext M H M' H'):mL M H M' H':=⟨e.m,λa o q _=>e.h a o q⟩
section
variable(mg:Str->Option Q0)(E:XK)(g:Gd)(M:Addr->Prop)(H:Hp)(D:Ends)
def PostS:Res Fl->Prop
 |.stuck=>False
 |.exc c=>Eo mg E g c
 |.ok (.nx env)=>∀σ M' ρ H',mL M H M' H'->Rep g M' ρ env σ H'->D.nx σ H'
 |.ok (.bk env)=>∀σ M' ρ H',mL M H M' H'->Rep g M' ρ env σ H'->D.bk σ H'
 |.ok (.ct env)=>∀σ M' ρ H',mL M H M' H'->Rep g M' ρ env σ H'->D.ct σ H'
 |.ok (.rt r)=>∀v M' H',mL M H M' H'->Same g.H₀ H'->((∀a,¬g.Z a)->RetOk g H' v r)->(r.d.flat=true->Is H' (λ_=>False) r.d v)->D.rt v H'
 |.ok (.rm r env)=>∀v σ M' ρ H0 H',mL M H M' H'->Rep g M' ρ env σ H'->Same g.H₀ H0->ROk g M' ρ H0 H' v r->D.rt v H'
end
def Et(mg:Str->Option Q0)(E:XK)(t:TS)(f:En->Res Fl):Prop:=∀g M ρ env σ H D,Rep g M ρ env σ H->PostS mg E g M H D (f env)->t D σ H
def Ap(X:Cx)(E:XK)(st:Stmt)(f:En->Res Fl):Prop:=∃t,PS X st t/\Et X.mg E t f
def sU(X:Cx)(E:XK)(st:List Stmt)(f:En->Res Fl):Prop:=∃t,PSs X st t/\Et X.mg E t f
section
variable{D:Ends}
def PostS.cV(e:mL M H M' H')(p:PostS mg E g M H D r):PostS mg E g M' H' D r:=by
 cases r with
 |stuck=>exact p
 |exc c=>exact p
 |ok r=>cases r with
  |nx env=>exact λσ M2 ρ2 H2 e2=>p σ M2 ρ2 H2 (e.trans e2)
  |bk env=>exact λσ M2 ρ2 H2 e2=>p σ M2 ρ2 H2 (e.trans e2)
  |ct env=>exact λσ M2 ρ2 H2 e2=>p σ M2 ρ2 H2 (e.trans e2)
  |rt r=>exact λv M2 H2 e2=>p v M2 H2 (e.trans e2)
  |rm r env=>exact λv σ M2 ρ2 H0 H2 e2=>p v σ M2 ρ2 H0 H2 (e.trans e2)
def Snd.xA{f:En->Res R}(h:Snd mg E t f)(rep:Rep g M ρ env σ H){K:R->Res Fl}(hp:PostS mg E g M H D ((f env).bind K))
 (k:∀r v M' H',Ext M H M' H'->Rep g M' ρ env σ H'->ROk g M' ρ H H' v r->PostS mg E g M' H' D (K r)->Q v H'):t σ H Q:=by
 refine h g M ρ env σ H Q rep ?_;cases e:f env with
 |stuck=>rw[e]at hp;exact hp
 |exc c=>rw[e]at hp;exact hp
 |ok r=>rw[e]at hp;exact λv M1 H1 e1 rep1 ro=>k r v M1 H1 e1 rep1 ro (PostS.cV e1.cV hp)
def SndT.xA{f:En->Res Bool}(h:SndT mg E t f)(rep:Rep g M ρ env σ H){K:Bool->Res Fl}{Q:Bool->Hp->Prop}(hp:PostS mg E g M H D ((f env).bind K))
 (k:∀b M' H',mL M H M' H'->Rep g M' ρ env σ H'->PostS mg E g M' H' D (K b)->Q b H'):t σ H Q:=by
 refine h g M ρ env σ H Q rep ?_;cases e:f env with
 |stuck=>rw[e]at hp;exact hp
 |exc c=>rw[e]at hp;exact hp
 |ok r=>rw[e]at hp;exact λM1 H1 e1 rep1=>k r M1 H1 e1.cV rep1 (PostS.cV e1.cV hp)
noncomputable def Km(ρ:Pr)(i:Nat):Pr:=λj a=>if j=i then False else ρ j a
def wM(h:j≠i):Km ρ i j=ρ j:=by funext a;unfold Km;rw[cF h]
def pD(h:Km ρ i j a):j≠i/\ρ j a:=by grind [Km]
noncomputable def sV(ρ:Pr)(i:Nat)(T:Addr->Prop):Pr:=λj a=>if j=i then T a else ρ j a
def fE(h:j≠i):sV ρ i T j=ρ j:=by funext a;unfold sV;rw[cF h]
def gL:sV ρ i T i=T:=by funext a;unfold sV;rw[b_ rfl]
def gE(env:En)(i:Nat):En:=match env[i]? with
 |some (some (.own ds fr))=>env.set i (some (.val (.lst ds) fr))
 |some (some (.uf d))=>env.set i (some (.val d true))
 |some (some (.Dy _))=>env.set i none
 |_=>env
def cV(env:En)(al:List Nat):En:=al.foldl gE env
def sW(h:j≠i):(gE env i)[j]?=env[j]?:=by unfold gE;split<;>first|rfl|exact ji (vG h)
def uO(i:Nat):(gE env i).length=env.length:=by unfold gE;split<;>simp
theorem BB:∀(al:List Nat){env:En}{j:Nat},¬j∈al->(cV env al)[j]?=env[j]?
 |[],_,_,_=>rfl
 |i::al,env,j,h=>by show(cV (gE env i) al)[j]?=_;rw[BB al λz=>h (by simp[z]),sW λz=>h (by simp[z])]
theorem sX:∀(al:List Nat)(env:En),(cV env al).length=env.length
 |[],_=>rfl
 |i::al,env=>by show(cV (gE env i) al).length=_;rw[sX al,uO]
theorem Rep.gE(rep:Rep g M ρ env σ H)(i:Nat):Rep g (λa=>M a\/ρ i a) (Km ρ i) (gE env i) σ H where
 same:=rep.same
 jr:=λb hb=>hb.elim (rep.jr b) λz=>(rep.cI i b z).2.2.some
 ud:=λb hb=>hb.elim (rep.ud b) λz=>.inl (rep.cI i b z).2.1
 fl:=λb hb h0=>hb.elim (λz=>rep.fl b z h0) λz=>.inl (rep.cI i b z).2.2
 slot:=λj sl ej=>by
  by_cases hj:j=i
  .subst hj;cases e:env[j]? with
   |none=>
    have:L3.gE env j=env:=by unfold L3.gE;rw[e]
    rw[this,e]at ej;cases ej
   |some o=>
    have hi:j<env.length:=(ci.mp e).1;cases o with
    |none=>
     have:L3.gE env j=env:=by unfold L3.gE;rw[e]
     rw[this,e]at ej;cases ej
    |some s0=>
     obtain⟨v,ev,k⟩:=rep.slot j s0 e;cases s0 with
     |val d fr=>
      have:L3.gE env j=env:=by unfold L3.gE;rw[e]
      rw[this,e]at ej;cases ej;exact⟨v,ev,Is.weak (λb z=>gD.mono (λ_=>.inl) z) k⟩
     |own ds fr=>
      have:L3.gE env j=env.set j (some (.val (.lst ds) fr)):=by unfold L3.gE;rw[e]
      rw[this,jg hi]at ej;cases ej;obtain⟨a,vs,rfl,h1,h2,h4⟩:=k;have ha:=(h2 a).mpr rfl;exact⟨_,ev,a,vs,rfl,.inl ⟨h1,.inr ha,λ_=>(rep.cI j a ha).2.1⟩,IsAll.weak (λb z=>gD.mono (λ_=>.inl) z) h4⟩
     |uf d=>
      have:L3.gE env j=env.set j (some (.val d true)):=by unfold L3.gE;rw[e]
      rw[this,jg hi]at ej;cases ej;exact⟨v,ev,Is.weak (λb z=>⟨.inr z,λ_=>(rep.cI j b z).2.1⟩) k⟩
     |Dy d=>
      have:L3.gE env j=env.set j none:=by unfold L3.gE;rw[e]
      rw[this,jg hi]at ej;cases ej
  .rw[sW hj]at ej;obtain⟨v,ev,k⟩:=rep.slot j sl ej;exact⟨v,ev,by rw[wM hj];exact SlOk.weak (λ_=>.inl) k⟩
 cI:=λj a h=>by obtain⟨hj,h⟩:=pD h;exact⟨λz=>z.elim (rep.cI j a h).1 λz=>hj (rep.apart j i a h z),(rep.cI j a h).2⟩
 apart:=λj k a h1 h2=>rep.apart j k a (pD h1).2 (pD h2).2
 ow:=λj a h=>by obtain⟨hj,h⟩:=pD h;have:=rep.ow j a h;unfold gK at this ⊢;rw[sW hj];exact this
 len:=by rw[uO];exact rep.len
 zz:=rep.zz
theorem Rep.cV:∀(al:List Nat){env:En}{M:Addr->Prop}{ρ:Pr},Rep g M ρ env σ H->∃(M':Addr->Prop)(ρ':Pr),(∀a,M a->M' a)/\Rep g M' ρ' (L3.cV env al) σ H/\(∀i,i∈al->∀a,ρ i a->M' a)/\(∀j a,ρ' j a->ρ j a)/\(∀j,¬j∈al->ρ' j=ρ j)
 |[],env,M,ρ,rep=>⟨M,ρ,λ_ z=>z,rep,λ_ z=>absurd z (by simp),λ_ _ o=>o,λ_ _=>rfl⟩
 |i::al,env,M,ρ,rep=>by
  obtain⟨M2,ρ2,e2,rep2,o2,k2,l2⟩:=Rep.cV al (rep.gE i);refine⟨M2,ρ2,λa z=>e2 a (.inl z),rep2,λj hj a o=>?_,λj a o=>(pD (k2 j a o)).2,λj hj=>?_⟩
  .by_cases hji:j=i
   .exact e2 a (.inr (hji▸o))
   .exact o2 j ((cC.mp hj).resolve_left hji) a (by rw[wM hji];exact o)
  .rw[l2 j λz=>hj (by simp[z]),wM λz=>hj (by simp[z])]
def Is.frozen(rep:Rep g M ρ env σ H)(e:∀a,M a->M' a)(hm:∀i,i∈al->∀a,ρ i a->M' a)(h:Is H (vmsk g M fr ρ al) d v):Is H (gD g M' fr) d v:=h.weak λa z=>z.elim (gD.mono e) λ⟨i,hi,o⟩=>⟨hm i hi a o,λ_=>(rep.cI i a o).2.1⟩
def Rep.put(rep:Rep g M ρ env σ H)(hi:i<env.length)(ok:SlOk g M T H v sl)(ht:∀a,T a->¬M a/\g.H₀ a=none/\Mu H a/\∀j,j≠i->¬ρ j a)(hO:autoParam (∀a,T a->sl.MQ=true) Q8._auto_1) :
 Rep g M (sV ρ i T) (env.set i (some sl)) (σ.set i (some v)) H:=by
 have hi2:i<σ.length:=by rw[<- rep.len];exact hi
 refine⟨rep.same,rep.jr,rep.ud,rep.fl,λj s ej=>?_,λj a h=>?_,λj k a h1 h2=>?_,λj a h=>?_,by rw[Pg,Pg];exact rep.len,rep.zz⟩
 .by_cases hj:j=i
  .subst hj;rw[jg hi]at ej;cases ej;exact⟨v,jg hi2,by rw[gL];exact ok⟩
  .rw[ji (vG hj)]at ej;obtain⟨w,ew,k⟩:=rep.slot j s ej;exact⟨w,by rw[ji (vG hj)];exact ew,by rw[fE hj];exact k⟩
 .by_cases hj:j=i
  .subst hj;rw[gL]at h;exact⟨(ht a h).1,(ht a h).2.1,(ht a h).2.2.1⟩
  .rw[fE hj]at h;exact rep.cI j a h
 .by_cases hj:j=i
  .by_cases hk:k=i
   .rw[hj,hk]
   .subst hj;rw[gL]at h1;rw[fE hk]at h2;exact absurd h2 ((ht a h1).2.2.2 k hk)
  .by_cases hk:k=i
   .subst hk;rw[gL]at h2;rw[fE hj]at h1;exact absurd h1 ((ht a h2).2.2.2 j hj)
   .rw[fE hj]at h1;rw[fE hk]at h2;exact rep.apart j k a h1 h2
 .unfold gK;by_cases hj:j=i
  .subst hj;rw[gL]at h;rw[jg hi];exact hO a h
  .rw[fE hj]at h;rw[ji (vG hj)];exact rep.ow j a h
def put(env:En)(i:Nat):R->En
 |.new ds fr=>env.set i (some (.own ds fr))
 |.val d fr al=>(cV env al).set i (some (.val d fr))
 |.lJ d=>env.set i (some (.uf d))
def Rep.store(rep:Rep g M ρ env σ H)(h0:Same g.H₀ H0)(hi:i<env.length)(h:ROk g M ρ H0 H v r):∃M' ρ',mL M H M' H/\Rep g M' ρ' (L3.put env i r) (σ.set i (some v)) H:=by
 cases r with
 |new ds fr=>obtain⟨a,vs,rfl,h1,h2,h3,h4,h5⟩:=h;exact⟨M,_,mL.refl _ _,rep.put (sl:=.own ds fr) (T:=λb=>b=a) hi ⟨a,vs,rfl,h1,λ_=>Iff.rfl,h5⟩ λb e=>by subst e;exact⟨h2,h0.free h3,Mu.lst h1,λj _=>h4 j⟩⟩
 |val d fr al=>obtain⟨M1,ρ1,e1,rep1,o1,k1,_⟩:=Rep.cV al rep;exact⟨M1,_,⟨e1,λ_ _ e _=>e⟩,rep1.put (sl:=.val d fr) (T:=λ_=>False) (by rw[sX];exact hi) (Is.frozen rep e1 o1 h) (λ_ z=>z.elim) λ_ z=>z.elim⟩
 |lJ d=>obtain⟨T,ht,is⟩:=h;exact⟨M,_,mL.refl _ _,rep.put (sl:=.uf d) (T:=T) hi is λb z=>let ⟨a1,a2,a3,a4⟩:=ht b z;⟨a1,h0.free a2,a3,λj _=>a4 j⟩⟩
def Rep.JK(hu:Kf u')(rep:Rep g M ρ env σ H)(o:ρ i a)(hi:i<env.length)(ev:σ[i]?=some (some v))(ok:SlOk g M (ρ i) (aY H a u') v sl)(hO:autoParam (sl.MQ=true) Rc) :
 mL M H M (aY H a u')/\Rep g M ρ (env.set i (some sl)) σ (aY H a u'):=by
 obtain⟨nm,n0,uo,ha,hmu⟩:=rep.cI i a o;have nfx:∀u,H a=some u->¬jB u:=λu e z=>by rw[ha]at e;cases e;cases uo<;>first|exact z|exact hmu
 have kp:∀b u,H b=some u->(M b\/jB u)->aY H a u' b=some u:=λb u q z=>by grind [aj]
 have km:∀(fr:Bool) b u,H b=some u->(gD g M fr b\/jB u)->aY H a u' b=some u:=λfr b u q z=>kp b u q (z.imp (·.1) id);refine⟨⟨λ_ z=>z,kp⟩,λb u q=>?_,λb hb=>?_,rep.ud,λb hb h0=>?_,λj s ej=>?_,λj b h=>?_,rep.apart,λj b h=>?_,by rw[Pg];exact rep.len,λc z e=>by
  by_cases hc:c=a
  .subst hc;rw[aw]at e;cases e
  .rw[aj hc]at e;exact rep.zz c z e⟩
 .rw[aj (λz=>by rw[z,n0]at q;cases q)];exact rep.same b u q
 .have nb:b≠a:=λz=>nm (by rw[<- z];exact hb);rw[aj nb];exact rep.jr b hb
 .have nb:b≠a:=λz=>nm (by rw[<- z];exact hb);exact(rep.fl b hb h0).same λo e=>by rw[aj nb];exact e
 .by_cases hj:j=i
  .grind
  .rw[ji (vG hj)]at ej;obtain⟨w,ew,k⟩:=rep.slot j s ej;refine⟨w,ew,?_⟩;have nj:∀b,ρ j b->b≠a:=λb hb e=>hj (rep.apart j i a (e▸hb) o);cases s with
   |val d fr=>exact Is.mono (km fr) (λ_ _ _ z=>z) k
   |own ds' fr'=>obtain⟨b,ws,rfl,h1,h2,h4⟩:=k;exact⟨b,ws,rfl,by rw[aj (nj b ((h2 b).mpr rfl))];exact h1,h2,IsAll.mono (km fr') (λ_ _ _ z=>z) h4⟩
   |uf d=>
    refine Is.mono (λb u q z=>?_) (λ_ _ _ z=>z) k
    grind [aj]
   |Dy d=>refine IsSh.mono (λb u q z=>kp b u q (.inr z)) (λb ws z q=>⟨ws,by rw[aj (nj b z)];exact q⟩) (λ_ z=>z) k
 .obtain⟨b1,b2,b3⟩:=rep.cI j b h;refine⟨b1,b2,?_⟩;by_cases e:b=a
  .exact⟨u',by rw[e,aw],hu⟩
  .exact b3.same λo z=>by rw[aj e];exact z
 .unfold gK;by_cases hj:j=i
  .subst hj;rw[jg hi];exact hO
  .rw[ji (vG hj)];exact rep.ow j b h
def Rep.write(rep:Rep g M ρ env σ H)(o:ρ i a)(hi:i<env.length)(ev:σ[i]?=some (some v))(ok:SlOk g M (ρ i) (aY H a (.lst vs')) v sl)(hO:autoParam (sl.MQ=true) Rc) :
 mL M H M (aY H a (.lst vs'))/\Rep g M ρ (env.set i (some sl)) σ (aY H a (.lst vs')):=rep.JK (u':=.lst vs') True.intro o hi ev ok hO
end
section
noncomputable def nZ:En->Res Fl:=λenv=>.ok (.nx env)
def bB(f k:En->Res Fl):En->Res Fl:=λenv=>(f env).bind λr=>match r with
 |.nx bI=>k bI
 |r=>.ok r
def dH:sU X E [] nZ:=⟨_,lL,λg M ρ env σ H D rep p=>p σ M ρ H (mL.refl _ _) rep⟩
def aO{st:Stmt}{f:En->Res Fl}(h:Ap X E st f):sU X E [st] f:=let ⟨t,a,b⟩:=h;⟨t,a_ a,b⟩
def ax{st:Stmt}{rest:List Stmt}{f k:En->Res Fl}(h1:Ap X E st f)(h2:sU X E rest k):sU X E (st::rest) (bB f k):=by
 obtain⟨t,a,b⟩:=h1;obtain⟨u,c,d⟩:=h2;refine⟨_,ba a c,λg M ρ env σ H D rep p=>b g M ρ env σ H _ rep ?_⟩;unfold bB at p;cases q:f env with
 |stuck=>rw[q]at p;exact p
 |exc c=>rw[q]at p;exact p
 |ok r=>
  rw[q]at p;cases r with
  |nx bI=>exact λσ' M' ρ' H' e rep'=>d g M' ρ' bI σ' H' D rep' (PostS.cV e p)
  |bk bI=>exact p
  |ct bI=>exact p
  |rt r=>exact p
  |rm r bI=>exact p
def Aq(c:En->Res Bool)(a b:En->Res Fl):En->Res Fl:=λenv=>(c env).bind λk=>if k then a env else b env
def g8(hc:zp X E c fc)(ha:sU X E a fa)(hb:sU X E b fb):Ap X E (.If c a b pos) (Aq fc fa fb):=by
 obtain⟨tc,p1,s1⟩:=hc;obtain⟨ta,p2,s2⟩:=ha;obtain⟨tb,p3,s3⟩:=hb;refine⟨_,qX p1 p2 p3,λg M ρ env σ H D rep p=>s1.xA rep p λb M' H' e rep' p'=>?_⟩;cases b with
 |true=>exact yZ (s2 g M' ρ env σ H' D rep' p')
 |false=>exact AX (s3 g M' ρ env σ H' D rep' p')
def g9(f:En->Res R):En->Res Fl:=λenv=>(f env).bind λr=>.ok (.rt r)
def ROk.ret(rep:Rep g M ρ env σ H)(h0:Same g.H₀ H0)(h:ROk g M ρ H0 H v r)(hz:∀a,¬g.Z a):RetOk g H v r:=by
 have mu:∀a,M a->g.H₀ a=none->Mu H a:=λa h1 h2=>(rep.fl a h1 h2).elim id λz=>(hz a z.1).elim;have key:∀{fr:Bool}{a:Addr},gD g M fr a->nl g.H₀ H a\/(fr=false/\g.Ma a):=λ{fr a} z=>by
  cases fr with
  |true=>exact .inl ⟨z.2 rfl,mu a z.1 (z.2 rfl)⟩
  |false=>exact(rep.ud a z.1).imp (λw=>⟨w,mu a z.1 w⟩) λw=>⟨rfl,w⟩
 cases r with
 |val d fr al=>exact Is.weak (λa z=>z.elim key λ⟨i,_,o⟩=>.inl (rep.cI i a o).2) h
 |new ds fr=>obtain⟨a,vs,rfl,h1,h2,h3,h4,h5⟩:=h;exact⟨a,vs,rfl,h1,h0.free h3,IsAll.weak (λb z=>⟨λe=>h2 (e▸z.1),key z⟩) h5⟩
 |lJ d=>obtain⟨T,ht,is⟩:=h;exact Is.weak (λa z=>let ⟨_,a2,a3,_⟩:=ht a z;⟨h0.free a2,a3⟩) is
def ROk.flatIs(h:ROk g M ρ H0 H v r)(hf:r.d.flat=true):Is H (λ_=>False) r.d v:=by
 cases r with
 |val d fr al=>exact Is.flat hf h
 |new ds fr=>simp[D.flat,R.d]at hf
 |lJ d=>obtain⟨T,_,is⟩:=h;exact Is.flat hf is
def bQ(h:PD X E e f):Ap X E (.Return (some e) pos) (g9 f):=by obtain⟨t,p1,s1⟩:=h;exact⟨_,oG p1,λg M ρ env σ H D rep p=>s1.xA rep p λr v M' H' e rep' ro p'=>p' v M' H' (mL.refl _ _) rep'.same (λhz=>ro.ret rep' rep.same hz) λhf=>ro.flatIs hf⟩
def fq(i:Nat)(f:En->Res R):En->Res Fl:=λenv=>(f env).bind λr=>if i<env.length then .ok (.nx (put env i r))else .stuck
def x6(s:Snd mg E t f):Et mg E (lM t (aU i)) (fq i f):=by
 intro g M ρ env σ H D rep p;refine s.xA rep p λr v M' H' e rep' ro p'=>?_;by_cases hi:i<env.length
 .rw[b_ hi]at p';obtain⟨M2,ρ2,e2,rep2⟩:=rep'.store rep.same hi ro;exact p' _ M2 ρ2 H' e2 rep2
 .rw[cF hi]at p';exact p'.elim
def bG(hN:X.N.Nodup)(hi:X.N[i]?=some x)(hx:DE X.env.scope x)(h:PD X E e f)(hs:autoParam (swapsWith e (some (.Name x pos')) pos.line X.env=pure false) Rc)
 (hf:autoParam (X.fn x=true\/X.env.scope.names.lookup x=some .local) Ra):Ap X E (.Assign [.Name x pos'] e pos) (fq i f):=by
 obtain⟨t,p1,s1⟩:=h;exact⟨_,iz hN hi hx p1 hs hf,x6 s1⟩
def pE(env:En)(i:Nat):Option (List D×Bool):=match env[i]? with
 |some (some (.own ds fr))=>some (ds,fr)
 |some (some (.uf (.lst ds)))=>some (ds,true)
 |_=>none
mutual
noncomputable def D.sz:D->Nat
 |.tup ds=>D.JU ds+1
 |.lst ds=>D.JU ds+1
 |.nF _ ds=>D.JU ds+1
 |_=>0
noncomputable def D.JU:List D->Nat
 |[]=>0
 |d::ds=>d.sz+D.JU ds+1
end
section
mutual
theorem Is.avoid(ha:Is H m' e (.ref a)):∀{d:D}{v:V},d.sz<e.sz->Is H m d v->Is H (λb=>m b/\b≠a) d v
 |.bL,_,_,h=>h
 |.bl _,_,_,h=>h
 |.int _,_,_,h=>h
 |.str _,_,_,h=>h
 |.tup ds,_,hs,h=>by obtain⟨b,vs,rfl,h1,h2⟩:=h;simp only[D.sz]at hs;exact⟨b,vs,rfl,h1,IsAll.avoid ha (by lia) h2⟩
 |.lst ds,_,hs,h=>by
  have h':=h;obtain⟨b,vs,rfl,h1,h2⟩:=h;have nb:b≠a:=λz=>by subst z;have q:=Is.inj h' ha;rw[q]at hs;lia
  simp only[D.sz]at hs;refine⟨b,vs,rfl,?_,IsAll.avoid ha (by lia) h2⟩;rcases h1 with⟨h1,h3⟩|⟨o,h1,h3⟩
  .exact .inl ⟨h1,h3,nb⟩
  .exact .inr ⟨o,h1,h3,nb⟩
 |.nF ks ds,_,hs,h=>by
  have h':=h;obtain⟨b,kvs,rfl,h1,h2⟩:=h;have nb:b≠a:=λz=>by subst z;have q:=Is.inj h' ha;rw[q]at hs;lia
  simp only[D.sz]at hs;exact⟨b,kvs,rfl,⟨h1.1,h1.2,nb⟩,IsAll.avoid ha (by lia) h2⟩
theorem IsAll.avoid(ha:Is H m' e (.ref a)):∀{ds:List D}{vs:List V},D.JU ds<e.sz->IsAll H m ds vs->IsAll H (λb=>m b/\b≠a) ds vs
 |[],_,_,h=>h
 |d::ds,_,hs,h=>by obtain⟨v,r,rfl,h1,h2⟩:=h;simp only[D.JU]at hs;exact⟨v,r,rfl,Is.avoid ha (by lia) h1,IsAll.avoid ha (by lia) h2⟩
end
end
def Rep.Gu(rep:Rep g M ρ env σ H)(e:pE env i=some (ds,fr)) :
 ∃(M':Addr->Prop)(ρ':Pr)(a:Addr)(vs:List V),(∀b,M b->M' b)/\Rep g M' ρ' (env.set i (some (.own ds fr))) σ H/\σ[i]?=some (some (.ref a))/\H a=some (.lst vs)/\(∀b,ρ' i b↔b=a)/\IsAll H (gD g M' fr) ds vs/\i<env.length/\(∀j b,ρ' j b->ρ j b)/\(∀j,j≠i->ρ' j=ρ j):=by
 unfold pE at e;cases q:env[i]? with
 |none=>rw[q]at e;cases e
 |some o=>
  have hi:i<env.length:=(ci.mp q).1;have hself:env.set i (env[i])=env:=Qk hi;cases o with
  |none=>rw[q]at e;cases e
  |some sl=>
   obtain⟨v,ev,k⟩:=rep.slot i sl q;rw[q]at e;cases sl with
   |val d f=>cases e
   |Dy d=>cases e
   |own ds' f'=>
    cases e;obtain⟨a,vs,rfl,h1,h2,h4⟩:=k;have eq:env.set i (some (.own ds fr))=env:=by
     have:env[i]=some (.own ds fr):=by have:=(ci.mp q).2;exact this
     rw[<- this];exact hself
    rw[eq];exact⟨M,ρ,a,vs,λ_ z=>z,rep,ev,h1,h2,h4,hi,λ_ _ z=>z,λ_ _=>rfl⟩
   |uf d=>
    cases d with
    |lst ds'=>
     cases e;have k':=k;obtain⟨a,vs,rfl,h1,h2⟩:=k;have pa:ρ i a:=by rcases h1 with⟨_,z⟩|⟨_,_,z⟩<;>exact z
     obtain⟨pm,p0,uo,pl,pmu⟩:=rep.cI i a pa;have hl:H a=some (.lst vs):=by
      rcases h1 with⟨h1,_⟩|⟨o,h1,_⟩
      .exact h1
      .rw[h1]at pl;cases pl;exact pmu.elim
     have inner:IsAll H (λb=>ρ i b/\b≠a) ds vs:=IsAll.avoid k' (by simp only[D.sz];lia) h2
     let M':Addr->Prop:=λb=>M b\/(ρ i b/\b≠a)
     let ρ':Pr:=sV ρ i λb=>b=a
     have rr:Rep g M' ρ' (env.set i (some (.own ds true))) (σ.set i (some (.ref a))) H:=by
      have r1:Rep g M' (λj b=>if j=i then b=a else ρ j b) (env.set i (some (.own ds true))) σ H:=by
       refine⟨rep.same,λb hb=>hb.elim (rep.jr b) λz=>?_,λb hb=>hb.elim (rep.ud b) λz=>.inl (rep.cI i b z.1).2.1,λb hb h0=>hb.elim (λz=>rep.fl b z h0) λz=>.inl (rep.cI i b z.1).2.2,λj s ej=>?_,λj b h=>?_,λj k b w1 w2=>?_,λj b h=>?_,by rw[Pg];exact rep.len,rep.zz⟩
       .exact(rep.cI i b z.1).2.2.some
       .by_cases hj:j=i
        .subst hj;rw[jg hi]at ej;cases ej;exact⟨_,ev,a,vs,rfl,hl,λb=>by simp,IsAll.weak (λb z=>⟨.inr z,λ_=>(rep.cI j b z.1).2.1⟩) inner⟩
        .rw[ji (vG hj)]at ej;obtain⟨v',ev',k2⟩:=rep.slot j s ej;have eT:(λb=>if j=i then b=a else ρ j b)=ρ j:=by funext b;rw[cF hj]
         exact⟨v',ev',by show SlOk g M' (λb=>if j=i then b=a else ρ j b) H v' s;rw[eT];exact SlOk.weak (λ_=>.inl) k2⟩
       .by_cases hj:j=i
        .rw[b_ hj]at h;subst h;exact⟨λz=>z.elim pm λz=>z.2 rfl,p0,Mu.lst hl⟩
        .rw[cF hj]at h;exact⟨λz=>z.elim (rep.cI j b h).1 λz=>hj (rep.apart j i b h z.1),(rep.cI j b h).2⟩
       .by_cases hj:j=i
        .by_cases hk:k=i
         .rw[hj,hk]
         .rw[b_ hj]at w1;rw[cF hk]at w2;subst w1;exact absurd (rep.apart k i b w2 pa) hk
        .by_cases hk:k=i
         .rw[b_ hk]at w2;rw[cF hj]at w1;subst w2;exact absurd (rep.apart j i b w1 pa) hj
         .rw[cF hj]at w1;rw[cF hk]at w2;exact rep.apart j k b w1 w2
       .unfold gK;by_cases hj:j=i
        .subst hj;rw[jg hi];rfl
        .rw[cF hj]at h;rw[ji (vG hj)];exact rep.ow j b h
      have hi2:i<σ.length:=by rw[<- rep.len];exact hi
      have es:σ.set i (some (.ref a))=σ:=by have:σ[i]=some (.ref a):=(ci.mp ev).2;rw[<- this];exact Qk hi2
      rw[es];exact r1
     have hi2:i<σ.length:=by rw[<- rep.len];exact hi
     have es:σ.set i (some (.ref a))=σ:=by have:σ[i]=some (.ref a):=(ci.mp ev).2;rw[<- this];exact Qk hi2
     rw[es]at rr;refine⟨M',ρ',a,vs,λ_=>.inl,rr,ev,hl,λb=>by show sV ρ i (λb=>b=a) i b↔b=a;rw[gL],IsAll.weak (λb z=>⟨.inr z,λ_=>(rep.cI i b z.1).2.1⟩) inner,hi,λj b z=>?_,λj hj=>fE hj⟩;by_cases hj:j=i
     .subst hj;have z:sV ρ j (λb=>b=a) j b:=z;rw[gL]at z;rw[z];exact pa
     .have z:sV ρ i (λb=>b=a) j b:=z;rw[fE hj]at z;exact z
    |_=>cases e
def zt(i:Nat)(f:En->Res R):En->Res Fl:=λenv=>match pE env i with
 |some (ds,fr)=>(f env).bind λr=>if ds.length<lim/\¬i∈r.al then .ok (.nx ((cV env r.al).set i (some (.own (ds++[r.d]) (fr&&r.fr)))))else .stuck
 |none=>.stuck
def x8(ha:PE X a (aH i))(h:PD X E e f)
 (hbase:autoParam (attributeBase a "append" X.env (eval a X.env)=eval a X.env) Rc)
 (hfew:autoParam (((backTo cpos (starEach [e] X.env)).all (λx=>!x.1)&&(backToKw cpos (keywordEach [] X.env)).all (λx=>x.1.isSome)
   && decide (([e]:List Expr).length+([]:List Keyword).length+(if([]:List Keyword).isEmpty then 0 else 1)<30))=true) Rc)
 (hline:autoParam ((apos.endLine==cpos.line)=true) Rc) (hs:autoParam (starEach [e] X.env=(false,eval e X.env)::starEach [] X.env) Rc) (hplain:autoParam (bT X cpos []) Rc)
 (hsw:autoParam (swapsWith (.Call (.Attribute a "append" apos) [e] [] cpos) none pos.line X.env=pure false) Rc) :
 Ap X E (.Expr (.Call (.Attribute a "append" apos) [e] [] cpos) pos) (zt i f):=by
 obtain⟨t,p1,s1⟩:=h;refine⟨_,cv (lN N8 JI KE gf ha (ai p1 aG hs) hbase hfew hline hs hplain) hsw,λg M ρ env σ H D rep p=>?_⟩;unfold zt at p;cases e1:pE env i with
 |none=>rw[e1]at p;exact p.elim
 |some o=>
  obtain⟨ds,fr⟩:=o;rw[e1]at p;dsimp only at p;obtain⟨M0,ρ0,l,vs,m0,rep0,ev,k1,k2,k4,hi,_⟩:=rep.Gu e1;refine⟨_,ev,.inl ⟨rfl,vs,SqL.of k1⟩,s1.xA rep p λr y M' H' e rep' ro p'=>?_⟩;by_cases hc:ds.length<lim/\¬i∈r.al
  .rw[b_ hc]at p';obtain⟨M1,x1,x1m,rep1,is1⟩:=ro.is rep' e rep.same;obtain⟨M2,ρ2,x2,rep2,o2,k5,k6⟩:=Rep.cV r.al rep1;have is2:Is H' (gD g M2 r.fr) r.d y:=Is.frozen rep1 x2 o2 is1;have e2:pE (cV env r.al) i=some (ds,fr):=by unfold pE;rw[BB _ hc.2];exact e1
   obtain⟨M3,ρ3,l3,vs3,m3,rep3,ev3,j1,j2,j4,hi3,_⟩:=rep2.Gu e2;rw[ev]at ev3;cases ev3;have hl:H' l=some (.lst vs):=e.h _ _ k1;rw[hl]at j1;cases j1;have pl:ρ3 i l:=(j2 l).mpr rfl;obtain⟨nl3,_⟩:=rep3.cI i l pl;have is4:IsAll H' (gD g M3 (fr&&r.fr)) (ds++[r.d]) (vs++[y]):=by refine IsAll.snoc (IsAll.weak (λb z=>⟨z.1,λq=>z.2 (by cases fr<;>simp_all)⟩) j4) (Is.weak (λb z=>⟨m3 b z.1,λq=>z.2 (by cases fr<;>simp_all)⟩) is2)
   have kp:∀b u,H' b=some u->(gD g M3 (fr&&r.fr) b\/jB u)->aY H' l (.lst (vs++[y])) b=some u:=λb u q z=>by
    rw[aj]
    .exact q
    .rintro rfl;rcases z with z|z
     .exact nl3 z.1
     .rw[hl]at q;cases q;exact z
   obtain⟨f1,rep4⟩:=rep3.write (sl:=.own (ds++[r.d]) (fr&&r.fr)) (vs':=vs++[y]) pl (by rw[Pg];exact hi3) ev ⟨l,vs++[y],rfl,aw,j2,IsAll.mono kp (λ_ _ _ z=>z) is4⟩;rw[List.set_set]at rep4;refine⟨l,vs,y,rfl,rfl,hl,by rw[k4.length];exact Bv hc.1,?_⟩;exact p' σ M3 ρ3 _ (mL.trans ⟨λa z=>m3 a (x2 a (x1m a z)),λ_ _ q _=>q⟩ f1) rep4
  .rw[cF hc]at p';exact p'.elim
end
def HA(ix:List Nat)(t:TG)(asg:D->Bool->En->Option En):Prop:=∀(g:Gd)(M:Addr->Prop)(ρ:Pr)(env bI:En)(σ:St)(H:Hp)(d:D)(fr:Bool)(v:V)(Q:St->Hp->Prop),
 Rep g M ρ env σ H->Is H (gD g M fr) d v->asg d fr env=some bI->(∀(σ':St)(ρ':Pr),Rep g M ρ' bI σ' H->(∀j,¬j∈ix->σ'[j]?=σ[j]?)->(∀j a,ρ' j a->ρ j a)->Q σ' H)->t v σ H Q
def Kn(ix:List Nat)(t:JM)(asg:List D->Bool->En->Option En):Prop:=∀(g:Gd)(M:Addr->Prop)(ρ:Pr)(env bI:En)(σ:St)(H:Hp)(ds:List D)(fr:Bool)(vs:List V)(Q:St->Hp->Prop),
 Rep g M ρ env σ H->IsAll H (gD g M fr) ds vs->asg ds fr env=some bI->(∀(σ':St)(ρ':Pr),Rep g M ρ' bI σ' H->(∀j,¬j∈ix->σ'[j]?=σ[j]?)->(∀j a,ρ' j a->ρ j a)->Q σ' H)->t vs σ H Q
def Eu(X:Cx)(ix:List Nat)(tg:Expr)(asg:D->Bool->En->Option En):Prop:=∃t,PG X tg t/\HA ix t asg
def Ew(X:Cx)(ix:List Nat)(ts:List Expr)(asg:List D->Bool->En->Option En):Prop:=∃t,GK X ts t/\Kn ix t asg
section
def gN(i:Nat):D->Bool->En->Option En:=λd fr env=>if i<env.length then some (env.set i (some (.val d fr)))else none
def zu:HA [i] (aU i) (gN i):=by
 intro g M ρ env bI σ H d fr v Q rep is e k;unfold gN at e;by_cases hi:i<env.length
 .rw[b_ hi]at e;cases e;exact k _ _ (rep.put (sl:=.val d fr) (T:=λ_=>False) hi is (λ_ z=>z.elim) λ_ z=>z.elim) (λj hj=>ji λe=>hj (by simp[e])) λj a z=>by
   by_cases hj:j=i
   .subst hj;rw[gL]at z;exact z.elim
   .rw[fE hj]at z;exact z
 .rw[cF hi]at e;cases e
def aS(hN:X.N.Nodup)(hi:X.N[i]?=some x)(hx:DE X.env.scope x)(hf:autoParam (X.fn x=true\/X.env.scope.names.lookup x=some .local) Ra):Eu X [i] (.Name x pos) (gN i):=⟨_,bP hN hi hx hf,zu⟩
noncomputable def fS:List D->Bool->En->Option En:=λds _ env=>match ds with
 |[]=>some env
 |_=>none
def bn(f:D->Bool->En->Option En)(fs:List D->Bool->En->Option En):List D->Bool->En->Option En:=λds fr env=>match ds with
 |d::r=>(f d fr env).bind λbI=>fs r fr bI
 |[]=>none
def eF:Ew X [] [] fS:=⟨_,fV,λg M ρ env bI σ H ds fr vs Q rep is e k=>by
 cases ds with
 |nil=>cases e;cases is;exact⟨rfl,k σ ρ rep (λ_ _=>rfl) λ_ _ z=>z⟩
 |cons d ds=>cases e⟩
def be(h1:Eu X ix e f)(h2:Ew X jx es fs)
 (hs:∀t,PG X e t->∀u,GK X es u->GK X (e::es) (br t u)):Ew X (ix++jx) (e::es) (bn f fs):=by
 obtain⟨t,p1,s1⟩:=h1;obtain⟨u,p2,s2⟩:=h2;refine⟨_,hs t p1 u p2,λg M ρ env bI σ H ds fr vs Q rep is e k=>?_⟩;cases ds with
 |nil=>cases e
 |cons d ds=>
  obtain⟨v,r,rfl,i1,i2⟩:=is;unfold bn at e;dsimp only at e;cases q:f d fr env with
  |none=>rw[q]at e;cases e
  |some kr=>rw[q]at e;refine⟨v,r,rfl,s1 g M ρ env kr σ H d fr v _ rep i1 q λσ1 ρ1 rep1 c1 d1=>?_⟩;exact s2 g M ρ1 kr bI σ1 H ds fr r Q rep1 i2 e λσ2 ρ2 rep2 c2 d2=>k σ2 ρ2 rep2 (λj hj=>(c2 j λz=>hj (by simp[z])).trans (c1 j λz=>hj (by simp[z]))) λj a z=>d1 j a (d2 j a z)
def gT(n:Nat)(fs:List D->Bool->En->Option En):D->Bool->En->Option En:=λd fr env=>match d with
 |.tup ds=>if ds.length=n then fs ds fr env else none
 |_=>none
def fZ(hc:X.calm=true)(h:Ew X ix es fs)(hn:autoParam ((assignEach es X.env).length=n) Rc)(hst:autoParam ((assignEach es X.env).findIdx? (·.1)=none) Rc):Eu X ix (.Tuple es k pos) (gT n fs):=by
 obtain⟨t,p1,s1⟩:=h;refine⟨_,iu hc p1 hn hst,λg M ρ env bI σ H d fr v Q rep is e kk=>?_⟩;unfold gT at e;cases d with
 |tup ds=>
  obtain⟨a,vs,rfl,h1,h2⟩:=is;dsimp only at e;by_cases hl:ds.length=n
  .rw[b_ hl]at e;exact⟨a,vs,rfl,SqT.of h1,h2.length.trans hl,s1 g M ρ env bI σ H ds fr vs Q rep h2 e kk⟩
  .rw[cF hl]at e;cases e
 |_=>cases e
def pF(f:En->Res R)(asg:D->Bool->En->Option En):En->Res Fl:=λenv=>(f env).bind λr=>match asg r.d r.fr (cV env r.al)with
 |some bI=>.ok (.nx bI)
 |none=>.stuck
def f6(he:PD X E e f)(hg:Eu X ix tg asg)(hs:autoParam (swapsWithSole [tg] e pos.line X.env=pure false) Rc)(hw:autoParam (swappedStores [tg] e X.env=pure none) Rc)
 (h1:autoParam ((assignEach [tg] X.env).map (·.2)=[assign tg X.env]) Rc):Ap X E (.Assign [tg] e pos) (pF f asg):=by
 obtain⟨t,p1,s1⟩:=he;obtain⟨u,p2,s2⟩:=hg;refine⟨_,GL p1 p2 hs hw h1,λg M ρ env σ H D rep p=>s1.xA rep p λr v M' H' e rep' ro p'=>?_⟩;obtain⟨M1,x1,x1m,rep1,is1⟩:=ro.is rep' e rep.same;obtain⟨M2,ρ2,x2,rep2,o2,_,_⟩:=Rep.cV r.al rep1;have is2:Is H' (gD g M2 r.fr) r.d v:=Is.frozen rep1 x2 o2 is1;cases q:asg r.d r.fr (cV env r.al)with
 |none=>simp only[q]at p';exact p'.elim
 |some bI=>simp only[q]at p';exact s2 g M2 ρ2 _ bI σ H' r.d r.fr v _ rep2 is2 q λσ' ρ' rep3 _ _=>p' σ' M2 ρ' H' ⟨λa z=>x2 a (x1m a z),λ_ _ q _=>q⟩ rep3
end
structure Src where
 xs:List D
 fr:Bool
 al:List Nat
structure Walk(J:It) (m:Addr->Prop) (H:Hp) (xs:List D):Prop where
 go:∀H' i d,(∀a o,H a=some o->(m a\/jB o)->H' a=some o)->xs[i]?=some d->J.go i H'/\∀x H'',J.GB i H' x H''->Same H' H''/\Is H'' m d x
 stop:∀H',(∀a o,H a=some o->(m a\/jB o)->H' a=some o)->J.stop xs.length H'
theorem Walk.weak(w:Walk J m H xs)(h:∀a,m a->m' a):Walk J m' H xs:=⟨λH' i d k e=>let ⟨a,b⟩:=w.go H' i d (λa o q z=>k a o q (z.imp (h a) id)) e;⟨a,λx H'' y=>let ⟨c,d⟩:=b x H'' y;⟨c,d.weak h⟩⟩,λH' k=>w.stop H' λa o q z=>k a o q (z.imp (h a) id)⟩
def PostI(mg:Str->Option Q0)(E:XK)(g:Gd)(M:Addr->Prop)(ρ:Pr)(env:En)(σ:St)(H:Hp)(R:It->Hp->Prop):Res Src->Prop
 |.stuck=>False
 |.exc c=>Eo mg E g c
 |.ok s=>∀J M' H',Ext M H M' H'->Rep g M' ρ env σ H'->Walk J (vmsk g M' s.fr ρ s.al) H' s.xs->R J H'
def Ko(mg:Str->Option Q0)(E:XK)(wi:TI)(f:En->Res Src):Prop:=∀g M ρ env σ H R,Rep g M ρ env σ H->PostI mg E g M ρ env σ H R (f env)->wi σ H R
def Kp(X:Cx)(E:XK)(tg iter:Expr)(f:En->Res Src):Prop:=∃wi,PI X tg iter wi/\Ko X.mg E wi f
section
variable{X:Cx}{E:XK}
def Nk(K:QY)(tl:TE):TI:=λσ H R=>tl σ H λx H1=>∃a,x=.ref a/\(((∃xs,SqL K H1 a xs)/\R (DF K a) H1)\/((∃xs,SqT K H1 a xs)/\R (MX K a) H1))
def HB(hl:PE X l tl):PI X tg l (Nk X.K tl):=by
 intro aa s σ H R I h;refine cZ (hl aa s σ H _ I h) λv s1 ⟨x,H1,I1,r1,q1⟩=>?_;obtain⟨a,e,q⟩:=q1;subst e;cases r1;rcases q with⟨⟨xs,hq⟩,q⟩|⟨⟨xs,hq⟩,q⟩
 .obtain⟨its,rv,p,hz⟩:=I1.list hq;refine Qa p.isList ?_;refine⟨s1.heap.objs.size,[s1.heap.objs.size],_,_,H1,rfl,I1.kept (t':=s1.toks) λb o e=>bE _ e,qY a _,⟨_,cQ _ rfl,rfl,rfl⟩,λb hb=>?_,q⟩;have e:b=s1.heap.objs.size:=by simpa using hb
  subst e;exact I1.vF (bK _) (I1.aZ.fresh (bK _))
 .obtain⟨its,rv,p,hz⟩:=I1.tuple hq;refine wpAny_pyIter_tuple (show s1.heap.IsTuple a its.toArray from p) ?_;refine⟨s1.heap.objs.size,[s1.heap.objs.size],_,_,H1,rfl,I1.kept (t':=s1.toks) λb o e=>bE _ e,v4 a _,⟨_,cQ _ rfl,rfl,rfl⟩,λb hb=>?_,q⟩;have e:b=s1.heap.objs.size:=by simpa using hb
  subst e;exact I1.vF (bK _) (I1.aZ.fresh (bK _))
def zv{K:QY}{a:Addr}{m:Addr->Prop}(h:(H a=some (.lst vs)/\m a)\/∃o,H a=some (.cV o (.lst vs))/\m a)(is:IsAll H m ds vs):Walk (DF K a) m H ds:=by
 have st:∀H',(∀a o,H a=some o->(m a\/jB o)->H' a=some o)->SqL K H' a vs:=λH' k=>by
  rcases h with⟨h,hm⟩|⟨o,h,_⟩
  .exact .inl (.inl (k a _ h (.inl hm)))
  .exact .inl (.inr ⟨o,k a _ h (.inr True.intro)⟩)
 refine⟨λH' i d k e=>?_,λH' k=>⟨vs,st H' k,by rw[is.length];exact bK _⟩⟩;obtain⟨v,ev,iv⟩:=(is.mono k λ_ _ _ z=>z:IsAll H' m ds vs).get e;refine⟨⟨vs,v,st H' k,ev⟩,λx H'' y=>?_⟩;obtain⟨rfl,y⟩:=y;have:=y vs (st _ k);rw[ev]at this;cases this;exact⟨Same.refl _,iv⟩
def BC{K:QY}{a:Addr}{m:Addr->Prop}(h:H a=some (.tup vs))(is:IsAll H m ds vs):Walk (MX K a) m H ds:=by have st:∀H',(∀a o,H a=some o->(m a\/jB o)->H' a=some o)->SqT K H' a vs:=λH' k=>SqT.of (k a _ h (.inr True.intro));refine⟨λH' i d k e=>?_,λH' k=>⟨vs,st H' k,by rw[is.length];exact bK _⟩⟩;obtain⟨v,ev,iv⟩:=(is.mono k λ_ _ _ z=>z:IsAll H' m ds vs).get e;refine⟨⟨vs,v,st H' k,ev⟩,λx H'' y=>?_⟩;obtain⟨rfl,y⟩:=y;have:=y vs (st _ k);rw[ev]at this;cases this;exact⟨Same.refl _,iv⟩
noncomputable def fK(lo:Int)(n:Nat):List D:=(List.range n).map λk=>.int (lo+(k:Nat))
def wN(lo:Int)(n:Nat):Walk (ME lo n) m H (fK lo n):=by
 refine⟨λH' i d k e=>?_,λH' k=>by show n<=(fK lo n).length;simp[fK]⟩;have hi:i<n:=by have:=(ci.mp e).1;simpa[fK]using this
 refine⟨hi,λx H'' y=>?_⟩;obtain⟨rfl,rfl⟩:=y;refine⟨Same.refl _,?_⟩;have:(fK lo n)[i]?=some (.int (lo+(i:Nat))):=by simp[fK,hi]
 rw[this]at e;cases e;rfl
def uP(f:En->Res R):En->Res Src:=λenv=>(f env).bind λr=>match r.d with
 |.lst ds=>.ok ⟨ds,r.fr,r.al⟩
 |.tup ds=>.ok ⟨ds,r.fr,r.al⟩
 |_=>.stuck
def sY(h:PD X E l f):Kp X E tg l (uP f):=by
 obtain⟨t,p1,s1⟩:=h;refine⟨_,HB p1,λg M ρ env σ H R rep p=>?_⟩;refine s1.one rep (P:=λM H r=>PostI X.mg E g M ρ env σ H R r) p (λ_ _ z=>z) (λ_ _ _ z=>z) (λM H M' H' r e p=>?_) λr v M1 H1 e1 rep1 is q=>?_
 .cases r with
  |stuck=>exact p
  |exc c=>exact p
  |ok s=>exact λJ M2 H2 e2=>p J M2 H2 (e.trans e2)
 .cases z:r.d with
  |lst ds=>rw[z]at is;simp only[z]at q;obtain⟨a,vs,rfl,h1,h2⟩:=is;exact⟨a,rfl,.inl ⟨⟨vs,.inl (h1.imp (·.1) λ⟨o,z,_⟩=>⟨o,z⟩)⟩,q _ M1 H1 (Ext.refl _ _) rep1 (zv h1 h2)⟩⟩
  |tup ds=>rw[z]at is;simp only[z]at q;obtain⟨a,vs,rfl,h1,h2⟩:=is;exact⟨a,rfl,.inr ⟨⟨vs,SqT.of h1⟩,q _ M1 H1 (Ext.refl _ _) rep1 (BC h1 h2)⟩⟩
  |_=>simp only[z]at q;exact q.elim
noncomputable def cR(i:Int):Bool:=decide (-(2^62)<=i)&&decide (i<2^62)
def HC(fs:En->Res (List R)):En->Res Src:=λenv=>(fs env).bind λrs=>match rs.map R.d with
 |[.int j]=>if cR j then .ok ⟨fK 0 j.toNat,true,[]⟩else .stuck
 |_=>.stuck
def PostI.ext{mg:Str->Option Q0}{M M':Addr->Prop}{R:It->Hp->Prop}(e:Ext M H M' H')(p:PostI mg E g M ρ env σ H R r):PostI mg E g M' ρ env σ H' R r:=by
 cases r with
 |stuck=>exact p
 |exc c=>exact p
 |ok s=>exact λJ M2 H2 e2=>p J M2 H2 (e.trans e2)
def gq(hg:Gl X "range") (hm:X.mg "range"=none) (ha:zn X E [a] fs) (hs:autoParam (starEach [a] X.env=[(false,eval a X.env)]) Rc):Kp X E tg (.Call (.Name "range" p) [a] [] pos) (HC fs):=by
 obtain⟨t,p1,s1⟩:=ha;refine⟨_,yN hg hm p1 hs,λg M ρ env σ H Rq rep p=>s1.one rep (P:=λM H r=>PostI X.mg E g M ρ env σ H Rq r) p (λ_ _ z=>z) (λ_ _ _ z=>z) (λ_ _ _ _ _ e p=>p.ext e) λrs vs M1 H1 e1 rep1 is q=>?_⟩;generalize hd:rs.map R.d=ds at is q
 match ds,is,q with
 |[.int j],is,q=>
  obtain⟨v,w,rfl,i1,i2⟩:=is;cases i1;cases i2;dsimp only at q;by_cases hc:cR j=true
  .rw[b_ hc]at q;simp only[cR,jh,O2]at hc;exact⟨j,rfl,hc.1,hc.2,q _ M1 H1 (Ext.refl _ _) rep1 (wN 0 j.toNat)⟩
  .rw[cF hc]at q;exact q.elim
 |[],_,q=>exact q.elim
 |[.bL],_,q=>exact q.elim
 |[.bl _],_,q=>exact q.elim
 |[.str _],_,q=>exact q.elim
 |[.tup _],_,q=>exact q.elim
 |[.lst _],_,q=>exact q.elim
 |[.nF _ _],_,q=>exact q.elim
 |.int _::_::_,_,q=>exact q.elim
 |.bL::_::_,_,q=>exact q.elim
 |.bl _::_::_,_,q=>exact q.elim
 |.str _::_::_,_,q=>exact q.elim
 |.tup _::_::_,_,q=>exact q.elim
 |.lst _::_::_,_,q=>exact q.elim
 |.nF _ _::_::_,_,q=>exact q.elim
def lg(asg:D->Bool->En->Option En)(fr:Bool)(body:En->Res Fl):List D->En->Res Fl
 |[],env=>.ok (.nx env)
 |x::xs,env=>match asg x fr env with
  |none=>.stuck
  |some kr=>(body kr).bind λr=>match r with
   |.nx bI=>lg asg fr body xs bI
   |.ct bI=>lg asg fr body xs bI
   |.bk bI=>.ok (.nx bI)
   |.rt r=>.ok (.rt r)
   |.rm r e=>.ok (.rm r e)
def zw(src:En->Res Src)(asg:D->Bool->En->Option En)(body:En->Res Fl):En->Res Fl:=λenv=>(src env).bind λs=>lg asg s.fr body s.xs (cV env s.al)
def Kq(J:It)(u:TG)(tb:TS)(D:Ends)(σ:St)(H1:Hp):Prop:=∃W:Nat->Nat->St->Hp->Prop,(∃m,W 0 m σ H1)/\∀i m σ H,W i m σ H->(J.stop i H/\D.nx σ H)\/(J.go i H/\∃N:St->Hp->Prop,(∀σ' H',N σ' H'->∃m',m'<m/\W (i+1) m' σ' H')/\∀x H',J.GB i H x H'->u x σ H' λσ2 H2=>tb {D with nx:=N,ct:=N,bk:=D.nx} σ2 H2)
def BD{asg:D->Bool->En->Option En}{fb:En->Res Fl}{g:Gd}{M2:Addr->Prop}{ρ2:Pr}{env2:En}{σ:St}{H1:Hp}{D:Ends}(s2:HA ix u asg)(s3:Et X.mg E tb fb)(rep2:Rep g M2 ρ2 env2 σ H1)(wk2:Walk J (gD g M2 fr) H1 xs)(p2':PostS X.mg E g M2 H1 D (lg asg fr fb xs env2)):Kq J u tb D σ H1:=by
 refine⟨λi m σ' H'=>m=xs.length-i/\i<=xs.length/\∃M' ρ' bI,Rep g M' ρ' bI σ' H'/\mL M2 H1 M' H'/\PostS X.mg E g M' H' D (lg asg fr fb (xs.drop i) bI),⟨_,rfl,jT _,M2,ρ2,_,rep2,mL.refl _ _,p2'⟩,?_⟩;rintro i m σ' H' ⟨rfl,hle,M',ρ',bI,rep',f',p'⟩;have kp:∀a o,H1 a=some o->(gD g M2 fr a\/jB o)->H' a=some o:=λa o e z=>f'.h a o e (z.imp (·.1) id);by_cases hlt:i<xs.length
 .have ed:xs[i]?=some xs[i]:=by simp[hlt]
  obtain⟨go,yl⟩:=wk2.go H' i _ kp ed;have edrop:xs.drop i=xs[i]::xs.drop (i+1):=List.drop_eq_getElem_cons hlt;rw[edrop]at p';unfold lg at p';refine .inr ⟨go,λσ'' H''=>∃M'' ρ'' env'',Rep g M'' ρ'' env'' σ'' H''/\mL M2 H1 M'' H''/\PostS X.mg E g M'' H'' D (lg asg fr fb (xs.drop (i+1)) env''),λσ'' H'' z=>⟨xs.length-(i+1),by lia,rfl,hlt,z⟩,λx H'' y=>?_⟩;obtain⟨sm,is⟩:=yl x H'' y;have rep'':=rep'.grow sm;have fx:mL M' H' M' H'':=⟨λ_ z=>z,λa o e _=>sm a o e⟩;have is':Is H'' (gD g M' fr) xs[i] x:=is.weak λa z=>gD.mono f'.m z;cases qa:asg xs[i] fr bI with
  |none=>simp only[qa]at p';exact p'.elim
  |some kr=>
   simp only[qa]at p';refine s2 g M' ρ' bI kr σ' H'' _ fr x _ rep'' is' qa λσ1 ρ1 rep1' _ _=>?_;refine s3 g M' ρ1 kr σ1 H'' _ rep1' ?_;have p'':=PostS.cV fx p';cases qb:fb kr with
   |stuck=>rw[qb]at p'';exact p''
   |exc c=>rw[qb]at p'';exact p''
   |ok r=>
    rw[qb]at p'';cases r with
    |nx e3=>exact λσ3 M3 ρ3 H3 f3 rep3=>⟨M3,ρ3,e3,rep3,(f'.trans fx).trans f3,PostS.cV f3 p''⟩
    |ct e3=>exact λσ3 M3 ρ3 H3 f3 rep3=>⟨M3,ρ3,e3,rep3,(f'.trans fx).trans f3,PostS.cV f3 p''⟩
    |bk e3=>exact p''
    |rt r=>exact p''
    |rm r e3=>exact p''
 .have e:i=xs.length:=by lia
  subst e;rw[List.drop_length]at p';exact .inl ⟨wk2.stop H' kp,p' σ' M' ρ' H' (mL.refl _ _) rep'⟩
def sZ(hp:PassesOwn (model X.prog X.w) X.A X.env X.xe)(hc:X.calm=true)
 (hi:Kp X E tg iter src) (hg:Eu X ix tg asg) (hb:sU X E body fb) (hs:autoParam (∀x,foldedSetIterable iter X.env x=pure x) Rb):Ap X E (.For tg iter body [] pos) (zw src asg fb):=by
 obtain⟨wi,p1,s1⟩:=hi;obtain⟨u,p2,s2⟩:=hg;obtain⟨tb,p3,s3⟩:=hb;refine⟨_,iC hp hc p1 p2 p3 hs,λg M ρ env σ H D rep p=>?_⟩;refine s1 g M ρ env σ H _ rep ?_;unfold zw at p;cases q:src env with
 |stuck=>rw[q]at p;exact p
 |exc c=>rw[q]at p;exact p
 |ok s=>rw[q]at p;intro J M1 H1 e1 rep1 wk;obtain⟨M2,ρ2,x2,rep2,o2,_,_⟩:=Rep.cV s.al rep1;have wk2:Walk J (gD g M2 s.fr) H1 s.xs:=wk.weak λa z=>z.elim (gD.mono x2) λ⟨i,hi,o⟩=>⟨o2 i hi a o,λ_=>(rep1.cI i a o).2.1⟩;have p2':PostS X.mg E g M2 H1 D (lg asg s.fr fb s.xs (cV env s.al)):=PostS.cV (e1.cV.trans ⟨x2,λ_ _ q _=>q⟩) p;exact BD s2 s3 rep2 wk2 p2'
end
theorem iI:∀(names:List (Str×NameKind))(cs:List (Str×Addr)),(∀x∈names,x.2=.free->∃c,env.cells.lookup x.1=some c)->(∀y c,cs.lookup y=some c->env.cells.lookup y=some c)->
 ∃cl,(forIn names cs λ(x:Str×NameKind)(r:List (Str×Addr))=>(do
  if(x.2==.free)=true then
   let c <- cellOf env x.1
   pure (ForInStep.yield ((x.1,c)::r))
  else pure (ForInStep.yield r):Sem (ForInStep (List (Str×Addr)))))=pure cl/\(∀y c,cl.lookup y=some c->env.cells.lookup y=some c)/\(∀x∈names,x.2=.free->∃c,cl.lookup x.1=some c)/\(∀y c,cs.lookup y=some c->∃c',cl.lookup y=some c')
 |[],cs,_,h=>⟨cs,by simp,h,λ_ z=>absurd z (by simp),λy c e=>⟨c,e⟩⟩
 |(n,k)::r,cs,hf,h=>by
  by_cases hk:k=.free
  .subst hk;obtain⟨c,hc⟩:=hf (n,.free) (by simp) rfl;have hco:cellOf env n=pure c:=by simp[cellOf,hc]
   have h':∀y c',((n,c)::cs).lookup y=some c'->env.cells.lookup y=some c':=λy c' e=>by
    rw[Pu]at e;cases hy:y==n with
    |true=>rw[hy]at e;cases e;rw[eq_of_beq hy];exact hc
    |false=>rw[hy]at e;exact h y c' e
   obtain⟨cl,e1,e2,e3,e4⟩:=iI r ((n,c)::cs) (λx hx=>hf x (by simp[hx])) h';have self:∃c',cl.lookup n=some c':=e4 n c (by simp[Pu]);refine⟨cl,?_,e2,λx hx hxf=>?_,λy c' e=>?_⟩
   .rw[List.forIn_cons];simp only[beq_self_eq_true,PZ,hco,pure_bind];exact e1
   .rcases cC.mp hx with rfl|hx
    .exact self
    .exact e3 x hx hxf
   .by_cases hy:y=n
    .rw[hy];exact self
    .refine e4 y c' ?_;have hb:(y==n)=false:=by simpa using hy
     rw[Pu,hb];exact e
  .obtain⟨cl,e1,e2,e3,e4⟩:=iI r cs (λx hx=>hf x (by simp[hx])) h;refine⟨cl,?_,e2,λx hx hxf=>?_,e4⟩
   .rw[List.forIn_cons];have hkb:(k==NameKind.free)=false:=by simpa using hk
    simp only[hkb,dv,qB,pure_bind];exact e1
   .rcases cC.mp hx with rfl|hx
    .exact absurd hxf hk
    .exact e3 x hx hxf
def qM(h:∀x∈scope.names,x.2=.free->∃c,env.cells.lookup x.1=some c) :
 ∃cl,closureFor scope env=pure cl/\(∀y c,cl.lookup y=some c->env.cells.lookup y=some c)/\(∀x∈scope.names,x.2=.free->∃c,cl.lookup x.1=some c):=by
 obtain⟨cl,e1,e2,e3,_⟩:=iI scope.names [] h (λ_ _ e=>by simp at e);refine⟨cl,?_,e2,e3⟩;unfold closureFor;refine Eq.trans ?_ (show((pure cl:Sem (List (Str×Addr))) >>= λcs=>pure cs)=pure cl by simp);rw[<- e1]
 all_goals first
  |rfl
  |(congr 1;congr 1;funext x r;obtain⟨n,k⟩:=x;first|rfl|(dsimp only;split<;>simp_all))
theorem nN{f:Str->NameKind->NameKind}:∀(names:List (Str×NameKind))(y:Str),(names.map λx=>(x.1,f x.1 x.2)).lookup y=(names.lookup y).map (f y)
 |[],y=>rfl
 |(n,k)::r,y=>by
  rw[dz,Pu,Pu];cases h:y==n with
  |true=>rw[eq_of_beq h];rfl
  |false=>exact nN r y
def jE(scope:Scope)(env:Env)(y:Str):(relabel scope env).names.lookup y=(scope.names.lookup y).map λk=>if(k==.free&&env.scope.kind==.function&&env.kindOf y==some .cell)=true then .cell else k:=by
 have e:(relabel scope env).names=scope.names.map λx=>(x.1,(λn k=>if(k==NameKind.free&&env.scope.kind==.function&&env.kindOf n==some .cell)=true then NameKind.cell else k) x.1 x.2):=by unfold relabel;refine vV λx _=>?_;obtain⟨n,k⟩:=x;dsimp only;split<;>rfl
 rw[e];exact nN (f:=λn k=>if(k==NameKind.free&&env.scope.kind==.function&&env.kindOf n==some .cell)=true then NameKind.cell else k) scope.names y
def s_(h:scope.names.lookup y=some .free):(relabel scope env).names.lookup y=some .cell\/(relabel scope env).names.lookup y=some .free:=by
 rw[jE,h];simp only[Option.map_some];split
 .exact .inl rfl
 .exact .inr rfl
noncomputable def cX(X:Cx)(scope:Scope)(N:List Str)(cl:List (Str×Addr))(C:Addr)(s:QX)(H:Hp)(ex:List Addr):Cx:={X with N:=N,s₀:=s,H₀:=H,env:=compEnvC scope cl C X.env,outer:=X.stack,ex:=ex,fn:=λ_=>false,pn:=[],xe:=λ_ _=>False}
section
def Ex(I:L2.Inv X aa σ H s)(hkind:scope.kind=.function)(hcell:∀y∈scope.names,y.2≠.cell)(hcl:∀y c,cl.lookup y=some c->X.env.cells.lookup y=some c)(hhas:∀x∈scope.names,x.2=.free->∃c,cl.lookup x.1=some c)
 (hC:s.heap.objs.size<=C) (hex:∀b∈ex,ki X aa H b/\b<s.heap.objs.size):(cX X scope N cl C s H ex).Ok where
 mod:=I.ok.mod
 kind:=hkind
 glob:=I.ok.glob
 blt:=I.ok.blt
 above:=hC
 inj:=λx y c h1 h2=>I.ok.inj x y c (hcl x c h1) (hcl y c h2)
 has:=λy hy=>by
  have key:∀k,(relabel scope X.env).names.lookup y=some k->(k=.cell\/k=.free)->∃c,cl.lookup y=some c:=λk e hk=>by
   rw[jE]at e;cases q:scope.names.lookup y with
   |none=>rw[q]at e;cases e
   |some k0=>
    have hm:=Gs q;have h0:=hcell _ hm;have hf:k0=.free:=by
     rw[q]at e;simp only[Option.map_some,Option.some.injEq]at e;split at e
     .rename_i z;simp only[jh,Pw]at z;exact z.1.1
     .rcases hk with hk|hk
      .exact absurd (e.trans hk) h0
      .exact e.trans hk
    exact hhas _ hm hf
  rcases hy with hy|hy
  .exact key _ hy (.inl rfl)
  .exact key _ hy (.inr rfl)
 Gq:=λ_ _ h=>by cases h
 hd:=I.ok.hd
 frames:=I.ok.frames
 JG:=.inl rfl
 My:=λb hb=>⟨e_ (fM (hex b hb).2 hC),λx c e=>(hex b hb).1.2.2.2.2.1 x c (hcl x c e)⟩
 bs:=λb o e=>I.bs b o e
 Av:=gC I.ok.Av I.sz
 vJ:=λb o e hb=>by
  rcases(hex b hb).1.2.2.2.1 with z|z
  .exact I.ok.vJ b o e z
  .exact absurd (fM (cD e) (gC I.ok.Av z)) (Pn _)
 xD:=λb hb hfs=>by
  rcases cC.mp (I.qA b hfs)with z|z
  .exact(hex b hb).1.2.1 z
  .exact(hex b hb).1.2.2.1 z
 lC:=I.stack
 DA:=I.t4
 kt:=I.kt
structure Mr(X:Cx) (scope:Scope) (capN:List Str) (caps:List Nat):Prop where
 at':∀(k:Nat)(y:Str),capN[k]?=some y->∃j:Nat,caps[k]?=some j/\X.N[j]?=some y
 out:∀y∈capN,X.env.kindOf y=some .cell\/X.env.kindOf y=some .free
 ud:∀y∈capN,scope.names.lookup y=some .free
 len:caps.length=capN.length
noncomputable def mY(σ:St)(caps:List Nat):St:=caps.map λj=>(σ[j]?).join
def BE(I:L2.Inv X aa σ H s)(hkind:scope.kind=.function)(hcell:∀y∈scope.names,y.2≠.cell)(hcl:∀y c,cl.lookup y=some c->X.env.cells.lookup y=some c)(hhas:∀x∈scope.names,x.2=.free->∃c,cl.lookup x.1=some c)
 (hC:s.heap.objs.size<=C) (hex:∀b∈ex,ki X aa H b/\b<s.heap.objs.size) (hc:Mr X scope capN caps) (kp:∀b o,s.heap.get? b=some o->h4.get? b=some o) (ns:h4.Ns C m4) :
 L2.Inv (cX X scope (tN++capN) cl C s H ex) [] (List.replicate tN.length none++mY σ caps) H {s with heap:=h4,toks:=tk} where
 ok:=Ex I hkind hcell hcl hhas hC hex
 os:=rfl
 bare:=I.bare
 base:=Un.kept kp
 loc:=by
  refine⟨m4,ns,λi y v e1 e2 e3=>?_⟩;by_cases hlt:i<tN.length
  .rw[Gy (by simpa using hlt),P_]at e2;rw[b_ hlt]at e2;cases e2
  .obtain⟨k,rfl⟩ : ∃k,i=tN.length+k:=⟨i-tN.length,by lia⟩;have e1:capN[k]?=some y:=by
    have e1:(tN++capN)[tN.length+k]?=some y:=e1
    rwa [nU (by lia),OY]at e1
   have e2:(mY σ caps)[k]?=some (some v):=by
    rwa [nU (by simp),Qf,OY]at e2
   obtain⟨j,ej,eN⟩:=hc.at' k y e1;have e4:σ[j]?=some (some v):=by
    unfold mY at e2;rw[iq,ej]at e2;have e2:(σ[j]?).join=some v:=by simpa using e2
    cases q:σ[j]? with
    |none=>rw[q]at e2;cases e2
    |some o=>rw[q]at e2;cases o with
     |none=>cases e2
     |some w=>cases e2;rfl
   have hm:=kU e1;obtain⟨m,hn,hl⟩:=I.loc;have hout:=hc.out y hm;obtain⟨u,r,l⟩:=hl j y v eN e4 (.inr hout);refine⟨u,r,.inr ⟨s_ (hc.ud y hm),?_⟩⟩;obtain⟨c,hcl2⟩:=hhas (y,.free) (Gs (hc.ud y hm)) rfl;refine⟨c,hcl2,?_⟩;rcases l with⟨l,_⟩|⟨_,c',e5,z⟩
   .rcases hout with h|h<;>(rw[h]at l;cases l)
   .have:=hcl y c hcl2;rw[e5]at this;cases this;obtain⟨o,ho,hd⟩:=z;exact⟨o,kp _ o ho,hd⟩
 cell:=λy c e=>by obtain⟨v,o,ho,hd⟩:=I.cell y c (hcl y c e);exact⟨v,o,kp _ o ho,hd⟩
 free:=I.aZ.fresh hC
 gB:=λy c e=>I.gB y c (hcl y c e)
 pin:=λp hp=>absurd (show p∈([]:List (Addr×Obj))from hp) (by simp)
 aZ:=I.aZ.kept kp
 len:=by simp[cX,mY,hc.len]
def zx(I:L2.Inv X aa σ H s)(hX:X'=cX X scope N cl C s H ex)(hC:s.heap.objs.size<=C)(hex:∀b∈ex,ki X aa H b/\b<s.heap.objs.size)
 (I':L2.Inv X' pl σ' H' s'):L2.Inv X aa σ H' s'/\ki X aa H' C:=by
 subst hX;refine⟨I.Gm (ch:=ex) I'.os I'.base I'.aZ I'.bare λb hb=>?_,I.vF hC I'.free⟩;obtain⟨_,h2,h3,h4,h5,h6⟩:=(hex b hb).1;exact⟨h4,h2,h5,h6⟩
def x9(I:L2.Inv X aa σ H s)(hf:ki X aa H C)(sb:Heap.SameBut C s.heap h'):L2.Inv X aa σ H {s with heap:=h'}:=I.turned (t':=s.toks) (it:=C) (λb o hb e=>(sb.2 b hb).trans e) hf.1 hf.2.1 hf.2.2.2.1 hf.2.2.2.2.1 hf.2.2.2.2.2
end
section
def Kr(X:Cx)(ifs:List Expr)(tt:TT):Prop:=∀(aa:List (Addr×Obj))(s:QX)(σ:St)(H:Hp)(Q:Bool->Hp->Prop),L2.Inv X aa σ H s->tt σ H Q->
 wpAny (model X.prog X.w) X.A (forIn ifs true λc r=>if r=true then do let ok <- isTrue c X.env (eval c X.env);pure (ForInStep.yield ok)else pure (ForInStep.yield r)) (TP X aa σ Q) X.xe s
def x_:Kr X [] (λ_ H Q=>Q true H):=λ_ _ σ H Q I q=>wpAny_tests_nil ⟨H,I,q⟩
def Ey(h:PT X c tt):Kr X [c] tt:=λaa s σ H Q I q=>wpAny_tests_one (h aa s σ H Q I q)
def zy(hX:X'=cX X scope (tN++capN) cl C s3 H3 fp)(T:Turn X.prog X.w X.K tg J fp it tn)(hcalm:X.calm=true)
 (I4:L2.Inv X' [] (List.replicate tN.length none++σc) H3 s4) (cr:X'.N.length=tN.length+σc.length) (st4:tn 0 s4.heap) (hf:∀b∈fp,ki X' [] H3 b)
 (hg:PG X' tg gt) (ht:Kr X' ifs tt) (he:PE X' elt te)
   (W:Nat->Nat->List V->Hp->Prop) (Fin:List V->Hp->Prop) (w0:∃m,W 0 m [] H3)
   (turn:∀i m acc H,W i m acc H->H Dl=some (.lst acc)/\((J.stop i H/\Fin acc H)\/(J.go i H/\∀xv H' o,J.GB i H xv H'->o.length=tN.length->gt xv (o++σc) H' λσ2 H1=>(∀j:Nat,tN.length<=j->σ2[j]?=(o++σc)[j]?)/\tt σ2 H1 λb H2=>if b=true then
     te σ2 H2 λy H5=>H5 Dl=some (.lst acc)/\acc.length<sizeLine/\∃m',m'<m/\W (i+1) m' (acc++[y]) (aY H5 Dl (.lst (acc++[y])))else ∃m',m'<m/\W (i+1) m' acc H2)))
   (R:Result->QX->Prop) (hR:∀σ' H' acc s',L2.Inv X' [] σ' H' s'->H' Dl=some (.lst acc)->Fin acc H'->R (.ok .next) s') :
   codeAny (model X.prog X.w) X.A (.compLoop (.ListComp elt [⟨tg,iter,ifs,0⟩] scope pos) 0 (.ref it) (.ref Dl) (compEnvC scope cl C X.env)) R s4:=by
  obtain⟨m0,w0⟩:=w0;have eA:X'.A=X.A:=by rw[hX];rfl
  have eP:X'.prog=X.prog:=by rw[hX];rfl
  have eW:X'.w=X.w:=by rw[hX];rfl
  have eK:X'.K=X.K:=by rw[hX];rfl
  have eE:X'.env=compEnvC scope cl C X.env:=by rw[hX];rfl
  have eX:X'.xe=λ_ _=>False:=by rw[hX];rfl
  have eC:X'.calm=true:=by rw[hX];exact hcalm
  have stat:∀{H':Hp},(∀b∈fp,H' b=none)->∀b∈fp,ki X' [] H' b:=λhn b hb=>⟨hn b hb,(hf b hb).2⟩;refine codeAny_loop rfl (λn s=>∃i o acc H,L2.Inv X' [] (o++σc) H s/\o.length=tN.length/\tn i s.heap/\(∀b∈fp,H b=none)/\W i n acc H) ?_ m0 ⟨0,List.replicate tN.length none,[],H3,I4,by simp,st4,λb hb=>(hf b hb).1,w0⟩;rintro n s5 ⟨i,o,acc,H5,I5,lo,st5,fr5,w5⟩;show wpAny _ X.A ((compTurn (.ListComp elt [⟨tg,iter,ifs,0⟩] scope pos) 0 (.ref it) (.ref Dl) (compEnvC scope cl C X.env)).onRaise (λx=>do noteFrame x (compEnvC scope cl C X.env);theTreesLotGoes x)) _ _ s5;refine wpAny_noted ?_;rw[compTurn_list];obtain⟨hD,alt⟩:=turn i n acc H5 w5;rcases alt with⟨stop,fin⟩|⟨go,step⟩
  .refine bj (wpAny_standAt (bj (mC (eA▸T.done X' eP eW eK eC i [] s5 _ H5 _ I5 (stat fr5) st5 stop) (λr s6 ⟨hr,I6⟩=>?_) λ_ _ z=>z)));subst hr;exact bY (hR _ H5 acc s6 I6 hD fin)
  .refine bj (wpAny_standAt (bj (mC (eA▸T.item X' eP eW eK eC i [] s5 _ H5 _ I5 (stat fr5) st5 go) (λr s6 ⟨u,hr,h6⟩=>?_) λ_ _ z=>z)));subst hr;refine bj (mC h6 (λ_ s7 ⟨xv,H7,I7,r7,y7,st7,fr7⟩=>?_) λ_ _ z=>z);have I7':=I7.pinned (stat fr7) (T.obj _ _ st7);have hg':=hg _ s7 _ H7 xv u _ I7' r7 (step xv H7 o y7 lo);rw[eP,eW,eA,eE,eX]at hg';refine bj (mC hg' (λ_ s8 ⟨σ8,H8,I8,shp,q8⟩=>?_) λ_ _ z=>z.elim);obtain⟨o2,lo2,eσ⟩ : ∃o2:St,o2.length=tN.length/\σ8=o2++σc:=by
    have l8:σ8.length=tN.length+σc.length:=I8.len.trans cr;refine⟨σ8.take tN.length,by rw[N0];lia,?_⟩;have ed:σ8.drop tN.length=σc:=by
     apply Qd
     intro j;rw[List.getElem?_drop,shp (tN.length+j) (by lia),nU (by lia),lo,OY]
    rw[<- ed,O8]
   subst eσ;have ht':=ht _ s8 _ H8 _ I8 q8;rw[eP,eW,eA,eE,eX]at ht';refine bj (mC ht' (λok s9 ⟨H9,I9,q9⟩=>?_) λ_ _ z=>z.elim);have again:∀{s':QX}{H':Hp},L2.Inv X' ([]++oH fp s7.heap) (o2++σc) H' s'->L2.Inv X' [] (o2++σc) H' s'/\tn (i+1) s'.heap/\∀b∈fp,H' b=none:=λ{s' H'} J'=>by refine⟨J'.mI,T.keep _ _ _ st7 λb hb ob e=>(J'.pin (b,ob) (jj _ (jj _ (iB hb e)))).1,λb hb=>?_⟩;obtain⟨ob,e,d⟩:=T.obj _ _ st7 b hb;exact(J'.pin (b,ob) (jj _ (jj _ (iB hb e)))).2.1
   cases ok with
   |false=>obtain⟨m',hm,w9⟩:=(show ∃m',m'<n/\W (i+1) m' acc H9 from by simpa using q9);obtain⟨a1,a2,a3⟩:=again I9;exact bY ⟨rfl,m',hm,i+1,o2,acc,H9,a1,lo2,a2,a3,w9⟩
   |true=>
    have q9:te (o2++σc) H9 λy H5=>H5 Dl=some (.lst acc)/\acc.length<sizeLine/\∃m',m'<n/\W (i+1) m' (acc++[y]) (aY H5 Dl (.lst (acc++[y]))):=by simpa using q9
    have he':=he _ s9 _ H9 _ I9 q9;rw[eP,eW,eA,eE,eX]at he';refine bj (bj (mC he' (λv s10 ⟨y,H10,I10,ry,eD,hl,m',hm,w10⟩=>?_) λ_ _ z=>z.elim));have hm':=gf (X:=X') _ s10 _ H10 (.ref Dl) [y] (.ref Dl) [v] (λw H'=>w=.bL/\H'=aY H10 Dl (.lst (acc++[y]))) I10 rfl (.cons ry .nil) ⟨Dl,acc,y,rfl,rfl,eD,hl,rfl,rfl⟩;rw[eP,eW,eA,eX]at hm';refine bj (mC hm' (λ_ s11 ⟨w,H11,I11,_,_,eH⟩=>?_) λ_ _ z=>z.elim);subst eH;obtain⟨a1,a2,a3⟩:=again I11;exact bY (bY ⟨rfl,m',hm,i+1,o2,acc++[y],_,a1,lo2,a2,a3,w10⟩)
end
structure fg(X:Cx) (scope:Scope) (tN:List Str) (capN:List Str) (caps:List Nat):Prop where
 kind:scope.kind=.function
 Gv:∀y∈scope.names,y.2≠.cell
 names:∀y∈scope.names,y.2=.local->scope.names.lookup y.1=some .local
 own:∀x∈tN,scope.names.lookup x=some .local
 free:∀y∈scope.names,y.2=.free->X.env.kindOf y.1=some .cell\/X.env.kindOf y.1=some .free
 cap:Mr X scope capN caps
 nd:(tN++capN).Nodup
section
def jF(X:Cx)(scope:Scope)(tg:Expr)(tN:List Str)(capN:List Str)(caps:List Nat)(elt:Expr)(ifs:List Expr)(σ:St)(Fin:Addr->List V->Hp->Prop)(J:It)(H2:Hp):Prop:=
 ∀(Dl:Addr),H2 Dl=none->∀(cl:List (Str×Addr))(C:Addr)(s3:QX)(fp:List Addr),∃(gt:TG)(tt:TT)(te:TE)(W:Nat->Nat->List V->Hp->Prop),
  PG (cX X scope (tN++capN) cl C s3 (aY H2 Dl (.lst [])) fp) tg gt/\Kr (cX X scope (tN++capN) cl C s3 (aY H2 Dl (.lst [])) fp) ifs tt/\PE (cX X scope (tN++capN) cl C s3 (aY H2 Dl (.lst [])) fp) elt te/\(∃m,W 0 m [] (aY H2 Dl (.lst [])))/\
  ∀i m acc H,W i m acc H->H Dl=some (.lst acc)/\((J.stop i H/\Fin Dl acc H)\/(J.go i H/\∀xv H' (o:St),J.GB i H xv H'->o.length=tN.length->gt xv (o++mY σ caps) H' λσ2 H1=>(∀j:Nat,tN.length<=j->σ2[j]?=(o++mY σ caps)[j]?)/\tt σ2 H1 λb H2=>if b=true then
   te σ2 H2 λy H5=>H5 Dl=some (.lst acc)/\acc.length<sizeLine/\∃m',m'<m/\W (i+1) m' (acc++[y]) (aY H5 Dl (.lst (acc++[y])))else ∃m',m'<m/\W (i+1) m' acc H2))
def rG{use:Option (Q0->Sem Unit)}{Qv:Q0->QX->Prop}{Fin:Addr->List V->Hp->Prop}(hc:X.calm=true)(S:fg X scope tN capN caps)(I:L2.Inv X aa σ H s)(hi:PI X tg iter wi)
 (h:wi σ H (jF X scope tg tN capN caps elt ifs σ Fin))
 (hu:∀(Dl C:Addr)(acc:List V)(H':Hp)(s':QX),L2.Inv X aa σ H' s'->ki X aa H' C->H' Dl=some (.lst acc)->Fin Dl acc H'->(∃m,s'.heap.Ns C m)->compPost (model X.prog X.w) X.A X.xe use Qv (.ref Dl) C (.ok .next) s')
 (hs:autoParam (∀x,foldedSetIterable iter X.env x=pure x) Rb) :
 wX X (comprehension (.ListComp elt [⟨tg,iter,ifs,0⟩] scope pos) scope X.env (firstIterPos [⟨tg,iter,ifs,0⟩] pos) (newList []) false (eval iter X.env) use) Qv X.xe s:=by
 obtain⟨cl,ecl,hcl,hhas⟩:=qM (scope:=scope) (env:=X.env) λy hy hf=>I.ok.has y.1 (S.free y hy hf);refine wpAny_comprehension_free rfl hs ecl S.kind S.names (cZ (hi aa s σ H _ I h) λv s1 h1=>cZ h1 λitv s2 h2=>?_);obtain⟨it,fp,tn,J,H2,rfl,I2,T,st2,f2,goal⟩:=h2;refine Gw (wpAny_newFunctionEnv S.Gv (by intro y hy;simp at hy) (λh₁ hns₁ hsb₁=>?_) S.kind);dsimp only at hns₁ hsb₁ ⊢;have hD:H2 s2.heap.objs.size=none:=I2.aZ.fresh (bK _);have I3:L2.Inv X aa σ (aY H2 s2.heap.objs.size (.lst [])) { s2 with heap:=s2.heap.push { cls:=.type "list",dict:=none,data:=.seq ([]:List Q0).toArray } }:=I2.laid (t':=s2.toks) (λb u e=>bE _ e) (bK _) ⟨jT _,[],0,.nil,cQ _ rfl⟩;generalize hs3:({ s2 with heap:=s2.heap.push { cls:=.type "list",dict:=none,data:=.seq ([]:List Q0).toArray } }:QX)=s3 at I3;have e3:s2.heap.push { cls:=.type "list",dict:=none,data:=.seq ([]:List Q0).toArray }=s3.heap:=by rw[<- hs3]
 rw[e3]at hns₁ hsb₁ ⊢;have kp:∀b o,s3.heap.get? b=some o->h₁.get? b=some o:=λb o e=>hsb₁.extBut b o (e_ (cD e)) (bE _ e);have k23:∀b o,s2.heap.get? b=some o->s3.heap.get? b=some o:=λb o e=>by rw[<- e3];exact bE _ e
 have hex:∀b∈fp,ki X aa (aY H2 s2.heap.objs.size (.lst [])) b/\b<s3.heap.objs.size:=λb hb=>by obtain⟨o,ho,_⟩:=T.obj 0 _ st2 b hb;have hlt:b<s2.heap.objs.size:=cD ho;refine⟨⟨?_,(f2 b hb).2⟩,cD (k23 b o ho)⟩;rw[aj (e_ hlt)];exact(f2 b hb).1
 have es:({s2 with heap:=h₁,toks:=s2.toks+([]:List (Str×Q0)).length}:QX)={s3 with heap:=h₁,toks:=s2.toks+([]:List (Str×Q0)).length}:=by rw[<- hs3]
 have I4:L2.Inv (cX X scope (tN++capN) cl s3.heap.objs.size s3 (aY H2 s2.heap.objs.size (.lst [])) fp) [] (List.replicate tN.length none++mY σ caps) (aY H2 s2.heap.objs.size (.lst [])) {s3 with heap:=h₁,toks:=s2.toks+([]:List (Str×Q0)).length}:=BE I3 S.kind S.Gv hcl hhas (bK _) hex S.cap kp hns₁;obtain⟨gt,tt,te,W,hg,ht,he,w0,turn⟩:=goal s2.heap.objs.size hD cl s3.heap.objs.size s3 fp;have st4:tn 0 h₁:=T.keep 0 _ _ st2 λb hb o e=>kp b o (k23 b o e);have f4:∀b∈fp,ki (cX X scope (tN++capN) cl s3.heap.objs.size s3 (aY H2 s2.heap.objs.size (.lst [])) fp) [] (aY H2 s2.heap.objs.size (.lst [])) b:=λb hb=>by
  obtain⟨f,hlt⟩:=hex b hb;refine⟨f.1,e_ hlt,λhfs=>?_,.inl hb,λy c e=>f.2.2.2.2.1 y c (hcl y c e),λp hp=>absurd (show p∈([]:List (Addr×Obj))from hp) (by simp)⟩;rcases cC.mp (I3.qA b hfs)with z|z
  .exact f.2.1 z
  .exact f.2.2.1 z
 have loop:codeAny (model X.prog X.w) X.A (.compLoop (.ListComp elt [⟨tg,iter,ifs,0⟩] scope pos) 0 (.ref it) (.ref s2.heap.objs.size) (compEnvC scope cl s3.heap.objs.size X.env)) (compPost (model X.prog X.w) X.A X.xe use Qv (.ref s2.heap.objs.size) s3.heap.objs.size)
  {s3 with heap:=h₁,toks:=s2.toks+([]:List (Str×Q0)).length}:=by
  refine zy rfl T hc I4 (by show(tN++capN).length=_;simp[mY,S.cap.len]) st4 f4 hg ht he W (Fin s2.heap.objs.size) w0 turn _ λσ' H' acc s' I' hD' fin=>?_;obtain⟨Io,fo⟩:=zx I3 rfl (bK _) hex I';obtain⟨m',hn',_⟩:=I'.loc;exact hu _ _ acc H' s' Io fo hD' fin ⟨m',hn'⟩
 rw[es];exact codeAny_compStart_list loop (T.self _ 0 _ _ _ st4 loop)
def uQ(hc:X.calm=true)(S:fg X scope tN capN caps)(I:L2.Inv X aa σ H s)(hi:PI X tg iter wi)(h:wi σ H (jF X scope tg tN capN caps elt ifs σ λDl _ H'=>Q (.ref Dl) H'))
 (hs:autoParam (∀x,foldedSetIterable iter X.env x=pure x) Rb):wX X (eval (.ListComp elt [⟨tg,iter,ifs,0⟩] scope pos) X.env) (EP X aa σ Q) X.xe s:=by
 rw[eval_ListComp];refine rG (use:=none) hc S I hi h (λDl C acc H' s' Io fo hD fin hn=>?_) hs;obtain⟨m,hn⟩:=hn;exact⟨m,hn,λh' sb=>⟨.ref Dl,H',x9 Io fo sb,rfl,fin⟩⟩
def BF{D:Ends}{i:Nat}(hc:X.calm=true)(S:fg X scope tN capN caps)(hN:X.N.Nodup)(hi':X.N[i]?=some y)(hy:X.env.scope.names.lookup y=some .local)
 (hsw:swapsWith (.ListComp elt [⟨tg,iter,ifs,0⟩] scope pos) (some (.Name y py)) spos.line X.env=pure true) (I:L2.Inv X aa σ H s) (hi:PI X tg iter wi)
 (h:wi σ H (jF X scope tg tN capN caps elt ifs σ λDl _ H'=>D.nx (σ.set i (some (.ref Dl))) H')) (hs:autoParam (∀x,foldedSetIterable iter X.env x=pure x) Rb) :
 wX X (exec (.Assign [.Name y py] (.ListComp elt [⟨tg,iter,ifs,0⟩] scope pos) spos) X.env) (SP X aa D) X.xe s:=by
 rw[exec_Assign_Name_used _ _ _ _ hsw];refine bj (wpAny_standAt (bj ?_));show wpAny _ X.A (do let _ <- comprehension (.ListComp elt [⟨tg,iter,ifs,0⟩] scope pos) scope X.env _ (newList []) false (eval iter X.env) (some (assign (.Name y py) X.env))) _ _ s;refine bj (mC (rG (use:=some (assign (.Name y py) X.env)) (Qv:=λ_ s'=>SP X aa D .next s') hc S I hi h (λDl C acc H' s' Io fo hD fin hn=>?_) hs) (λ_ s' hq=>bY (bY hq)) λ_ _ e=>e);obtain⟨m,hn⟩:=hn;show wpAny _ X.A (assign (.Name y py) X.env (.ref Dl)) _ _ _;refine wpAny_assign_Name (qW (v:=.ref Dl) Io hN hi' (.inl hy) rfl (λs'' I'' ⟨a,sb,ha⟩=>?_) (.inr hy));have nca:C≠a:=by
  rcases ha with z|z
  .rw[z];exact fo.2.1
  .exact vG (fo.2.2.2.2.1 y a z)
 refine⟨m,hn.sameBut sb nca,λh' sb'=>?_⟩;exact⟨_,H',x9 I'' fo sb',fin⟩
end
noncomputable def Res.Gz{α:Type}:Res α->Res α
 |.exc _=>.stuck
 |r=>r
def Ez(env:En)(j:Nat):Option Sl:=match env[j]? with
 |some (some (.val d fr))=>some (.val d fr)
 |some (some (.own ds fr))=>some (.val (.lst ds) fr)
 |some (some (.uf d))=>some (.val d true)
 |_=>none
def iJ(env:En)(n:Nat)(caps:List Nat):En:=List.replicate n none++caps.map (Ez env)
def gr(mk:D->Option En)(test:En->Res Bool)(elt:En->Res R):List D->Res (List R)
 |[]=>.ok []
 |x::xs=>match mk x with
  |none=>.stuck
  |some e=>(test e).bind λb=>if b then(elt e).bind λr=>(gr mk test elt xs).bind λrs=>.ok (r::rs)else gr mk test elt xs
def hJ(n:Nat)(caps:List Nat)(src:En->Res Src)(asg:D->Bool->En->Option En)(test:En->Res Bool)(elt:En->Res R):En->Res R:=λenv=>(src env).bind λs=>if s.xs.length<=lim then
 (gr (λd=>asg d s.fr (iJ env n caps)) test elt s.xs).Gz.bind λrs=>.ok (nM (rs.map R.d) (cb rs) (s.al++caps.filter (gK env)))else .stuck
def zA(X:Cx)(E:XK)(ifs:List Expr)(f:En->Res Bool):Prop:=∃t,Kr X ifs t/\SndT X.mg E t f
section
def lZ:zA X E [] (λ_=>.ok true):=⟨_,x_,λg M ρ env σ H Q rep p=>p M H (Ext.refl _ _) rep⟩
def BH(h:zp X E c f):zA X E [c] f:=let ⟨t,a,b⟩:=h;⟨t,Ey a,b⟩
end
section
variable{M1:Addr->Prop}
def Ks(rep:Rep g M1 ρ env σ H1)(s:Same H1 H)(ho:o.length=n)(hM:∀a,(M1 a\/∃i,i∈caps/\ρ i a)->M' a)(hf:∀a,M' a->H a≠none)(hi:∀a,M' a->g.H₀ a=none\/g.Ma a)(hfl:∀a,M' a->g.H₀ a=none->MuZ g H a) :
 Rep g M' (λ_ _=>False) (iJ env n caps) (o++mY σ caps) H where
 same:=rep.same.trans s
 jr:=hf
 ud:=hi
 fl:=hfl
 slot:=λi sl e=>by
  by_cases hlt:i<n
  .unfold iJ at e;rw[Gy (by simpa using hlt),P_,b_ hlt]at e;cases e
  .obtain⟨k,rfl⟩ : ∃k,i=n+k:=⟨i-n,by lia⟩;have e:(caps.map (Ez env))[k]?=some (some sl):=by
    unfold iJ at e
    rwa [nU (by simp),Qf,OY]at e
   rw[iq]at e;cases q:caps[k]? with
   |none=>rw[q]at e;cases e
   |some j=>
    rw[q]at e;have e:Ez env j=some sl:=by simpa using e
    have hj:j∈caps:=kU q;unfold Ez at e;cases q2:env[j]? with
    |none=>rw[q2]at e;cases e
    |some o=>
     cases o with
     |none=>rw[q2]at e;cases e
     |some sl0=>
      obtain⟨v,ev,k2⟩:=rep.slot j sl0 q2;have el:(o++mY σ caps)[n+k]?=some (some v):=by rw[nU (by lia),ho,OY];unfold mY;rw[iq,q];simp[ev]
      rw[q2]at e;cases sl0 with
      |val d' fr'=>cases e;exact⟨v,el,Is.mono (λa o q _=>s a o q) (λa _ _ z=>⟨hM a (.inl z.1),z.2⟩) k2⟩
      |own ds' fr'=>cases e;obtain⟨a,vs,rfl,h1,h2,h4⟩:=k2;have ha:=(h2 a).mpr rfl;exact⟨_,el,a,vs,rfl,.inl ⟨s _ _ h1,hM a (.inr ⟨j,hj,ha⟩),λ_=>(rep.cI j a ha).2.1⟩,IsAll.mono (λa o q _=>s a o q) (λa _ _ z=>⟨hM a (.inl z.1),z.2⟩) h4⟩
      |uf d'=>cases e;exact⟨v,el,Is.mono (λa o q _=>s a o q) (λa _ _ z=>⟨hM a (.inr ⟨j,hj,z⟩),λ_=>(rep.cI j a z).2.1⟩) k2⟩
      |Dy d'=>cases e
 cI:=λ_ _ z=>z.elim
 apart:=λ_ _ _ z=>z.elim
 ow:=λ_ _ z=>z.elim
 len:=by simp[iJ,mY,ho]
 zz:=λa z e=>rep.zz a z (s.free e)
end
noncomputable def uR(X:Cx)(scope:Scope)(tg:Expr)(tN:List Str)(capN:List Str)(caps:List Nat)(elt:Expr)(ifs:List Expr)(wi:TI):TE:=λσ H Q=>wi σ H (jF X scope tg tN capN caps elt ifs σ λDl _ H'=>Q (.ref Dl) H')
structure CI(g:Gd) (M:Addr->Prop) (H1:Hp) (Dl:Addr) (C:Nat->List R->Prop) (full:List R) (i:Nat) (acc:List V) (H:Hp) (M':Addr->Prop) (rs rest:List R):Prop where
 sm:Same H1 H
 hD:H Dl=some (.lst acc)
 mi:∀a,M a->M' a
 mo:∀a,M' a->M a\/H1 a=none
 nD:¬M' Dl
 fz:∀a,M' a->H a≠none
 fl:∀a,M' a->g.H₀ a=none->MuZ g H a
 rl:rs.length<=i
 is:IsAll H (gD g M' (cb rs)) (rs.map R.d) acc
 qr:C i rest
 ef:full=rs++rest
section
def zB{M1:Addr->Prop}{H1:Hp}{Q:VK}{J:It}{s:Src}{full:List R}(hix:∀j∈ix,j<tN.length)(hg:∀cl C s3 H3 fp,Eu (cX X scope (tN++capN) cl C s3 H3 fp) ix tg asg)(ht:∀cl C s3 H3 fp,zA (cX X scope (tN++capN) cl C s3 H3 fp) E0 ifs ft)(he:∀cl C s3 H3 fp,PD (cX X scope (tN++capN) cl C s3 H3 fp) E0 elt fe)(rep1:Rep g M1 ρ env σ H1)(wk:Walk J (vmsk g M1 s.fr ρ s.al) H1 s.xs)(hlim:s.xs.length<=lim)(qc:gr (λd=>asg d s.fr (iJ env tN.length caps)) ft fe s.xs=.ok full)
 (p:PostE X.mg E g M1 ρ env σ H1 Q (.ok (nM (full.map R.d) (cb full) (s.al++caps.filter (gK env))))):jF X scope tg tN capN caps elt ifs σ (λDl _ H'=>Q (.ref Dl) H') J H1:=by
 intro Dl hDl cl C s3 fp;obtain⟨gt,pg,sg⟩:=hg cl C s3 (aY H1 Dl (.lst [])) fp;obtain⟨tt,pt,st⟩:=ht cl C s3 (aY H1 Dl (.lst [])) fp;obtain⟨te,pe,se⟩:=he cl C s3 (aY H1 Dl (.lst [])) fp;obtain⟨d0,dm,dow⟩:=rep1.free hDl;refine⟨gt,tt,te,λi m acc H=>m=s.xs.length-i/\i<=s.xs.length/\∃(M':Addr->Prop)(rs rest:List R),CI g (λa=>M1 a\/∃j,j∈s.al++caps/\ρ j a) H1 Dl (λi rest=>gr (λd=>asg d s.fr (iJ env tN.length caps)) ft fe (s.xs.drop i)=.ok rest) full i acc H M' rs rest,
  pg,pt,pe,⟨_,rfl,jT _,(λa=>M1 a\/∃j,j∈s.al++caps/\ρ j a),[],full,aQ hDl,aw,λ_ z=>z,λ_ z=>.inl z,?_,?_,?_,bK _,rfl,qc,rfl⟩,?_⟩
 .rintro (z|⟨j,_,z⟩)
  .exact dm z
  .exact dow j z
 .rintro a (z|⟨j,_,z⟩) hn
  .exact rep1.jr a z ((aQ hDl).free hn)
  .obtain⟨_,_,uo,hz,_⟩:=rep1.cI j a z;rw[(aQ hDl) a _ hz]at hn;cases hn
 .rintro a (z|⟨j,_,z⟩) h0
  .exact(rep1.fl a z h0).same λo e=>aQ hDl _ _ e
  .exact .inl ((rep1.cI j a z).2.2.same λo e=>aQ hDl _ _ e)
 .rintro i m acc H2 ⟨rfl,hle,M',rs,rest,sm,hD2,hMi,hMo,nD,frz2,fl2,hrs,isA,qr,efull⟩;refine⟨hD2,?_⟩;have kp:∀a o,H1 a=some o->(vmsk g M1 s.fr ρ s.al a\/jB o)->H2 a=some o:=λa o e _=>sm a o e;have inn2:∀{M'':Addr->Prop}{a:Addr},(M1 a\/∃j,j∈s.al++caps/\ρ j a)\/H1 a=none->g.H₀ a=none\/g.Ma a:=λ{M'' a} z=>by
   rcases z with(z|⟨j,_,z⟩)|z
   .exact rep1.ud a z
   .exact .inl (rep1.cI j _ z).2.1
   .exact .inl (rep1.same.free z)
  by_cases hlt:i<s.xs.length
  .have ed:s.xs[i]?=some s.xs[i]:=by simp[hlt]
   obtain⟨go,yl⟩:=wk.go H2 i _ kp ed;refine .inr ⟨go,λxv H3 o y lo=>?_⟩;obtain⟨s23,isx⟩:=yl xv H3 y;have edrop:s.xs.drop i=s.xs[i]::s.xs.drop (i+1):=List.drop_eq_getElem_cons hlt;rw[edrop]at qr;unfold gr at qr;have isx':Is H3 (gD g M' s.fr) s.xs[i] xv:=isx.weak λa z=>by
    rcases z with z|⟨j,hj,z⟩
    .exact⟨hMi a (.inl z.1),z.2⟩
    .exact⟨hMi a (.inr ⟨j,by simp[hj],z⟩),λ_=>(rep1.cI j _ z).2.1⟩
   have repI:Rep g M' (λ_ _=>False) (iJ env tN.length caps) (o++mY σ caps) H3:=Ks rep1 (sm.trans s23) lo (λa z=>hMi a (z.imp id λ⟨j,hj,w⟩=>⟨j,by simp[hj],w⟩)) (λa z hn=>frz2 a z (s23.free hn)) (λa z=>inn2 (M'':=M') (hMo a z)) (λa z h0=>(fl2 a z h0).same λo e=>s23 _ _ e);cases qa:asg s.xs[i] s.fr (iJ env tN.length caps)with
   |none=>simp only[qa]at qr;cases qr
   |some envT=>
   simp only[qa]at qr;refine sg g M' _ _ envT _ H3 _ s.fr xv _ repI isx' qa λσ2 ρ2 repT shp nρ=>⟨λj hj=>shp j λz=>absurd (hix j z) (by lia),?_⟩;refine st g M' ρ2 _ _ H3 _ repT ?_;cases qt:ft envT with
   |stuck=>rw[qt]at qr;cases qr
   |exc c=>rw[qt]at qr;cases qr
   |ok b=>
    rw[qt]at qr;intro M4 H4 e4 rep4;cases b with
    |false=>refine AX ⟨s.xs.length-(i+1),by lia,rfl,hlt,M',rs,rest,(sm.trans s23).trans e4.h,e4.h _ _ (s23 _ _ hD2),hMi,hMo,nD,λa z hn=>frz2 a z (s23.free (e4.h.free hn)),λa z h0=>(fl2 a z h0).same λo e=>e4.h _ _ (s23 _ _ e),by lia,?_,by simpa using qr,efull⟩;exact IsAll.same e4.h (IsAll.same s23 isA)
    |true=>
     refine yZ ?_;simp only[Res.gd,PZ]at qr;refine se g M4 ρ2 _ _ H4 _ rep4 ?_;cases qe:fe envT with
     |stuck=>rw[qe]at qr;cases qr
     |exc c=>rw[qe]at qr;cases qr
     |ok r=>
      rw[qe]at qr;simp only[Res.gd]at qr;cases qd:gr (λd=>asg d s.fr (iJ env tN.length caps)) ft fe (s.xs.drop (i+1))with
      |stuck=>rw[qd]at qr;cases qr
      |exc c=>rw[qd]at qr;cases qr
      |ok rest'=>
       rw[qd]at qr;have qr:r::rest'=rest:=by simpa using qr
       intro yv M5 H5 e5 rep5 ro;obtain⟨M6,e6,m56,rep6,is6⟩:=ro.is rep5 e5 rep4.same;have D3:H3 Dl=some (.lst acc):=s23 _ _ hD2;have D4:H4 Dl=some (.lst acc):=e4.h _ _ D3;have D5:H5 Dl=some (.lst acc):=e5.h _ _ D4;have nD4:¬M4 Dl:=λz=>(e4.n Dl z).elim nD λw=>by rw[D3]at w;cases w
       have nD6:¬M6 Dl:=λz=>(e6.n Dl z).elim nD4 λw=>by rw[D4]at w;cases w
       have M46:∀a,M4 a->M6 a:=e6.m;have up:∀a o,H5 a=some o->a≠Dl->aY H5 Dl (.lst (acc++[yv])) a=some o:=λa o e n=>by rw[aj n];exact e
       have kp5:∀(fr:Bool) a o,H5 a=some o->(gD g M6 fr a\/jB o)->aY H5 Dl (.lst (acc++[yv])) a=some o:=λfr a o e z=>up a o e λw=>by
        subst w;rcases z with z|z
        .exact nD6 z.1
        .rw[D5]at e;cases e;exact z
       refine⟨D5,?_,s.xs.length-(i+1),by lia,rfl,hlt,M6,rs++[r],rest',?_,aw,λa z=>M46 a (e4.m a (hMi a z)),λa z=>?_,nD6,λa z=>?_,λa z h0=>?_,by simp;lia,?_,qd,by rw[efull,<- qr];simp⟩
       .have:acc.length=rs.length:=by rw[isA.length,cG]
        exact Bv (by lia)
       .intro b o e;exact up b o (e5.h _ _ (e4.h _ _ (s23 _ _ (sm _ _ e)))) (ay e hDl)
       .rcases e6.n a z with z|z
        .rcases e4.n a z with z|z
         .exact hMo a z
         .exact .inr (sm.free (s23.free z))
        .exact .inr (sm.free (s23.free (e4.h.free z)))
       .by_cases hw:a=Dl
        .rw[hw,aw];simp
        .rw[aj hw];exact rep6.jr a z
       .have hw:a≠Dl:=λe=>nD6 (e▸z);exact(rep6.fl a z h0).same λo e=>by rw[aj hw];exact e
       .rw[Do];refine IsAll.append ?_ ⟨yv,[],rfl,?_,rfl⟩
        .have i5:IsAll H5 (gD g M' (cb rs)) (rs.map R.d) acc:=((isA.same s23).same e4.h).same e5.h;refine(i5.weak λa z=>(⟨M46 a (e4.m a z.1),λe=>z.2 (by simp[cb]at e ⊢;exact e.1)⟩ : gD g M6 (cb (rs++[r])) a)).mono (kp5 _) λ_ _ _ z=>z
        .refine(is6.weak λa z=>?_:Is H5 (gD g M6 (cb (rs++[r]))) r.d yv).mono (kp5 _) λ_ _ _ z=>z;rcases z with z|⟨j,_,z⟩
         .exact⟨z.1,λe=>z.2 (by simp[cb]at e;exact e.2)⟩
         .exact(nρ _ _ z).elim
  .have ei:i=s.xs.length:=by lia
   subst ei;refine .inl ⟨wk.stop H2 kp,?_⟩;rw[List.drop_length]at qr;unfold gr at qr;cases qr;rw[Jv]at efull;subst efull;have RM:Rep g (λa=>M1 a\/(nl H1 H2 a/\M' a)) ρ env σ H2:=rep1.came sm M';have XM:Ext M1 H1 (λa=>M1 a\/(nl H1 H2 a/\M' a)) H2:=⟨λ_=>.inl,sm,λ_ z=>z.imp id (·.1.1)⟩;have nDl:¬(M1 Dl\/(nl H1 H2 Dl/\M' Dl)):=λz=>z.elim dm λz=>nD z.2;have nwD:∀b,V.ref Dl=.ref b->H1 b=none:=λb e=>by cases e;exact hDl
   unfold nM at p;by_cases hfl:D.bp (full.map R.d)=true
   .rw[b_ hfl]at p;exact p _ _ H2 XM RM ⟨Dl,acc,rfl,hD2,nDl,hDl,dow,IsAll.flat hfl isA⟩
   .rw[cF hfl]at p;by_cases hal:(s.al++caps.filter (gK env)).isEmpty=true
    .rw[b_ hal]at p;refine p _ _ H2 XM RM ⟨Dl,acc,rfl,hD2,nDl,hDl,dow,isA.weak λa z=>⟨?_,z.2⟩⟩;rcases hMo a z.1 with(w|⟨j,hj,w⟩)|w
     .exact .inl w
     .exfalso;have he:s.al++caps.filter (gK env)=[]:=by simpa using hal
      rcases fD.mp hj with hj|hj
      .have:j∈s.al++caps.filter (gK env):=jX _ hj;rw[he]at this;simp at this
      .have:j∈s.al++caps.filter (gK env):=jj _ (vP.mpr ⟨hj,rep1.ow j a w⟩);rw[he]at this;simp at this
     .exact .inr ⟨⟨w,(fl2 a z.1 (rep1.same.free w)).elim id λq=>(rep1.zz a q.1 w).elim⟩,z.1⟩
    .rw[cF hal]at p;refine p _ (λa=>(M1 a\/(nl H1 H2 a/\M' a))\/a=Dl) H2 ⟨λ_ z=>.inl (.inl z),sm,λa z=>z.elim (XM.n a) λe=>.inr (e▸hDl)⟩ (RM.more hD2 d0 dow) ⟨Dl,acc,rfl,.inl ⟨hD2,.inl ⟨.inr rfl,λ_=>d0⟩⟩,isA.weak λa z=>?_⟩;rcases hMo a z.1 with(w|⟨j,hj,w⟩)|w
     .exact .inl ⟨.inl (.inl w),z.2⟩
     .refine .inr ⟨j,?_,w⟩;rcases fD.mp hj with hj|hj
      .exact jX _ hj
      .exact jj _ (vP.mpr ⟨hj,rep1.ow j a w⟩)
     .exact .inl ⟨.inl (.inr ⟨⟨w,(fl2 a z.1 (rep1.same.free w)).elim id λq=>(rep1.zz a q.1 w).elim⟩,z.1⟩),z.2⟩
def uS(si:Ko X.mg E wi src)(hix:∀j∈ix,j<tN.length)(hg:∀cl C s3 H3 fp,Eu (cX X scope (tN++capN) cl C s3 H3 fp) ix tg asg)(ht:∀cl C s3 H3 fp,zA (cX X scope (tN++capN) cl C s3 H3 fp) E0 ifs ft)(he:∀cl C s3 H3 fp,PD (cX X scope (tN++capN) cl C s3 H3 fp) E0 elt fe) :
 Snd X.mg E (uR X scope tg tN capN caps elt ifs wi) (hJ tN.length caps src asg ft fe):=by
 intro g M ρ env σ H Q rep p;refine si g M ρ env σ H _ rep ?_;unfold hJ at p;cases q:src env with
 |stuck=>rw[q]at p;exact p
 |exc c=>rw[q]at p;exact p
 |ok s=>
  rw[q]at p;simp only[Res.gd]at p;intro J M1 H1 e1 rep1 wk Dl hDl cl C s3 fp;by_cases hlim:s.xs.length<=lim
  .rw[b_ hlim]at p;cases qc:gr (λd=>asg d s.fr (iJ env tN.length caps)) ft fe s.xs with
   |stuck=>rw[qc]at p;exact p.elim
   |exc c=>rw[qc]at p;exact p.elim
   |ok full=>rw[qc]at p;have p:PostE X.mg E g M1 ρ env σ H1 Q (.ok (nM (full.map R.d) (cb full) (s.al++caps.filter (gK env)))):=PostE.ext e1 p;exact zB hix hg ht he rep1 wk hlim qc p Dl hDl cl C s3 fp
  .rw[cF hlim]at p;exact p.elim
def ya(hc:X.calm=true)(S:fg X scope tN capN caps)(hi:Kp X E tg iter src)(hix:∀j∈ix,j<tN.length)(hg:∀cl C s3 H3 fp,Eu (cX X scope (tN++capN) cl C s3 H3 fp) ix tg asg)(ht:∀cl C s3 H3 fp,zA (cX X scope (tN++capN) cl C s3 H3 fp) E0 ifs ft)(he:∀cl C s3 H3 fp,PD (cX X scope (tN++capN) cl C s3 H3 fp) E0 elt fe)
 (hs:autoParam (∀x,foldedSetIterable iter X.env x=pure x) Rb):PD X E (.ListComp elt [⟨tg,iter,ifs,0⟩] scope pos) (hJ tN.length caps src asg ft fe):=by
 obtain⟨wi,p1,s1⟩:=hi;exact⟨uR X scope tg tN capN caps elt ifs wi,λaa s σ H Q I h=>uQ hc S I p1 h hs,uS s1 hix hg ht he⟩
def pG(hc:X.calm=true)(S:fg X scope tN capN caps)(hN:X.N.Nodup)(hi':X.N[i]?=some y)(hy:X.env.scope.names.lookup y=some .local)
 (hi:Kp X E tg iter src) (hix:∀j∈ix,j<tN.length) (hg:∀cl C s3 H3 fp,Eu (cX X scope (tN++capN) cl C s3 H3 fp) ix tg asg) (ht:∀cl C s3 H3 fp,zA (cX X scope (tN++capN) cl C s3 H3 fp) E0 ifs ft) (he:∀cl C s3 H3 fp,PD (cX X scope (tN++capN) cl C s3 H3 fp) E0 elt fe)
 (hsw:autoParam (swapsWith (.ListComp elt [⟨tg,iter,ifs,0⟩] scope pos) (some (.Name y py)) spos.line X.env=pure true) Rc) (hs:autoParam (∀x,foldedSetIterable iter X.env x=pure x) Rb) :
 Ap X E (.Assign [.Name y py] (.ListComp elt [⟨tg,iter,ifs,0⟩] scope pos) spos) (fq i (hJ tN.length caps src asg ft fe)):=by
 obtain⟨wi,p1,s1⟩:=hi;exact⟨lM (uR X scope tg tN capN caps elt ifs wi) (aU i),λaa s σ H D I h=>BF hc S hN hi' hy hsw I p1 h hs,x6 (uS s1 hix hg ht he)⟩
end
def iL(N:List Str)(ds:List D):En:=ds.map (λd=>some (.val d false))++List.replicate (N.length-ds.length) none
def yb:Res Fl->Res R
 |.ok (.nx _)=>.ok (.val .bL true [])
 |.ok (.rt r)=>.ok r
 |.ok _=>.stuck
 |.exc c=>.exc c
 |.stuck=>.stuck
def hV(N:List Str)(FB:En->Res Fl)(ds:List D):Res R:=yb (FB (iL N ds))
def rH(is:IsAll H Ma ds vs):Rep (JO H Ma) (λa=>Ma a/\H a≠none) (λ_ _=>False) (iL N ds) (L2.cK N vs) H where
 same:=Same.refl H
 jr:=λa z=>z.2
 ud:=λa z=>.inr z.1
 fl:=λa z h=>absurd h z.2
 slot:=λi sl e=>by
  have hl:=is.length;unfold iL at e;by_cases hi:i<ds.length
  .rw[Gy (by simpa using hi),iq]at e;obtain⟨v,ev,iv⟩:=is.get (i:=i) (d:=ds[i]) (by simp[hi]);have e1:ds[i]?=some ds[i]:=by simp[hi]
   rw[e1]at e;cases e;refine⟨v,?_,Is.mono (λ_ _ q _=>q) (λa o q z=>⟨⟨z,by rw[q];simp⟩,λz=>by cases z⟩) iv⟩;unfold L2.cK;rw[Gy (by simp;lia),iq,ev];rfl
  .rw[nU (by simpa using hi),P_]at e;split at e<;>cases e
 cI:=λ_ _ z=>z.elim
 apart:=λ_ _ _ z=>z.elim
 ow:=λ_ _ z=>z.elim
 len:=by have hl:=is.length;unfold iL L2.cK;simp[hl]
 zz:=λ_ z=>z.elim
section
def EA:SlR X (λx lo hi H Q=>∃a xs,x=.ref a/\SqT X.K H a xs/\(HT.sIx xs.length 0 lo=0/\HT.sIx xs.length xs.length hi=xs.length)/\Q x H):=by
 intro aa s σ H x v vl vu lo hi sl Q I rx hs pl pu h;obtain⟨a,xs,rfl,hx,hw,q⟩:=h;cases rx;obtain⟨its,r,ht,hz⟩:=I.tuple hx;have cr:its.toArray.size=xs.length:=by rw[cP];exact r.length.symm
 refine⟨"tuple",_,mD.lookup,ht.typeIs,?_⟩;obtain⟨os,hos,hcs,hds⟩:=id hs;have hTs:s.TypeIs (.ref sl) "slice":=⟨os,hos,hcs⟩;unfold getItem
 try with_reducible refine qu ?_
 first|refine bj (bY ?_)|skip
 refine bj (wpAny_sequenceKey ht.typeIs (by decide) ?_);refine bj (Pq (name:=Str.ofString "__getitem__") ht.typeIs mD
  (vU mD ht.typeIs entry_tuple_getitem ?_ (args_tuple_getitem _ _)))
 show wpAny _ _ (Builtin.Tuple.tupleItemsOf (.ref a) >>= _) _ _ s;refine bj (tupleItemsOf_ ht ?_);refine bj (Qg hTs ?_);rw[b_ (by decide)];refine bj (HT.sliceApplied_gen hs pl pu ?_);have hyes:((((HT.sIx its.toArray.size 0 lo:Nat):Int)==0&&(1:Int)==1&&(HT.sIx its.toArray.size its.toArray.size hi-HT.sIx its.toArray.size 0 lo)==its.toArray.size)=true):=by rw[cr,hw.1,hw.2];simp
 show wpAny _ _ (if(((HT.sIx its.toArray.size 0 lo:Nat):Int)==0&&(1:Int)==1&&(HT.sIx its.toArray.size its.toArray.size hi-HT.sIx its.toArray.size 0 lo)==its.toArray.size)=true then _ else _) _ _ s;rw[b_ hyes];have fin:EP X aa σ Q (.ref a) s:=⟨.ref a,H,I,rfl,q⟩;refine bj (m:=Builtin.Tuple.tupleIsExact (.ref a)) ?_;unfold Builtin.Tuple.tupleIsExact;refine bj (Qg ht.typeIs ?_);refine bY ?_;rw[b_ (by decide)];exact bj (wpAny_rule (bY ⟨_,rfl,bY fin⟩))
end
section
def eG{α:Type}(xs:List α)(lo hi:Option Int):List α:=(xs.drop (HT.sIx xs.length 0 lo)).take (HT.sIx xs.length xs.length hi-HT.sIx xs.length 0 lo)
def IsAll.cut(h:IsAll H m ds vs)(lo hi:Option Int):IsAll H m (eG ds lo hi) (ux vs lo hi):=by unfold eG ux;rw[h.length];exact(h.drop _).take _
noncomputable def FW(mg:Str->Option Q0)(E:XK)(g:Gd)(M:Addr->Prop)(ρ:Pr)(env:En)(σ:St)(H:Hp)(Q:Option Int->Hp->Prop):Res (Option Int)->Prop
 |.stuck=>False
 |.exc c=>Eo mg E g c
 |.ok o=>∀M' H',Ext M H M' H'->Rep g M' ρ env σ H'->Q o H'
def MG(X:Cx)(E:XK)(e:Option Expr)(f:En->Res (Option Int)):Prop:=∃t,PO X e t/\∀g M ρ env σ H Q,Rep g M ρ env σ H->FW X.mg E g M ρ env σ H Q (f env)->t σ H Q
noncomputable def BI:En->Res (Option Int):=λ_=>.ok none
def pH(f:En->Res R):En->Res (Option Int):=λenv=>(f env).bind λr=>match r.d with
 |.int i=>.ok (some i)
 |_=>.stuck
def BJ:MG X E none BI:=⟨_,DT,λg M ρ env σ H Q rep p=>p M H (Ext.refl _ _) rep⟩
def jG(h:PD X E e f):MG X E (some e) (pH f):=by
 obtain⟨t,p1,s1⟩:=h;refine⟨_,DU p1,λg M ρ env σ H Q rep p=>s1.one rep (P:=λM H r=>FW X.mg E g M ρ env σ H Q r) p (λ_ _ z=>z) (λ_ _ _ z=>z) (λM H M' H' r e p=>?_) λr v M1 H1 e1 rep1 is q=>?_⟩
 .cases r with
  |stuck=>exact p
  |exc c=>exact p
  |ok o=>exact λM2 H2 e2=>p M2 H2 (e.trans e2)
 .cases z:r.d with
  |int i=>rw[z]at is;simp only[z]at q;cases is;exact⟨i,rfl,q M1 H1 (Ext.refl _ _) rep1⟩
  |_=>simp only[z]at q;exact q.elim
def tf(r:R)(lo hi:Option Int):Res R:=match r.d with
 |.lst xs=>.ok (nM (eG xs lo hi) r.fr r.al)
 |.tup xs=>.ok (lH (.tup (eG xs lo hi)) r.fr r.al)
 |_=>.stuck
def pI(fa:En->Res R)(fl fh:En->Res (Option Int)):En->Res R:=λenv=>(fa env).bind λr=>(fl env).bind λlo=>(fh env).bind λhi=>tf r lo hi
def pJ{lo hi:Option Expr}{fa:En->Res R}{fl fh:En->Res (Option Int)}{p2 pos:Pos}(ha:PD X E e fa)(hl:MG X E lo fl)(hh:MG X E hi fh):PD X E (.Subscript e (.Slice lo hi none p2) pos) (pI fa fl fh):=by
 obtain⟨ta,p1,s1⟩:=ha;obtain⟨tl,p2,s2⟩:=hl;obtain⟨th,p3,s3⟩:=hh;refine⟨_,AL (sl_list.or (sl_tup.or EA)) p1 p2 p3,λg M ρ env σ H Q rep p=>s1.kz rep p λr v M1 H1 e1 rep1 is q=>?_⟩;refine s2 g M1 ρ env σ H1 _ rep1 ?_;cases z1:fl env with
 |stuck=>rw[z1]at q;exact q
 |exc c=>rw[z1]at q;exact q
 |ok lo'=>
  rw[z1]at q;intro M2 H2 e2 rep2;have q2:PostE X.mg E g M2 ρ env σ H2 Q ((fh env).bind λhi=>tf r lo' hi):=PostE.ext e2 q;refine s3 g M2 ρ env σ H2 _ rep2 ?_;cases z2:fh env with
  |stuck=>rw[z2]at q2;exact q2
  |exc c=>rw[z2]at q2;exact q2
  |ok hi'=>
   rw[z2]at q2;intro M3 H3 e3 rep3;have q3:PostE X.mg E g M3 ρ env σ H3 Q (tf r lo' hi'):=PostE.ext e3 q2;have is3:=(is.ext e2).ext e3;unfold tf at q3;cases z:r.d with
   |lst xs=>rw[z]at q3 is3;obtain⟨a,vs,rfl,h1,h2⟩:=is3.rd;exact .inl ⟨a,vs,rfl,.inl h1,λp hp=>q3.lst rep3 hp (h2.cut lo' hi')⟩
   |tup xs=>
    rw[z]at q3 is3;have is4:=is3;obtain⟨a,vs,rfl,h1,h2⟩:=is3;by_cases hw:HT.sIx vs.length 0 lo'=0/\HT.sIx vs.length vs.length hi'=vs.length
    .have ec:eG xs lo' hi'=xs:=by unfold eG;rw[<- h2.length,hw.1,hw.2,h2.length];simp
     dsimp only at q3;rw[ec]at q3;exact .inr (.inr ⟨a,vs,rfl,SqT.of h1,hw,q3.val rep3 is4⟩)
    .exact .inr (.inl ⟨a,vs,rfl,SqT.of h1,hw,λp hp=>q3.tup rep3 hp (h2.cut lo' hi')⟩)
   |_=>rw[z]at q3;exact q3.elim
noncomputable def D.ty:D->String
 |.bL=>"NoneType" |.bl _=>"bool" |.int _=>"int" |.str _=>"str" |.tup _=>"tuple" |.lst _=>"list" |.nF _ _=>"dict"
def Oi(K:QY)(H:Hp)(x:V)(t:Q0):Prop:=nG K H x t\/(t=.type "dict"/\∃a,x=.ref a/\Kb H a)
theorem Is.ty{m:Addr->Prop}{v:V}{K:QY}(h:Is H m d v):Oi K H v (.type d.ty):=by
 cases d with
 |bL=>cases h;exact .inl .bL
 |bl b=>cases h;exact .inl (.bl b)
 |int b=>cases h;exact .inl (.int b)
 |str b=>cases h;exact .inl (.str b)
 |tup ds=>obtain⟨a,vs,rfl,h1,_⟩:=h;exact .inl (.tup h1)
 |lst ds=>
  obtain⟨a,vs,rfl,h1,_⟩:=h;rcases h1 with⟨h1,_⟩|⟨o,h1,_⟩
  .exact .inl (.lst h1)
  .exact .inl (.cV h1)
 |nF ks ds=>obtain⟨a,kvs,rfl,h1,_⟩:=h;exact .inr ⟨rfl,a,rfl,h1.1.imp (λ⟨kvs,e,_⟩=>⟨kvs,e⟩) λ⟨kvs,e,_⟩=>⟨kvs,e⟩⟩
def Kt(T:String)(d:D):Bool:=match d with
 |.bL=>T=="NoneType"
 |.bl _=>T=="bool" || T=="int"
 |.int _=>T=="int"
 |.str _=>T=="str"
 |.tup _=>T=="tuple"
 |.lst _=>T=="list"
 |.nF _ _=>T=="dict"
def Ku(T:String):Prop:=∀(K:QY)(d:D),kitOne K (.type d.ty) (.type T)=some (Kt T d)
def rJ:Ku "dict":=λK d=>by cases d<;>kernel_rfl
def EB(T:String)(fa:En->Res R):En->Res R:=λenv=>(fa env).bind λr=>.ok (.val (.bl (Kt T r.d)) true [])
def BK:CallR X (.builtin "isinstance") (λxs H Q=>∃x T t b,xs=[x,.ty T]/\Oi X.K H x t/\kitOne X.K t (.type T)=some b/\Q (.bl b) H):=by
 intro aa s σ H xs us Q I r h;obtain⟨x,T,t,b,rfl,ty,e,q⟩:=h;obtain⟨u,c,rfl,ru,rc⟩:=ur r;obtain rfl:c=Value.type T:=rc;rcases ty with ty|⟨rfl,a,rfl,hd⟩
 .exact yS I ru ty e λtk=>⟨.bl b,H,I.tok tk,rfl,q⟩
 .obtain rfl:u=Value.ref a:=ru;obtain⟨t1,_⟩:=sC I hd;exact oC QJ I.kT t1 e (λz=>nomatch z) λtk=>⟨.bl b,H,I.tok tk,rfl,q⟩
def BL(hK:Ku T')(hg:Gl X "isinstance") (hm:X.mg "isinstance"=none) (hgT:Gl X T) (hmT:X.mg T=none) (hvT:bootBuiltins T=some (.type T')) (ha:PD X E e fa)
 (hnT:autoParam (T≠"__name__") Q_) (hdT:autoParam (dB T) Q_)
 (he:autoParam (starEach [e,.Name T q] X.env=(false,eval e X.env)::starEach [.Name T q] X.env) Rc) (he2:autoParam (starEach [.Name T q] X.env=(false,eval (.Name T q) X.env)::starEach [] X.env) Rc) (hpl:autoParam ((backTo pos (starEach [.Name T q] X.env)).any (·.1)=false) Rc) :
 PD X E (.Call (.Name "isinstance" p) [e,.Name T q] [] pos) (EB T' fa):=by
 obtain⟨ta,p1,s1⟩:=ha;refine⟨_,dG BK hg hm (by decide +kernel) (ai p1 (ai (xE hgT hmT hvT (v:=.ty T') rfl hnT hdT) aG he2) he) (by decide) (by decide) he hpl,λg M ρ env σ H Q rep p=>s1.kz rep p λr v M1 H1 e1 rep1 is q=>?_⟩;exact⟨v,T',_,_,rfl,is.ty,hK X.K r.d,q _ M1 H1 (Ext.refl _ _) rep1 rfl⟩
end
section
noncomputable def fw:List D->Option (List Bool)
 |[]=>some []
 |.bl b::r=>(fw r).map λbs=>b::bs
 |_::_=>none
def EC:List R->Res R
 |[r]=>match r.d with
  |.lst ds=>match fw ds with
   |some bs=>.ok (.val (.bl (bs.all id)) true [])
   |none=>.stuck
  |_=>.stuck
 |_=>.stuck
theorem rK:∀{ds:List D}{bs:List Bool}{i:Nat}{d:D},fw ds=some bs->ds[i]?=some d->∃b,d=.bl b/\bs[i]?=some b
 |[],_,_,_,_,e=>by simp at e
 |.bl b::r,bs,0,d,h,e=>by
  simp at e;subst e;unfold fw at h;cases q:fw r with
  |none=>rw[q]at h;cases h
  |some bs'=>rw[q]at h;cases h;exact⟨b,rfl,rfl⟩
 |.bl b::r,bs,i+1,d,h,e=>by
  unfold fw at h;cases q:fw r with
  |none=>rw[q]at h;cases h
  |some bs'=>rw[q]at h;cases h;obtain⟨b',e1,e2⟩:=rK (i:=i) q (by simpa using e);exact⟨b',e1,by simpa using e2⟩
 |.bL::_,_,_,_,h,_=>by cases h
 |.int _::_,_,_,_,h,_=>by cases h
 |.str _::_,_,_,_,h,_=>by cases h
 |.tup _::_,_,_,_,h,_=>by cases h
 |.lst _::_,_,_,_,h,_=>by cases h
theorem rL:∀{ds:List D}{bs:List Bool},fw ds=some bs->bs.length=ds.length
 |[],_,h=>by cases h;rfl
 |.bl b::r,bs,h=>by
  unfold fw at h;cases q:fw r with
  |none=>rw[q]at h;cases h
  |some bs'=>rw[q]at h;cases h;simp[rL q]
 |.bL::_,_,h=>by cases h
 |.int _::_,_,h=>by cases h
 |.str _::_,_,h=>by cases h
 |.tup _::_,_,h=>by cases h
 |.lst _::_,_,h=>by cases h
def zC(hc:X.calm=true):CallR X (.builtin "all") (λxs H Q=>∃(p:Addr)(vs:List V)(bs:List Bool),xs=[.ref p]/\SqL X.K H p vs/\vs=bs.map V.bl/\Q (.bl (bs.all id)) H):=by
 intro aa s σ H xs us Q I r h;obtain⟨p,vs,bs,rfl,hq,rfl,q⟩:=h;obtain⟨u,rfl,rx⟩:=gF r;cases rx;obtain⟨its,rv,pl,hz⟩:=I.list hq;have hh:X.A.in1.handled=none:=I.ok.hd hc;obtain⟨o,ho,_⟩:=pl.isList;have hlt:p<s.heap.objs.size:=cD ho;refine call_all_walk (Qa pl.isList ?_);refine⟨s.heap.objs.size,_,_,_,_,_,λi=>(bs[i]?).getD true,rfl,Walks.list hh s.heap.objs.size p (e_ hlt) its.toArray,⟨⟨_,cQ _ rfl,rfl,rfl⟩,?_⟩,?_,λh' tk hk=>?_⟩
 .exact pl.isList.at λo e=>bE _ e
 .intro i v s' Q' E' hv hQ';have hv:its[i]?=some v:=by simpa using hv
  have hi:i<its.length:=(ci.mp hv).1;have hl:=rv.length;have hb:i<bs.length:=by simpa using(by rw[cG]at hl;lia:i<bs.length)
  obtain⟨u',hu,ru⟩:=rv.get (i:=i) (x:=.bl bs[i]) (by simp[hb]);rw[hv]at hu;cases hu;cases ru;have eb:bs[i]?=some bs[i]:=by simp[hb]
  dsimp only at hQ';rw[eb]at hQ';exact PF hQ'
 .have hl:=rv.length;rw[cG]at hl;have e:((List.range its.toArray.size).all λi=>(bs[i]?).getD true)=bs.all id:=by
   rw[cP,<- hl];rw[PB,sk,sk];constructor
   .intro h b hb;obtain⟨i,hi⟩:=cS.mp hb;have:=h i (by simp;exact(ci.mp hi).1);rw[hi]at this;exact this
   .intro h i hi;have hi:i<bs.length:=by simpa using hi
    have eb:bs[i]?=some bs[i]:=by simp[hi]
    rw[eb];exact h _ (List.getElem_mem hi)
  rw[e];refine⟨.bl _,H,?_,rfl,q⟩;have I1:L2.Inv X aa σ H { s with heap:=s.heap.push { cls:=.type "list_iterator",data:=.fields #[.ref p,.int 0 0] } }:=I.kept (t':=s.toks) λb o e=>bE _ e;have fo:=I.vF (H':=H) (bK s.heap.objs.size) (I.aZ.fresh (bK _));exact I1.turned (t':=tk) (it:=s.heap.objs.size) (λb o hb e=>hk b o (by simpa using hb) e) fo.1 fo.2.1 fo.2.2.2.1 fo.2.2.2.2.1 fo.2.2.2.2.2
def HD(hc:X.calm=true):kE X E (.builtin "all") EC:=by
 refine⟨_,zC hc,λg M ρ env σ H Q rs vs rep i p=>?_⟩;rcases rs with _|⟨r,_|_⟩
 .exact p.elim
 rotate_left
 .exact p.elim
 obtain⟨v,w,rfl,i1,i2⟩:=i;cases i2;have i1:Is H (vmsk g M (cb [r]) ρ (c_ [r])) r.d v:=i1;unfold EC at p;dsimp only at p;cases q:r.d with
 |lst ds=>
  rw[q]at p i1;obtain⟨a,ws,rfl,h1,h2⟩:=i1.rd;dsimp only at p;cases qb:fw ds with
  |none=>rw[qb]at p;exact p.elim
  |some bs=>
   rw[qb]at p;refine⟨a,ws,bs,rfl,.inl h1,?_,p _ M H (Ext.refl _ _) rep rfl⟩;apply Qd
   intro j;by_cases hj:j<ds.length
   .obtain⟨b,e1,e2⟩:=rK (i:=j) (d:=ds[j]) qb (by simp[hj]);obtain⟨v',ev,iv⟩:=h2.get (i:=j) (d:=ds[j]) (by simp[hj]);rw[e1]at iv;cases iv;rw[ev,iq,e2];rfl
   .have l1:=h2.length;have l2:=rL qb;rw[Jy (by lia),Jy (by simp;lia)]
 |_=>rw[q]at p;exact p.elim
end
def MH(K:QY)(a:Addr):It:=⟨λi H=>∃xs x,SqL K H a xs/\xs[i]?=some x,λi H y H'=>∃p x,H p=none/\y=.ref p/\H'=aY H p (.tup [.int (i:Nat),x])/\∀xs,SqL K H a xs->xs[i]?=some x,λi H=>∃xs,SqL K H a xs/\xs.length<=i⟩
def zD{P:QZ}{w:World}{K:QY}(a it e:Addr)(hei:e≠it):Turn P w K (.Tuple es k pos) (MH K a) [e,it] e (λi h=>(∃old,IsEnum h e it i old)/\h.IsListIter it a i) where
 mem:=by simp
 obj:=λi h st b hb=>by
  obtain⟨⟨old,he⟩,o,ho,c,d⟩:=st;rcases cC.mp hb with rfl|hb
  .exact⟨_,he,λv z=>by cases z⟩
  .have:b=it:=by simpa using hb
   subst this;exact⟨o,ho,λv z=>by rw[d]at z;cases z⟩
 keep:=λi h h' st kk=>by obtain⟨⟨old,he⟩,hl⟩:=st;exact⟨⟨old,kk e (by simp) _ he⟩,hl.at λo q=>kk it (by simp) o q⟩
 item:=by
  intro X hP hw hK hc i aa s σ H E I hf st hg;subst hP hw hK;obtain⟨xs,x,hq,hx⟩:=hg;obtain⟨⟨old,he⟩,hl⟩:=st;obtain⟨its,rv,p,hz⟩:=I.list hq;obtain⟨u,hu,ru⟩:=rv.get hx;have fe:=hf e (by simp);have fi:=hf it (by simp);have hai:a≠it:=by intro z;obtain⟨o1,e1,c1,_⟩:=p.isList;obtain⟨o2,e2,c2,_⟩:=hl;rw[z,e2]at e1;cases e1;rw[c2]at c1;injection c1 with z;exact absurd z (by decide)
  have hae:a≠e:=by intro z;obtain⟨o1,e1,c1,_⟩:=p.isList;rw[z,he]at e1;cases e1;injection c1 with z;exact absurd z (by decide)
  have hh:X.A.in1.handled=none:=I.ok.hd hc;have hil:i<its.length:=(ci.mp hu).1;refine wpAny_pyNext_enum_itemD (Draws.list hh it a hai its.toArray) he ⟨hl,p.isList⟩ (by simpa using hil) hei (by simp;exact⟨hei,vG hae⟩) λx' h' tk hx' ho hs' hT hsz hk=>?_;have ex:x'=u:=by
   have:its[i]?=some x':=by simpa using hx'
   rw[hu]at this;exact(kY this).symm
  subst ex;refine⟨_,rfl,wpAny_letOwnedTupleGo_enum ho λh'' he'' hs''=>?_⟩;have keep2:∀b o,b≠e->b≠it->s.heap.get? b=some o->h''.get? b=some o:=λb o n1 n2 q=>(hs''.2 b n1).trans (hk b o n1 n2 q);have hTe:s.heap.objs.size≠e:=QE (cD he);have hT'':h''.get? s.heap.objs.size=some { cls:=.type "tuple",data:=.seq #[.int i tk,x'] }:=(hs''.2 _ hTe).trans hT;have I1:L2.Inv X aa σ (aY H s.heap.objs.size (.tup [.int (i:Nat),x])) {s with heap:=h'',toks:=tk+1}:=by
   refine I.step (g':=s.gens) (d':=s.drawn) (ch:=[e,it]) (λb hb=>?_) (λb o _ _ hn q _=>keep2 b o (λz=>hn (by simp[z])) (λz=>hn (by simp[z])) q)
    (λb o _ _ hn q _=>⟨o.slots,keep2 b o (λz=>hn (by simp[z])) (λz=>hn (by simp[z])) q⟩) (λb o _ q hH=>by rw[aj (e_ (cD q))];exact hH)
    (λb o hn q=>⟨o,keep2 b o (λz=>hn (by simp[z])) (λz=>hn (by simp[z])) q⟩) (λb ys q=>by rw[aj (ay q (I.aZ.fresh (bK _)))];exact q)
    (λb o' u' q=>by rw[aj (ay q (I.aZ.fresh (bK _)))];exact q) (λb ps q=>⟨#[],by rw[aj (ay q (I.aZ.fresh (bK _)))];simp[q]⟩) (λm hm=>?_) (λb u' q=>?_) I.bare
   .rcases cC.mp hb with rfl|hb
    .exact⟨fe.2.2.2.1,fe.2.1,fe.2.2.2.2.1,fe.2.2.2.2.2⟩
    .have:b=it:=by simpa using hb
     subst this;exact⟨fi.2.2.2.1,fi.2.1,fi.2.2.2.2.1,fi.2.2.2.2.2⟩
   .obtain⟨o,es',ep,ho',r⟩:=hm;exact⟨o,es',ep,keep2 _ o (vG fe.2.1) (vG fi.2.1) ho',r⟩
   .by_cases hb:b=s.heap.objs.size
    .subst hb;rw[aw]at q;cases q;refine⟨by show 2<=sizeLine;decide,[.int i tk,x'],.cons ⟨tk,rfl⟩ (.cons ru .nil),⟨_,hT'',rfl,0,rfl⟩⟩
    .rw[aj hb]at q;refine(I.aZ b u' q).stay (λc v hc' q'=>keep2 c v ?_ ?_ q') (λc r=>by rw[aj (ay r (I.aZ.fresh (bK _)))];exact r) λc ys r=>by rw[aj (ay r (I.aZ.fresh (bK _)))];exact r
     .rcases hc' with z|z
      .rw[z];exact ay q fe.1
      .exact ay z fe.1
     .rcases hc' with z|z
      .rw[z];exact ay q fi.1
      .exact ay z fi.1
  refine⟨.ref s.heap.objs.size,_,I1,rfl,⟨_,x,I.aZ.fresh (bK _),rfl,rfl,λys hy=>by rw[I.vL hy hq];exact hx⟩,⟨⟨_,by simpa using he''⟩,?_⟩,λb hb=>?_⟩
  .obtain⟨o,q,r⟩:=hs'.1;exact⟨o,(hs''.2 it (vG hei)).trans q,r⟩
  .rcases cC.mp hb with rfl|hb
   .rw[aj (e_ (cD he))];exact fe.1
   .have:b=it:=by simpa using hb
    subst this;obtain⟨o,q,_⟩:=hl;rw[aj (e_ (cD q))];exact fi.1
 done:=by
  intro X hP hw hK hc i aa s σ H E I hf st hg;subst hP hw hK;obtain⟨xs,hq,hx⟩:=hg;obtain⟨⟨old,he⟩,hl⟩:=st;obtain⟨its,rv,p,hz⟩:=I.list hq;have fi:=hf it (by simp);have hai:a≠it:=by intro z;obtain⟨o1,e1,c1,_⟩:=p.isList;obtain⟨o2,e2,c2,_⟩:=hl;rw[z,e2]at e1;cases e1;rw[c2]at c1;injection c1 with z;exact absurd z (by decide)
  have hh:X.A.in1.handled=none:=I.ok.hd hc;have hln:=rv.length;have Dr:Draws X.prog X.w X.A.in1 it [it,a] 0 (λ_ _=>True) (λ_ h=>h.IsListIter it a i/\h.IsList a its.toArray):=
   { live:=λ_ _ st=>let ⟨o,ho,_⟩:=st.1;⟨o,ho⟩
     frame:=λ_ _ _ st hk=>⟨st.1.at λo e=>hk it (by simp) o e,st.2.at λo e=>hk a (by simp) o e⟩
     item:=λi s Q E hi=>absurd hi (by lia)
     done:=λs Q E st hE=>wpAny_nextOf_list_end hh st.1 st.2 (by simp;lia) hE }
  exact wpAny_pyNext_enum_endD Dr he ⟨hl,p.isList⟩ λh' eb=>⟨rfl,I.turned (t':=s.toks) (λb o hb e=>eb b o hb e) fi.1 fi.2.1 fi.2.2.2.1 fi.2.2.2.2.1 fi.2.2.2.2.2⟩
 self:=λA i s Q E st h=>by obtain⟨⟨old,he⟩,_⟩:=st;exact wpAny_pyIter_enum he h
section
def yc(K:QY)(ta:TA):TI:=λσ H R=>ta σ H λvs H1=>∃a xs,vs=[.ref a]/\SqL K H1 a xs/\R (MH K a) H1
def yd{l:Expr}(hg:Gl X "enumerate") (hm:X.mg "enumerate"=none) (ha:PA X [l] ta) (hs:autoParam (starEach [l] X.env=[(false,eval l X.env)]) Rc):PI X (.Tuple es k OU) (.Call (.Name "enumerate" p) [l] [] pos) (yc X.K ta):=by
 intro aa s σ H R I h;refine Call_ (kZ I hg hm (by decide +kernel:bootBuiltins "enumerate"=some (.type "enumerate")) (xB (cZ (ha pos aa s σ H _ I h) λus s1 ⟨vs,H1,I1,r1,q1⟩=>?_) hs rfl));obtain⟨a,xs,e,hq,q⟩:=q1;subst e;cases r1 with
 |cons r rr=>
  cases rr;cases r;obtain⟨its,rv,pl,hz⟩:=I1.list hq;refine call_enumerate_list pl.isList λh' he hl hsz kp=>?_;have I2:L2.Inv X aa σ H1 {s1 with heap:=h'}:=I1.kept (t':=s1.toks) kp;refine wpAny_pyIter_enum he ?_;refine⟨s1.heap.objs.size+1,[s1.heap.objs.size+1,s1.heap.objs.size],_,_,H1,rfl,I2,zD a s1.heap.objs.size (s1.heap.objs.size+1) (Nat.succ_ne_self _),⟨⟨_,by simpa using he⟩,hl⟩,λb hb=>?_,q⟩;rcases cC.mp hb with rfl|hb
  .exact I1.vF (Nat.le_succ _) (I1.aZ.fresh (Nat.le_succ _))
  .have e:b=s1.heap.objs.size:=by simpa using hb
   subst e;exact I1.vF (bK _) (I1.aZ.fresh (bK _))
end
noncomputable def Oj(osc:Scope)(N:List Str)(scope:Scope)(tN capN:List Str)(caps:List Nat):Bool:=
 (scope.kind==.function)&&scope.names.all (λy=>y.2 != .cell)&&scope.names.all (λy=>y.2 != .local || scope.names.lookup y.1==some .local)&&tN.all (λx=>scope.names.lookup x==some .local) &&
 scope.names.all (λy=>y.2 != .free ||(osc.names.lookup y.1==some .cell || osc.names.lookup y.1==some .free))&&(capN.zip caps).all (λp=>N[p.2]?==some p.1)&&(caps.length==capN.length) &&
 capN.all (λy=>osc.names.lookup y==some .cell || osc.names.lookup y==some .free)&&capN.all (λy=>scope.names.lookup y==some .free)&&decide (tN++capN).Nodup
def fg.of(h1:X.env.scope=osc)(h2:X.N=N)(h3:Oj osc N scope tN capN caps=true):fg X scope tN capN caps:=by
 unfold Oj at h3;simp only[jh,sk,QA,Pw,bne_iff_ne,O2,ne_eq]at h3;obtain⟨⟨⟨⟨⟨⟨⟨⟨⟨a1,a2⟩,a3⟩,a4⟩,a5⟩,a6⟩,a7⟩,a8⟩,a9⟩,a10⟩:=h3;subst h1 h2;refine⟨a1,a2,λy hy hl=>(a3 y hy).resolve_left λz=>z hl,a4,λy hy hf=>(a5 y hy).resolve_left λz=>z hf,⟨λk y e=>?_,a8,a9,a7⟩,a10⟩;have hk:k<capN.length:=(ci.mp e).1;have hk2:k<caps.length:=by lia
 refine⟨caps[k],by simp[hk2],?_⟩;have hm:(y,caps[k])∈capN.zip caps:=by
  have:(capN.zip caps)[k]?=some (y,caps[k]):=by rw[PR];exact⟨e,by simp[hk2]⟩
  exact kU this
 exact a6 _ hm
structure Fn(K:QY) (mg:Str->Option Q0) (x:Str) (st:Stmt) (ps:List Str) (f:Addr) (fd:FuncData):Prop where
 fu:Al K x x st f fd
 bi:Binds K fd ps []
 gl:mg x=some (.ref f)
def MI(F:List D->Res R):Sp:=λvs H Q _=>vs.length=1/\∃ds Ma r,IsAll H Ma ds vs/\F ds=.ok r/\∀v H',Same H H'->RetOk (JO H Ma) H' v r->Q v H'
theorem pK:∀ns:List Int,IsAll H m (ns.map D.int) (ns.map V.int)
 |[]=>rfl
 |n::r=>⟨.int n,r.map V.int,rfl,rfl,pK r⟩
def HE(hF:∀ns:List Int,ns.length<=63->∃f al,F [.lst (ns.map .int)]=.ok (.val (.bl true) f al))(H:Hp)(a:Addr)(ns:List Int)(hl:ns.length<=63)(hS:∃o,H a=some (.cV o (.lst (ns.map V.int)))) :
 MI F [.ref a] H (λv _=>v=.bl true) λ_ _ _=>False:=by
 obtain⟨f,al,e⟩:=hF ns hl;obtain⟨o,hS⟩:=hS;exact⟨rfl,[.lst (ns.map .int)],λb=>b=a,_,⟨_,[],rfl,⟨a,ns.map V.int,rfl,.inr ⟨o,hS,rfl⟩,pK ns⟩,rfl⟩,e,λv H' _ h=>h⟩
section
variable{P:QZ}{w:World}{K:QY}{mg:Str->Option Q0}{base:Heap}
def bA.top(h:bA P w K mg base CX k f fd ps (lI mg 1 F)):bA P w K mg base CX k f fd ps (MI F):=h.imp λvs H Q E ⟨hl,ds,Ma,r,is,e,q⟩=>⟨hl,ds,Ma,is,by rw[e];exact q⟩
def gM{x qual:Str}{st:Stmt}{f:Addr}{FB:En->Res Fl}(F:Al K x qual st f fd)(S:aR N ps (af st))
 (body:∀(cdv:Q0)(A:Q1)(outer:List Env)(s:QX)(H:Hp)(E:XK),dj k (A.deeper (envOfC qual (af st) s.heap.objs.size f cdv))->sU (mP P w K mg base N qual (af st) f cdv A outer s H E) E (aC st) FB) :
 bA P w K mg base (j6 P w) (k+1) f fd ps (lI mg ps.length (hV N FB)):=by
 obtain⟨oc,od,kV,doc,pm,an,cdv,ct,osl,rfl,lk,hcd⟩:=F.ex;refine xK lk hcd S (λvs H Q E h=>h.1) λA outer s H vs Q E hr hsp=>?_;obtain⟨hl,ds,Ma,is,post⟩:=hsp;obtain⟨t,p1,s1⟩:=body cdv A outer s H E hr;refine⟨t,p1,s1 (JO H Ma) _ _ (iL N ds) (L2.cK N vs) H _ (rH is) ?_⟩;unfold hV at post;cases q:FB (iL N ds)with
 |stuck=>rw[q]at post;exact post
 |exc c=>rw[q]at post;exact post
 |ok r=>
  rw[q]at post;cases r with
  |nx env=>exact λσ M' ρ' H' _ rep=>post .bL H' rep.same rfl
  |rt r=>exact λv M' H' _ s ro _=>post v H' s (ro λ_ z=>z)
  |rm r env=>exact post.elim
  |bk env=>exact post.elim
  |ct env=>exact post.elim
def FX:fP (j6 P w) X E0:=λ_ _ _ _ _ _ _ h=>by obtain⟨_,_,_,_,_,_,_,_,_,_,_,_,_,_,_,z⟩:=h;exact z.elim
end
def HF(h:j6 P w l H s (λ_ _ _=>False) e s'):False:=by obtain⟨_,_,_,_,_,_,_,_,_,_,_,_,_,_,_,z⟩:=h;exact z
section
variable{P:QZ}{w:World}{K:QY}{mg:Str->Option Q0}{base:Heap}{N:List Str}{qual:Str}{scope:Scope}{f:Addr}{cd:Q0}{A:Q1}{outer:List Env}{s₀:QX}{H₀:Hp}{E:XK}
def mZ(c:Str)(fs:En->Res (List R)):En->Res Fl:=λenv=>(fs env).bind λrs=>if rs.length<=lim then .exc c else .stuck
def m5{np cpos pos:Pos}{e₀:Expr}{rest:List Expr}{fs:En->Res (List R)}(hc:XC K mg c C)(hg:Gl (mP P w K mg base N qual scope f cd A outer s₀ H₀ E) c)(ha:zn (mP P w K mg base N qual scope f cd A outer s₀ H₀ E) E (e₀::rest) fs)
 (he:autoParam (starEach (e₀::rest) (mP P w K mg base N qual scope f cd A outer s₀ H₀ E).env=(false,eval e₀ (mP P w K mg base N qual scope f cd A outer s₀ H₀ E).env)::starEach rest (mP P w K mg base N qual scope f cd A outer s₀ H₀ E).env) Rc)
 (hpl:autoParam ((backTo cpos (starEach rest (mP P w K mg base N qual scope f cd A outer s₀ H₀ E).env)).any (·.1)=false) Rc) (hd:autoParam (dB c) Q_) :
 Ap (mP P w K mg base N qual scope f cd A outer s₀ H₀ E) E (.Raise (some (.Call (.Name c np) (e₀::rest) [] cpos)) none pos) (mZ c fs):=by
 obtain⟨t,p1,s1⟩:=ha;refine⟨_,A0 (EW:=λH=>E (.ref C) none H) hc hg rfl p1 (λaa σ H s h' x args I hm hE=>D0 I hm hE) he hpl hd,λg M ρ env σ H D rep p=>?_⟩;refine s1 g M ρ env σ H _ rep ?_;unfold mZ at p;cases q:fs env with
 |stuck=>rw[q]at p;exact p
 |exc c'=>rw[q]at p;exact p
 |ok rs=>
  rw[q]at p;simp only[Res.gd]at p;intro vs M1 H1 e1 rep1 is;by_cases hl:rs.length<=lim
  .rw[b_ hl]at p;refine⟨by rw[is.length,cG];exact iG hl,?_⟩;exact p (.ref C) none H1 hc.gl rep1.same
  .rw[cF hl]at p;exact p.elim
end
section
def ED:List R->Res R
 |[r]=>match r.d with
  |.int i=>.ok (.val (.int i) true [])
  |.bl b=>.ok (.val (.int (if b then 1 else 0)) true [])
  |_=>.stuck
 |_=>.stuck
def HG:kE X E (.type "int") ED:=by
 refine⟨_,yP,λg M ρ env σ H Q rs vs rep i p=>?_⟩;rcases rs with _|⟨r,_|_⟩
 .exact p.elim
 rotate_left
 .exact p.elim
 obtain⟨v,w,rfl,i1,i2⟩:=i;cases i2;have i1:Is H (vmsk g M (cb [r]) ρ (c_ [r])) r.d v:=i1;unfold ED at p;dsimp only at p;cases z:r.d with
 |int a=>rw[z]at i1 p;cases i1;exact .inl ⟨a,rfl,p _ M H (Ext.refl _ _) rep rfl⟩
 |bl b=>rw[z]at i1 p;cases i1;exact .inr ⟨b,rfl,p _ M H (Ext.refl _ _) rep rfl⟩
 |_=>rw[z]at p;exact p.elim
end
section
def HH(fa:En->Res R):En->Res R:=λenv=>(fa env).bind λra=>match ra.d with
 |.int i=>.ok (.val (.int (-i)) true [])
 |_=>.stuck
def BM(ha:PD X E a fa):PD X E (.UnaryOp .USub a pos) (HH fa):=by
 obtain⟨ta,pa,sa⟩:=ha;refine⟨_,J0 GV pa,λg M ρ env σ H Q rep p=>sa.kz rep p λr v M' H' e rep' i p'=>?_⟩;cases q:r.d with
 |int b=>rw[q]at i;simp only[q]at p';cases i;exact⟨b,rfl,p' _ M' H' (Ext.refl _ _) rep' rfl⟩
 |_=>simp only[q]at p';exact p'.elim
def HI(fa:En->Res R):En->Res Bool:=λenv=>(fa env).bind λra=>.ok ra.d.Dh
def ye(ha:PD X E a fa):zp X E (.Compare a [.Is] [.Constant .none j pos'] pos) (HI fa):=Ep ha
open Classical in
end
end L3
namespace L2
open PySem PySem.Spec PySem.Calls PyProof.Rows
abbrev Cx.bV(X:Cx)(x:Addr)(o:Obj):Cx:={X.caught x with pn:=(x,o)::X.pn}
section
variable{X:Cx}{aa:List (Addr×Obj)}{σ:St}{H:Hp}{s:QX}{x:Addr}{o:Obj}
theorem Inv.bV(I:Inv X aa σ H s)(e:s.heap.get? x=some o)(n:H x=none)(nl:x≠X.env.locals)(nf:x∉X.fs)(nc:∀v,o.data≠.cell v):Inv (X.bV x o) aa σ H s:=
 let J:=I.caught x
 ⟨⟨I.ok.mod,I.ok.kind,I.ok.glob,I.ok.blt,I.ok.above,I.ok.inj,I.ok.has,I.ok.Gq,(λz=>by cases z),I.ok.frames,I.ok.JG,I.ok.My,I.ok.bs,I.ok.Av,I.ok.vJ,I.ok.xD,I.ok.lC,I.ok.DA,I.ok.kt⟩,I.os,I.bare,I.base,I.loc,I.cell,I.free,I.gB,(λp hp=>by
   rcases cC.mp hp with rfl|hp
   .exact⟨e,n,nl,nf,nc⟩
   .exact I.pin p hp),I.aZ,I.len⟩
def Inv.An(I:Inv (X.bV x o) aa σ H s)(ok:X.Ok):Inv X aa σ H s:=⟨ok,I.os,I.bare,I.base,I.loc,I.cell,I.free,I.gB,λp hp=>I.pin p (cg _ hp),I.aZ,I.len⟩
def EE(I:Inv X aa σ H s)(hN:X.N.Nodup)(hi:X.N[i]?=some n)(hk:X.env.scope.names.lookup n=some .local)
 (h:∀s',Inv X aa (σ.set i none) H s'->Q () s'):wpAny M A (do bindName X.env n .none;unbindBehindTheSuite X.env n pos) Q E s:=by
 obtain⟨m,hn,hl⟩:=id I.loc;have hcls:(X.env.scope.kind==.class ||(X.env.scope.kind==.module&&X.env.locals != X.env.globals))=false:=by rw[I.ok.kind];rfl
 have hiσ:i<σ.length:=by rw[I.len];exact(ci.mp hi).1
 have Dg:=I.Dg;have tracked:∀{a:Addr}{h':Heap},(∃o,s.heap.get? a=some o/\H a=none)->Heap.SameBut a s.heap h'->HOk X.prog X.w H h':=λ{a h'} ha hs b ob e=>by
  obtain⟨_,_,hfree⟩:=ha;refine(I.aZ b ob e).stay (λc w' hc q=>(hs.2 c ?_).trans q) (λ_ q=>q) λ_ _ q=>q;rintro rfl;rcases hc with rfl|hc
  .rw[hfree]at e;cases e
  .rw[hfree]at hc;cases hc
 refine wpAny_nameGoes_keeps hk hn hcls λh' v hn' hs=>?_;obtain⟨oL,_,_,hoL,_⟩:=id hn;refine h _ ⟨I.ok,I.os,I.bare,⟨λb o e n hb hx=>?_,λb o e n hb hx=>?_,I.base.free,λb o e hx=>?_,I.base.jW,I.base.mK,I.base.n_⟩,⟨_,hn',λj y v' e1 e2 e3=>?_⟩,λy c e=>?_,I.free,I.gB,λp hp=>?_,tracked ⟨oL,hoL,I.free⟩ hs,by simpa using I.len⟩
 .exact(hs.2 b (e_ (fM (cD e) I.ok.above))).trans (I.base.keep b o e n hb hx)
 .obtain⟨sl,e1⟩:=I.base.slot b o e n hb hx;exact⟨sl,(hs.2 b (e_ (fM (cD e) I.ok.above))).trans e1⟩
 .obtain⟨o',e1⟩:=I.base.there b o e hx;exact⟨o',(hs.2 b (e_ (fM (cD e) I.ok.above))).trans e1⟩
 .by_cases hj:j=i
  .subst hj;rw[jg hiσ]at e2;cases e2
  .rw[ji (vG hj)]at e2;obtain⟨u',r',q⟩:=hl j y v' e1 e2 e3;refine⟨u',r',?_⟩;rcases q with⟨k,e⟩|⟨k,c,e,z⟩
   .refine .inl ⟨k,?_⟩;have:y≠n:=λe=>hj (oE hN e1 (e▸hi));simp[this,e]
   .exact .inr ⟨k,c,e,z.sameBut hs (Dg y c e)⟩
 .obtain⟨w',z⟩:=I.cell y c e;exact⟨w',z.sameBut hs (Dg y c e)⟩
 .obtain⟨e,n,ne,nf,d⟩:=I.pin p hp;exact⟨(hs.2 p.1 ne).trans e,n,ne,nf,d⟩
end
def yf(X:Cx)(Ch:Addr)(i:Nat)(ts:Addr->Addr->TS)(D:Ends)(σ:St):XK:=λcls _ H1=>∃C,cls=.ref C/\excIn X.K C oW "ValueError.__new__"=true/\(sD X.K C).contains (.ref Ch)=true/\
 ∀(x:Addr)(o:Obj),o.cls=.ref C->H1 x=none->ts C x {nx:=λσ' H'=>D.nx (σ'.set i none) H',rt:=λ_ _=>False,bk:=λ_ _=>False,ct:=λ_ _=>False} (σ.set i (some (.ref x))) H1
section
variable{X:Cx}{hc:Str}{Ch:Addr}{np hpos:Pos}{b₀:Stmt}{suite:List Stmt}{ts:Addr->Addr->TS}{i:Nat}{n:Str}
def EF(hN:X.N.Nodup)(hi:X.N[i]?=some n)(hk:X.env.scope.names.lookup n=some .local)(hst:X.stack=X.env::X.outer)(hf:X.env.frame=some X.env.locals)(hx:XC X.K X.mg hc Ch)(hg:Gl X hc)
 (hs:∀C x o,o.cls=.ref C->excIn X.K C oW "ValueError.__new__"=true->PSs (X.bV x o) (b₀::suite) (ts C x))
 (h:∃H1 s1,Inv X aa σ H1 s1/\j6 X.prog X.w X.stack H1 s1 (yf X Ch i ts D σ) ev s') (hdb:autoParam (dB hc) Q_) :
 wX X (noteFrame ev X.env) (λ_ s2=>wX X (setFlight ev none) (λ_ s3=>wX X (handleBy ev X.env [.ExceptHandler (some (.Name hc np)) (some n) (b₀::suite) hpos]) (SP X aa D) X.xe s3) X.xe s2) X.xe s':=by
 obtain⟨H1,s1,I1,x,C,t,B,H',rfl,os,bare,un,aZ,fly,ui,unt,inB,hxn,C0,ec,hex,hmr,q⟩:=h;cases ec;have fly':Heap.FlyingW B (X.env::X.outer) x (.ref C) (.ref t) s'.heap:=hst▸fly;have fr:X.A.frames=some (X.env::X.outer):=hst▸I1.ok.frames;refine wpAny_looks_onW fr hf fly' λh4 held up4=>?_;refine wpAny_landsW held λh5 fly5 up5=>?_;have up45:=up4.trans up5;have I5:Inv X aa σ H' {s' with heap:=h5}:=I1.landed (l:=[]) (g6:=#[]) os bare un aZ fly ui unt inB fly5.1 up45;obtain⟨bm,em,hC⟩:=oX I5.kT hex;obtain⟨bm',em',hC'⟩:=oX I5.kT hx.ex;obtain⟨oe,he,hcls⟩:=fly5.there;refine wpAny_handleBy_cons (codeAny_handlers_test (ir (X:=X.caught x) (I5.caught x) hg hx.gl ?_ hdb)) (by intro z;cases z);refine qH hC hC' he hcls ?_;rw[em]at hmr;rw[hmr];refine codeAny_handlers_suite_as ?_;refine lands_againW fly5 λh6 fly6 up6=>?_;have I6:Inv X aa σ H' {s' with heap:=h6}:=I1.landed (l:=[]) (g6:=#[]) os bare un aZ fly ui unt inB fly6.1 (up45.trans up6);obtain⟨oe6,vs6,T6,oT6,ts6,he6,⟨hcl6,_⟩,hd6,_⟩:=fly6.2.2.2;have nfr:x∉(X.env::X.outer).filterMap (·.frame):=λhm=>by obtain⟨_,o,ho,hnf⟩:=fly6.2.2.1.mem hm;rw[he6]at ho;cases ho;exact hnf vs6 hd6
 have nl:x≠X.env.locals:=λz=>nfr (Df.mpr ⟨X.env,cE ..,by rw[hf,z]⟩);have nf:x∉X.fs:=λz=>by obtain⟨en,a,b⟩:=Df.mp z;exact nfr (Df.mpr ⟨en,cg _ a,b⟩)
 have I7:Inv (X.bV x oe6) aa σ H' {s' with heap:=h6}:=I6.bV he6 hxn nl nf (λv z=>by rw[hd6]at z;cases z);refine oF (X:=X.bV x oe6) (v:=.ref x) I7 hN hi (.inl hk) rfl (λs8 I8=>?_) (.inr hk);refine mC (hs C x oe6 hcl6 hex aa _ _ H' _ I8 (q x oe6 hcl6 hxn)) (λf s7 h7=>?_) λ_ _ z=>False.elim z;cases f with
 |next=>obtain⟨σ',H2,J,q2⟩:=h7;exact EE (J.An I6.ok) hN hi hk λs9 J9=>⟨_,H2,J9,q2⟩
 |brk=>obtain⟨_,_,_,z⟩:=h7;exact z.elim
 |cont=>obtain⟨_,_,_,z⟩:=h7;exact z.elim
 |ret u=>obtain⟨_,_,_,_,_,z⟩:=h7;exact z.elim
end
end L2
namespace L3
open PySem PySem.Spec PyProof.Rows L2
def Rep.forget(r:Rep g M ρ env σ H)(h:env[i]?=some none):Rep g M ρ env (σ.set i v) H where
 same:=r.same
 jr:=r.jr
 ud:=r.ud
 fl:=r.fl
 slot:=λj sl e=>by obtain⟨u,e1,k⟩:=r.slot j sl e;refine⟨u,?_,k⟩;rw[ji (λz=>by subst z;rw[h]at e;cases e)];exact e1
 cI:=r.cI
 apart:=r.apart
 ow:=r.ow
 len:=by rw[Pg];exact r.len
 zz:=r.zz
section
def HJ:R->R->Res R:=oI (λ_ j=>decide (0<=j)) λi j=>.int (i/2^j.toNat)
def BN:R->R->Res R:=oI (λ_ _=>true) λi j=>.int (Builtin.bitAnd i j)
def HK:uc X E (binaryOp .RShift) HJ:=rF _ _ GS (λi j h=>by grind) λ_ _ _ _=>rfl
def EG:uc X E (binaryOp .BitAnd) BN:=pA _ GT λ_ _ _ _=>rfl
def ti:List R->Res R
 |[r]=>match r.d with
  |.lst ds=>.ok (lH (.tup ds) r.fr r.al)
  |.tup ds=>.ok (lH (.tup ds) r.fr r.al)
  |_=>.stuck
 |_=>.stuck
def BO:kE X E (.type "tuple") ti:=by
 refine⟨_,qG,λg M ρ env σ H Q rs vs rep i p=>?_⟩;rcases rs with _|⟨r,_|_⟩
 .exact p.elim
 rotate_left
 .exact p.elim
 obtain⟨v,w,rfl,i1,i2⟩:=i;cases i2;have i1:Is H (vmsk g M (cb [r]) ρ (c_ [r])) r.d v:=i1;replace i1:=i1.weak λ_ z=>x5 z;unfold ti at p;dsimp only at p;cases q:r.d with
 |lst ds=>rw[q]at p i1;obtain⟨a,ws,rfl,h1,h2⟩:=i1.rd;exact⟨a,ws,rfl,.inl ⟨.inl h1,λl hl=>p.tup rep hl h2⟩⟩
 |tup ds=>rw[q]at p i1;have i1':=i1;obtain⟨a,ws,rfl,h1,h2⟩:=i1;exact⟨a,ws,rfl,.inr ⟨SqT.of h1,p.val rep i1'⟩⟩
 |_=>rw[q]at p;exact p.elim
end
noncomputable def pL:List D->Option (List Int)
 |[]=>some []
 |.int i::r=>(pL r).map (i::·)
 |_::_=>none
def HL:D->Option (List Int)
 |.tup ds=>pL ds
 |_=>none
def gO:List D->Option (List (List Int))
 |[]=>some []
 |d::r=>match HL d,gO r with
  |some k,some ks=>some (k::ks)
  |_,_=>none
noncomputable def l7(k:List Int):D:=.tup (k.map .int)
def qN(k:List Int):List (List Int)->List (List Int)
 |[]=>[k]
 |h::t=>if k=h then h::t else if dS k h then k::h::t else h::qN k t
def fy:List (List Int)->List (List Int)
 |[]=>[]
 |k::ks=>qN k (fy ks)
def EH(N:Nat)(r:R):Res R:=match r.d with
 |.lst ds=>match gO ds with
  |some ks=>if decide (ds.length<=N)&&ks.all (λk=>!k.isEmpty)then .ok (.new ((fy ks).map l7) true)else .stuck
  |none=>.stuck
 |_=>.stuck
def EI(r:R):Res R:=EH 63 r
def MJ(f:En->Res R):En->Res R:=λenv=>(f env).bind EI
theorem tj(k x:List Int):∀l,x∈qN k l↔x=k\/x∈l
 |[]=>by simp[qN]
 |h::t=>by
  unfold qN;split
  .rename_i e;subst e;simp
  .split
   .simp
   .rw[cC,tj k x t,cC]
    grind
theorem BP(k:List Int):∀l,l.Pairwise (λx y=>dS x y=true)->(qN k l).Pairwise (λx y=>dS x y=true)
 |[],_=>List.pairwise_singleton _ _
 |h::t,p=>by
  obtain⟨p1,p2⟩:=JF.mp p;unfold qN;split
  .exact p
  .rename_i hne;split
   .rename_i hlt;refine JF.mpr ⟨λy hy=>?_,p⟩
    grind [sK]
   .rename_i hlt;refine JF.mpr ⟨λy hy=>?_,BP k t p2⟩
    grind [tj,sL]
theorem hZ(x:List Int):∀ks,x∈fy ks↔x∈ks
 |[]=>by simp[fy]
 |k::ks=>by unfold fy;rw[tj,hZ x ks,cC]
theorem om:∀ks,(fy ks).Pairwise (λx y=>dS x y=true)
 |[]=>List.Pairwise.nil
 |k::ks=>by unfold fy;exact BP k _ (om ks)
def BQ(h:dS a b=true):dS b a=false:=by grind [dS,sK,lW]
theorem lh:∀(a b:List (List Int)),a.Pairwise (λx y=>dS x y=true)->b.Pairwise (λx y=>dS x y=true)->(∀x,x∈a↔x∈b)->a=b
 |[],[],_,_,_=>rfl
 |[],y::b,_,_,h=>by have:=(h y).mpr cE;simp at this
 |x::a,[],_,_,h=>by have:=(h x).mp cE;simp at this
 |x::a,y::b,pa,pb,h=>by
  obtain⟨a1,a2⟩:=JF.mp pa;obtain⟨b1,b2⟩:=JF.mp pb;have hxy:x=y:=by
   rcases cC.mp ((h x).mp cE)with e|e
   .exact e
   .rcases cC.mp ((h y).mpr cE)with e'|e'
    .exact e'.symm
    .have:=BQ (a1 y e');rw[b1 x e]at this;cases this
  subst hxy;rw[lh a b a2 b2 λz=>?_]
  grind [lW]
section
theorem IsAll.ints:∀{ds:List D}{vs:List V}{k:List Int},IsAll H m ds vs->pL ds=some k->vs=(iK k).map kV
 |[],_,_,h,e=>by cases h;cases e;rfl
 |d::ds,_,k,h,e=>by
  obtain⟨v,r,rfl,h1,h2⟩:=h;cases d with
  |int i=>unfold pL at e;obtain⟨k',e1,rfl⟩:=Gr.mp e;rw[IsAll.ints h2 e1,show v=V.int i from h1];rfl
  |_=>cases e
theorem pM:∀(k:List Int),IsAll H m (k.map .int) ((iK k).map kV)
 |[]=>rfl
 |i::k=>⟨.int i,_,rfl,rfl,pM k⟩
theorem IsAll.gO:∀{ds:List D}{vs:List V}{ks:List (List Int)},IsAll H m ds vs->L3.gO ds=some ks->∃its:List i_,TupsIn H vs its/\its.map (·.1)=ks
 |[],_,_,h,e=>by cases h;cases e;exact⟨[],.nil,rfl⟩
 |d::ds,_,ks,h,e=>by
  obtain⟨v,r,rfl,h1,h2⟩:=h;unfold L3.gO at e;cases q:HL d with
  |none=>rw[q]at e;cases e
  |some k=>
   cases q2:L3.gO ds with
   |none=>rw[q,q2]at e;cases e
   |some ks'=>
    rw[q,q2]at e;cases e;obtain⟨its,t1,t2⟩:=IsAll.gO h2 q2;cases d with
    |tup es=>obtain⟨a,ws,rfl,g1,g2⟩:=h1;have q:pL es=some k:=q;rw[IsAll.ints g2 q]at g1;exact⟨(k,a)::its,.cons ⟨rfl,g1⟩ t1,by grind⟩
    |_=>cases q
end
def wO(t:TupsIn H vs its):vs.length=its.length:=by
 unfold TupsIn at t;induction t with
 |nil=>rfl
 |cons _ _ ih=>rw[fU,fU,ih]
def rM(t:TupsIn H vs its):∀x∈its,H x.2=some (.tup ((iK x.1).map kV)):=by
 unfold TupsIn at t;induction t with
 |nil=>exact λx hx=>nomatch hx
 |cons q _ ih=>
  intro x hx;rcases cC.mp hx with rfl|hx
  .exact q.2
  .exact ih x hx
theorem jH:∀{ys:List i_},(∀y∈ys,H y.2=some (.tup ((iK y.1).map kV)))->IsAll H m (ys.map (l7 ∘ λy=>y.1)) (ys.map λy=>.ref y.2)
 |[],_=>rfl
 |y::ys,h=>⟨.ref y.2,_,rfl,⟨y.2,_,rfl,h y cE,pM y.1⟩,jH λz hz=>h z (cg _ hz)⟩
section
def qO(hN:N<=300)(hso:lX X.prog X.w N)(hc:X.calm=true)(hu:X.A.units+64<cLine)(h:PD X E e f)
 (hg1:Gl X x1) (hm1:X.mg x1=none) (hv1:bootBuiltins x1=some (.builtin "sorted")) (hg2:Gl X x2) (hm2:X.mg x2=none) (hv2:bootBuiltins x2=some (.type "set"))
 (hn1:autoParam (x1≠"__name__") Q_) (hdb1:autoParam (dB x1) Q_) (hn2:autoParam (x2≠"__name__") Q_) (hdb2:autoParam (dB x2) Q_)
 (he2:autoParam (starEach [e] X.env=(false,eval e X.env)::starEach [] X.env) Rc) (hpl2:autoParam (bT X pos2 []) Rc)
 (he1:autoParam (starEach [.Call (.Name x2 p2) [e] [] pos2] X.env=(false,eval (.Call (.Name x2 p2) [e] [] pos2) X.env)::starEach [] X.env) Rc) (hpl1:autoParam (bT X pos1 []) Rc) :
 PD X E (.Call (.Name x1 p1) [.Call (.Name x2 p2) [e] [] pos2] [] pos1) (λenv=>(f env).bind (EH N)):=by
 obtain⟨t,p1,s1⟩:=h;refine⟨_,dG (sN hc hN hso) hg1 hm1 hv1 (ai (rf (ze hc hu) hg2 hm2 hv2 (ai p1 aG he2) hn2 hdb2 he2 hpl2) aG he1) hn1 hdb1 he1 hpl1,λg M ρ env σ H Q rep p=>?_⟩;refine s1.kz rep p λr v M1 H1 e1 rep1 i1 q1=>?_;unfold EH at q1;cases qd:r.d with
 |lst ds=>
  rw[qd]at q1 i1;dsimp only at q1;cases qt:gO ds with
  |none=>rw[qt]at q1;exact q1.elim
  |some ks=>
   rw[qt]at q1;dsimp only at q1;by_cases hcond:(decide (ds.length<=N)&&ks.all (λk=>!k.isEmpty))=true
   .rw[b_ hcond]at q1;simp only[jh,O2,sk]at hcond;obtain⟨hl,hne⟩:=hcond;obtain⟨a,vs,rfl,h1,h2⟩:=i1.rd;obtain⟨its,t1,t2⟩:=h2.gO qt;have hvl:vs.length<=N:=by rw[h2.length];exact hl
    have tat:=rM t1;refine⟨a,vs,its,rfl,h1,t1,gC hvl hN,λb es hb v=>?_⟩;refine⟨b,es,its,rfl,aw,v,λx hx=>?_,λx hx z=>?_,by rw[<- wO t1];exact hvl,λl ys hl so=>?_⟩
    .rw[aj (ay (tat x hx) hb)];exact tat x hx
    .have:x.1∈ks:=by rw[<- t2];exact d7.mpr ⟨x,hx,rfl⟩
     have:=hne _ this;rw[z]at this;simp at this
    .have hlb:l≠b:=λz=>by rw[z,aw]at hl;cases hl
     have hl1:H1 l=none:=by rw[aj hlb]at hl;exact hl
     have sm1:Same H1 (aY H1 b (.ext λh=>SetAt X.w h b es)):=aQ hb;have sm2:Same (aY H1 b (.ext λh=>SetAt X.w h b es)) (aY (aY H1 b (.ext λh=>SetAt X.w h b es)) l (.lst (ys.map λy=>.ref y.2))):=aQ hl;have sm:=sm1.trans sm2;obtain⟨z0,zm,zo⟩:=rep1.free hl1;refine q1 _ M1 _ ⟨λ_ z=>z,sm,λ_ z=>.inl z⟩ (rep1.grow sm) ⟨l,_,rfl,aw,zm,hl1,zo,?_⟩;have ek:ys.map (·.1)=fy ks:=by
      refine lh _ _ ?_ (om ks) λk=>?_
      .rw[Pc];exact so.pw
      .rw[hZ,<- t2];constructor
       .intro hk;obtain⟨y,hy,rfl⟩:=d7.mp hk;exact d7.mpr ⟨y,so.sub y hy,rfl⟩
       .intro hk;obtain⟨x,hx,rfl⟩:=d7.mp hk;obtain⟨y,y1,y2⟩:=so.all x hx;exact d7.mpr ⟨y,y1,y2⟩
     rw[<- ek,kg];exact jH (λx hx=>sm _ _ (tat x (so.sub x hx)))
   .rw[cF hcond]at q1;exact q1.elim
 |_=>rw[qd]at q1;exact q1.elim
def l9(hc:X.calm=true)(hu:X.A.units+64<cLine)(h:PD X E e f)
 (hg1:Gl X x1) (hm1:X.mg x1=none) (hv1:bootBuiltins x1=some (.builtin "sorted")) (hg2:Gl X x2) (hm2:X.mg x2=none) (hv2:bootBuiltins x2=some (.type "set"))
 (hn1:autoParam (x1≠"__name__") Q_) (hdb1:autoParam (dB x1) Q_) (hn2:autoParam (x2≠"__name__") Q_) (hdb2:autoParam (dB x2) Q_)
 (he2:autoParam (starEach [e] X.env=(false,eval e X.env)::starEach [] X.env) Rc) (hpl2:autoParam (bT X pos2 []) Rc)
 (he1:autoParam (starEach [.Call (.Name x2 p2) [e] [] pos2] X.env=(false,eval (.Call (.Name x2 p2) [e] [] pos2) X.env)::starEach [] X.env) Rc) (hpl1:autoParam (bT X pos1 []) Rc) :
 PD X E (.Call (.Name x1 p1) [.Call (.Name x2 p2) [e] [] pos2] [] pos1) (MJ f):=qO (Nat.le_of_ble_eq_true rfl) xU hc hu h hg1 hm1 hv1 hg2 hm2 hv2 hn1 hdb1 hn2 hdb2 he2 hpl2 he1 hpl1
end
section
open Classical in
end
noncomputable abbrev ML:=Int×Int×Int
noncomputable def dd(l:List Int)(x:Int):List Int:=if x∈l then l else l++[x]
def Kv(xs:List Int):List Int:=xs.foldl dd []
def g1(ts:List ML):List Int:=Kv (ts.map (·.1))
def g2(ts:List ML)(x:Int):List Int:=Kv ((ts.filter λt=>decide (t.1=x)).map (·.2.1))
noncomputable def g3(ts:List ML)(x y:Int):List Int:=(ts.filter λt=>decide (t.1=x)&&decide (t.2.1=y)).map (·.2.2)
open Classical in
section
def oo(rs:List R):Res R:=match rs.map R.d with
 |[.int j]=>if 0<=j/\j<=1000 then .ok (.new (fK 0 j.toNat) true)else .stuck
 |_=>.stuck
def zE(hc:X.calm=true)(hgl:Gl X "list") (hml:X.mg "list"=none) (hvl:bootBuiltins "list"=some (.type "list")) (hg:Gl X "range") (hm:X.mg "range"=none) (ha:zn X E [a] fs) (hs:autoParam (starEach [a] X.env=[(false,eval a X.env)]) Rc)
 (hs2:autoParam (starEach [.Call (.Name "range" p2) [a] [] pos2] X.env=[(false,eval (.Call (.Name "range" p2) [a] [] pos2) X.env)]) Rc):PD X E (.Call (.Name "list" p) [.Call (.Name "range" p2) [a] [] pos2] [] pos) (ol oo fs):=by
 obtain⟨t,p1,s1⟩:=ha;refine⟨_,zf hc hgl hml hvl hg hm p1 hs hs2,λg M ρ env σ H Q rep p=>s1.kz rep p λrs vs M1 H1 e1 rep1 i1 q1=>?_⟩;unfold oo at q1;generalize rs.map R.d=ds at i1 q1;split at q1
 .rename_i j;obtain⟨v,w,rfl,k1,k2⟩:=i1;cases k1;cases k2;by_cases hj:0<=j/\j<=1000
  .rw[b_ hj]at q1;refine⟨j,rfl,hj.1,hj.2,λl hl=>?_⟩;have e:((List.range j.toNat).map λk=>(V.int (k:Nat)))=((List.range j.toNat).map λ(k:Nat)=>(V.int (0+(k:Nat)))):=vV λk _=>by grind
   rw[e];refine q1.new rep1 hl ?_;unfold fK;generalize List.range j.toNat=l0;induction l0 with
   |nil=>exact rfl
   |cons k r ih=>exact⟨_,_,rfl,rfl,ih⟩
  .rw[cF hj]at q1;exact q1.elim
 .exact q1.elim
def wQ(r0 r1 r2:R):Res R:=match r1,r2 with
 |.new d1 _,.new d2 _=>if r0.d.flat/\D.bp d1=true/\D.bp d2=true then .ok (.lJ (.tup [r0.d,.lst d1,.lst d2]))else .stuck
 |_,_=>.stuck
def Nl(f0 f1 f2:En->Res R):En->Res R:=λenv=>(f0 env).bind λr0=>(f1 env).bind λr1=>(f2 env).bind λr2=>wQ r0 r1 r2
def Kw(h0:PD X E e0 f0)(h1:PD X E e1 f1)(h2:PD X E e2 f2)(hs0:autoParam (starEach [e0,e1,e2] X.env=(false,eval e0 X.env)::starEach [e1,e2] X.env) Rc)(hs1:autoParam (starEach [e1,e2] X.env=(false,eval e1 X.env)::starEach [e2] X.env) Rc)(hs2:autoParam (starEach [e2] X.env=(false,eval e2 X.env)::starEach [] X.env) Rc):PD X E (.Tuple [e0,e1,e2] k pos) (Nl f0 f1 f2):=by
 obtain⟨t0,p0,s0⟩:=h0;obtain⟨t1,p1,s1⟩:=h1;obtain⟨t2,p2,s2⟩:=h2;refine⟨_,d9 (ai p0 (ai p1 (ai p2 aG hs2) hs1) hs0),λg M ρ env σ H Q rep p=>?_⟩;have p:PostE X.mg E g M ρ env σ H Q ((f0 env).bind λr0=>(f1 env).bind λr1=>(f2 env).bind λr2=>wQ r0 r1 r2):=p;refine s0.kz rep p λr0 v0 M0 H0 x0 rep0 i0 q0=>?_;refine s1 g M0 ρ env σ H0 _ rep0 ?_;cases e1':f1 env with
 |stuck=>rw[e1']at q0;exact q0
 |exc c=>rw[e1']at q0;exact q0
 |ok r1=>
  rw[e1']at q0;intro v1 M1 H1 x1 rep1 ro1;refine s2 g M1 ρ env σ H1 _ rep1 ?_;simp only[Res.gd]at q0;cases e2':f2 env with
  |stuck=>rw[e2']at q0;exact q0
  |exc c=>rw[e2']at q0;exact q0
  |ok r2=>
   rw[e2']at q0;simp only[Res.gd]at q0;intro v2 M2 H2 x2 rep2 ro2;unfold wQ at q0;cases r1 with
   |val d fr al=>exact q0.elim
   |lJ d=>exact q0.elim
   |new d1 fr1=>
    cases r2 with
    |val d fr al=>exact q0.elim
    |lJ d=>exact q0.elim
    |new d2 fr2=>
     dsimp only at q0;by_cases hc:r0.d.flat=true/\D.bp d1=true/\D.bp d2=true
     .rw[b_ hc]at q0;obtain⟨c0,c1,c2⟩:=hc;obtain⟨a1,w1,rfl,g1,g2,g3,g4,g5⟩:=ro1;obtain⟨a2,w2,rfl,k1,k2,k3,k4,k5⟩:=ro2;refine⟨by show 3<=sizeLine;decide,λb hb=>?_⟩;have sb:Same H2 (aY H2 b (.tup [v0,.ref a1,.ref a2])):=aQ hb;have g1':H2 a1=some (.lst w1):=x2.h _ _ g1;have nm1:¬M2 a1:=λz=>(x2.n a1 z).elim g2 λw=>by grind
      have g3':H0 a1=none:=g3;have k3':H1 a2=none:=k3;have n12:a1≠a2:=λe=>by grind
      refine q0 (.ref b) M2 _ ((x1.trans x2).trans ⟨λ_ z=>z,sb,λ_ z=>.inl z⟩) (rep2.grow sb) ⟨λa=>a=a1\/a=a2,λa z=>?_,b,_,rfl,aw,v0,_,rfl,Is.flat c0 ((((i0.same x1.h).same x2.h)).same sb),.ref a1,_,rfl,⟨a1,w1,rfl,.inl ⟨sb _ _ g1',.inl rfl⟩,IsAll.flat c1 ((g5.same x2.h).same sb)⟩,.ref a2,_,rfl,⟨a2,w2,rfl,.inl ⟨sb _ _ k1,.inr rfl⟩,IsAll.flat c2 (k5.same sb)⟩,rfl⟩;rcases z with rfl|rfl
      .exact⟨nm1,g3',⟨_,sb _ _ g1',True.intro⟩,g4⟩
      .exact⟨k2,x1.h.free k3',⟨_,sb _ _ k1,True.intro⟩,k4⟩
     .rw[cF hc]at q0;exact q0.elim
def ja(i:Nat)(f:En->Res R):En->Res Fl:=λenv=>(f env).bind λr=>if i<env.length then .ok (.nx ((cV env r.al).set i (some (.val r.d r.fr))))else .stuck
def dI(hN:X.N.Nodup)(hi:X.N[i]?=some x)(hx:DE X.env.scope x)(h:PD X E e f)(hs:autoParam (swapsWith e (some (.Name x pos')) pos.line X.env=pure false) Rc)
 (hf:autoParam (X.fn x=true\/X.env.scope.names.lookup x=some .local) Ra):Ap X E (.Assign [.Name x pos'] e pos) (ja i f):=by
 obtain⟨t,p1,s1⟩:=h;refine⟨_,iz hN hi hx p1 hs hf,λg M ρ env σ H D rep p=>?_⟩;refine s1.xA rep p λr v M' H' e rep' ro p'=>?_;by_cases hi:i<env.length
 .rw[b_ hi]at p';obtain⟨M2,x2,x2m,rep2,is2⟩:=ro.is rep' e rep.same;obtain⟨M3,ρ3,x3,rep3,o3,_,_⟩:=Rep.cV r.al rep2;have rep4:=rep3.put (i:=i) (sl:=.val r.d r.fr) (T:=λ_=>False) (by rw[sX];exact hi) (Is.frozen rep2 x3 o3 is2) (λ_ z=>z.elim) λ_ z=>z.elim;exact p' _ M3 _ H' ⟨λa z=>x3 a (x2m a z),λ_ _ q _=>q⟩ rep4
 .rw[cF hi]at p';exact p'.elim
def qv(i:Nat)(hN:autoParam (X.N[i]?=some x) Rc)(hv:autoParam (MC X.env.scope x) Q5._auto_1)(hd:autoParam (dB x) Q_)
 (hc:autoParam ((x==("__classdict__" : Str))=false) Q_):PD X E (.Name x pos) (av i):=Hq (pv i hN hv hd hc)
end
end L3
namespace L3
open PySem PySem.Spec PyProof.Rows L2
section
def BR:R->R->Res R:=oI (λi j=>decide (0<=j)&&decide (j<=1000)&&decide (i.natAbs<2000000)) λi j=>.int (i^j.toNat)
def BS:uc X E (binaryOp .Pow) BR:=rF _ _ GR (λi j h=>by simp only[jh,O2]at h;exact⟨h.1.1,by lia,Nat.lt_trans h.2 (by decide)⟩) λ_ _ _ _=>rfl
end
section
def yg(a b:Str):Prop:=0<b.length/\a.length<=100000/\(Txt.split a b).length<=100000/\(Builtin.Str.partsBetween a (Builtin.Str.occurrences a b 0 a.length (a.length+1)) b.length).length<=100000
instance (a b:Str):Decidable (yg a b):=by unfold yg;infer_instance
end
mutual
noncomputable def KtIs(K:QY):D->V->Prop
 |.str x,v=>v=.str x
 |.tup ds,v=>∃a vs,v=.ref a/\(∃p∈K,DD p.2=some (a,vs))/\KtAll K ds vs
 |_,_=>False
noncomputable def KtAll(K:QY):List D->List V->Prop
 |[],vs=>vs=[]
 |d::ds,vs=>∃v r,vs=v::r/\KtIs K d v/\KtAll K ds r
end
section
variable{K:QY}{H:Hp}{m:Addr->Prop}
mutual
theorem KtIs.is(kt:JW K H):∀{d:D}{v:V},KtIs K d v->Is H m d v
 |.str _,_,h=>h
 |.tup ds,_,h=>by obtain⟨a,vs,e,⟨p,hp,hk⟩,r⟩:=h;exact⟨a,vs,e,kt p hp a vs hk,KtAll.is kt r⟩
 |.bL,_,h=>h.elim
 |.bl _,_,h=>h.elim
 |.int _,_,h=>h.elim
 |.lst _,_,h=>h.elim
 |.nF _ _,_,h=>h.elim
theorem KtAll.is(kt:JW K H):∀{ds:List D}{vs:List V},KtAll K ds vs->IsAll H m ds vs
 |[],_,h=>h
 |d::ds,_,h=>by obtain⟨v,r,e,h1,h2⟩:=h;exact⟨v,r,e,KtIs.is kt h1,KtAll.is kt h2⟩
end
end
open Classical in
section
def uy{kvs:List (cJ×V)}(h:d_ kvs k=none):dn kvs k y=kvs++[(k,y)]:=by unfold dn;rw[jy,h,cF (by simp)]
end
section
open Classical in
end
noncomputable abbrev IP:=Int×Int
noncomputable def dp(l:List IP)(x:IP):List IP:=if x∈l then l else l++[x]
def h1(ts:List ML):List IP:=(ts.map λt=>(t.1,t.2.1)).foldl dp []
end L3
namespace L2
open PySem PySem.Spec PySem.Calls PyProof.Rows
section
def zF:CallR X (.builtin "len") (λxs H Q=>∃(d:Addr)(kvs:List (cJ×V))(u:HO),xs=[.ref d]/\(u=.dK kvs\/(u=.dT []/\kvs=[]))/\Rd H d u/\kvs.length<=sizeLine/\Q (.int kvs.length) H):=by
 intro aa s σ H xs us Q I r h;obtain⟨d,kvs,u,rfl,hu,hrd,hz,q⟩:=h;obtain⟨w,rfl,rx⟩:=gF r;cases rx;have hx:=hrd.ok I.aZ;have key:(d==sysModules)=false/\∃vs,KV kvs vs/\s.heap.DictOf (aJ X.prog X.w) d vs:=by
  rcases hu with rfl|⟨rfl,rfl⟩
  .obtain⟨z,hd,vs,rel,dd⟩:=hx;exact⟨hd,vs,rel,dd⟩
  .obtain⟨hd,dd⟩:=A4 hx;exact⟨hd,[],.nil,dd⟩
 obtain⟨hd,vs,rel,dd⟩:=key;refine call_len_dict hd dd (by rw[<- rel.length];rw[jY]at hz;lia) ?_;exact⟨.int kvs.length,H,I.tok _,⟨_,by rw[rel.length]⟩,q⟩
end
end L2
namespace L3
open PySem PySem.Spec PyProof.Rows L2
def EJ(N:Nat):List R->Res R
 |[r]=>match r.d with
  |.lst ds=>match gO ds with
   |some ks=>if decide (ks.length<=N)&&ks.all (λk=>!k.isEmpty)&&decide ks.Nodup then .ok (.new ((fy ks).map l7) true)else .stuck
   |none=>.stuck
  |_=>.stuck
 |_=>.stuck
def JP:List R->Res R:=EJ 63
section
def uT(hN:N<=300)(hso:lX X.prog X.w N):kE X E (.builtin "sorted") (EJ N):=by
 refine⟨_,qL hN hso,λg M ρ env σ H Q rs vs rep i p=>?_⟩;rcases rs with _|⟨r,_|_⟩
 .exact p.elim
 rotate_left
 .exact p.elim
 unfold EJ at p;dsimp only at p;split at p
 .rename_i ds q;cases qk:gO ds with
  |none=>rw[qk]at p;exact p.elim
  |some ks=>
   rw[qk]at p;dsimp only at p;split at p
   .rename_i hc;simp only[jh,O2,sk]at hc;obtain⟨⟨hl,hne⟩,nd⟩:=hc;obtain⟨v,w,rfl,i1,i2⟩:=i;cases i2;have i1:Is H (vmsk g M (cb [r]) ρ (c_ [r])) r.d v:=i1;rw[q]at i1;obtain⟨a,vs,rfl,h1,h2⟩:=i1.rd;obtain⟨its,t1,t2⟩:=h2.gO qk;have tat:=rM t1;refine⟨a,vs,its,rfl,h1,t1,by grind,λx hx z=>?_,by grind,λl ys hl hp hw=>?_⟩
    .have:x.1∈ks:=by rw[<- t2];exact d7.mpr ⟨x,hx,rfl⟩
     have:=hne _ this;rw[z]at this;simp at this
    .have ek:ys.map (·.1)=fy ks:=by refine lh _ _ (by grind) (om ks) λk=>?_;rw[hZ,<- t2,(hp.map (·.1)).mem_iff]
     rw[<- ek,kg]at p;exact p.new rep hl (jH (λx hx=>tat x (hp.mem_iff.mp hx)))
   .exact p.elim
 .exact p.elim
def bR(h:PE X o (aH i)):PD X E (.Subscript o (.Constant (.int k) j pos') pos) (dE i (vC (.int k))):=wL h az (λ_ _=>rfl)
def wR:kE X E (.builtin "sorted") JP:=uT (by decide) xU
end
def cw{K KK:QY}{mg:Str->Option Q0}{x:Str}{st:Stmt}{ps:List Str}{f:Addr}{oc:Q0}{od an:Option Addr}{osl:Array (Option Q0)}{kV doc pm cdv ct:Q0}(U:lG K KK)
 (l:K.lookup f=some ⟨oc,od,.func (fnOf x x (aF st) (aC st) (af st) .none kV doc pm an cdv ct),osl⟩) (c:codeIn K cdv x=true) (g:mg x=some (.ref f))
 (h:∀(kV doc pm:Q0)(an:Option Addr)(cdv ct:Q0)(us:List Q0),us.length=ps.length->bindArgs (fnOf x x (aF st) (aC st) (af st) .none kV doc pm an cdv ct) ⟨us,[]⟩=pure (ps.zip us)) :
 Fn KK mg x st ps f (fnOf x x (aF st) (aC st) (af st) .none kV doc pm an cdv ct):=
 have F:Al KK x x st f _:=mT (U.look _ _ l (λ_ _ z=>nomatch z)) (U.code c) (U.keep l)
 ⟨F,F.binds h,g⟩
section
def aT{st:Stmt}(G:bA X.prog X.w X.K X.mg X.base CX k f fd ps (lI X.mg ps.length F))(hr:dj k X.A)(hg:Gl X x)(h:Fn X.K X.mg x st ps f fd)(hx:fP CX X E)
 (ha:zn X E (e::es) fs) (hl:∀env rs,fs env=.ok rs->rs.length=ps.length) (hdb:autoParam (dB x) Q_) (he:autoParam (sE X e es) Rc) (hpl:autoParam (bT X pos es) Rc) :
 PD X E (.Call (.Name x p) (e::es) [] pos) (cc F fs):=Es G hr hg h.gl h.fu.kp h.bi hx ha hl hdb he hpl
end
def eI:List R->Res R
 |[r,q]=>match r.d,q.d with
  |.int i,.int j=>if 0<j/\j<1073741824 then .ok (lH (.tup [.int (i/j),.int (i%j)]) true [])else .stuck
  |_,_=>.stuck
 |_=>.stuck
section
def d4:kE X E (.builtin "divmod") eI:=by
 refine⟨_,ut,λg M ρ env σ H Q rs vs rep i p=>?_⟩;rcases rs with _|⟨r,_|⟨q,_|_⟩⟩
 .exact p.elim
 .exact p.elim
 rotate_left
 .exact p.elim
 obtain⟨v,_,rfl,i1,w,_,rfl,i2,e⟩:=i;cases e;unfold eI at p;dsimp only at p i1 i2;cases z1:r.d with
 |int a=>
  cases z2:q.d with
  |int b=>
   rw[z1,z2]at p;rw[z1]at i1;rw[z2]at i2;dsimp only at p;cases i1;cases i2;by_cases hc:0<b/\b<1073741824
   .rw[b_ hc]at p;exact⟨a,b,rfl,hc,λt ht=>p.tup rep ht ⟨_,_,rfl,rfl,_,_,rfl,rfl,rfl⟩⟩
   .rw[cF hc]at p;exact p.elim
  |_=>rw[z1,z2]at p;exact p.elim
 |_=>rw[z1]at p;exact p.elim
end
end L3
namespace Pz
section
variable{κ α:Type}[DecidableEq κ]
noncomputable abbrev MD(κ α:Type):=List (κ×List α)
def MD.get(d:MD κ α)(k:κ):List α:=((d.find? λx=>decide (x.1=k)).map (·.2)).getD []
def MD.has(d:MD κ α)(k:κ):Bool:=d.any λx=>decide (x.1=k)
def MD.app(d:MD κ α)(k:κ)(v:α):MD κ α:=if d.has k then d.map (λx=>if x.1=k then(x.1,x.2++[v])else x)else d++[(k,[v])]
def MD.drop(d:MD κ α)(k:κ):MD κ α:=d.filter λx=>decide (x.1≠k)
def MD.flat(d:MD κ α):List α:=d.flatMap (·.2)
abbrev MD.keys(d:MD κ α):List κ:=d.map (·.1)
structure MD.Ok(d:MD κ α):Prop where
 nk:d.keys.Nodup
 ne:∀x∈d,x.2≠[]
theorem eJ(x:κ×List α)(d:MD κ α)(k:κ):MD.get (x::d) k=if x.1=k then x.2 else MD.get d k:=by grind [MD.get]
def has_iff{d:MD κ α}{k:κ}:d.has k=true↔k∈d.keys:=by
 unfold MD.has
 grind
def BU{d:MD κ α}{k:κ}(h:k∉d.keys):d.get k=[]:=by
 induction d with
 |nil=>rfl
 |cons x r ih=>grind [eJ]
def EK{d:MD κ α}(nd:d.keys.Nodup){k:κ}{l:List α}(h:(k,l)∈d):d.get k=l:=by
 induction d with
 |nil=>cases h
 |cons x r ih=>grind [eJ]
def tq{d:MD κ α}{k:κ}{v:α}(h:v∈d.get k):(k,d.get k)∈d:=by
 induction d with
 |nil=>cases h
 |cons x r ih=>grind [eJ]
def tz{d:MD κ α}{k:κ}{v:α}(h:k∉d.keys):d.map (λx=>if x.1=k then(x.1,x.2++[v])else x)=d:=by induction d<;>grind
def BV(d:MD κ α)(k:κ)(v:α):(d.app k v).keys=if k∈d.keys then d.keys else d.keys++[k]:=by
 unfold MD.app;by_cases h:k∈d.keys
 .rw[b_ (has_iff.mpr h),b_ h];unfold MD.keys;rw[kg];exact vV λx _=>by grind
 .rw[cF (λq=>h (has_iff.mp q)),cF h];unfold MD.keys;rw[Do];rfl
def pN{d:MD κ α}(O:d.Ok)(k:κ)(v:α):(d.app k v).Ok:=by
 constructor
 .rw[BV];split
  .exact O.nk
  .rename_i h;exact Pb.mpr ⟨O.nk,by simp,λa ha b hb e=>by grind⟩
 .intro x hx;unfold MD.app at hx;split at hx
  .obtain⟨y,hy,rfl⟩:=d7.mp hx;split
   .simp
   .exact O.ne y hy
  .rcases fD.mp hx with h|h
   .exact O.ne x h
   .rw[ip]at h;subst h;simp
def n4{d:MD κ α}{k:κ}{l:List α}(h:k∉d.keys):MD.get (d++[(k,l)]) k=l:=by
 grind [MD.get]
def qP{d:MD κ α}{k k':κ}{l:List α}(h:k≠k'):MD.get (d++[(k,l)]) k'=d.get k':=by
 grind [MD.get]
def tD{d:MD κ α}{k:κ}{v:α}(h:k∈d.keys):MD.get (d.map (λx=>if x.1=k then(x.1,x.2++[v])else x)) k=d.get k++[v]:=by
 induction d with
 |nil=>cases h
 |cons x r ih=>
  rw[dz,eJ,eJ];by_cases e:x.1=k
  .rw[b_ e,b_ (show x.1=k from e),b_ e]
  .rw[cF e,cF e,cF e];rcases cC.mp h with q|q
   .exact(e q.symm).elim
   .exact ih q
def wU{d:MD κ α}{k k':κ}{v:α}(h:k≠k'):MD.get (d.map (λx=>if x.1=k then(x.1,x.2++[v])else x)) k'=d.get k':=by
 induction d with
 |nil=>rfl
 |cons x r ih=>grind [eJ]
theorem tE(d:MD κ α)(k:κ)(v:α)(k':κ):(d.app k v).get k'=if k=k' then d.get k++[v]else d.get k':=by
 unfold MD.app;by_cases h:k∈d.keys
 .rw[b_ (has_iff.mpr h)];by_cases e:k=k'
  .subst e;rw[b_ rfl,tD h]
  .rw[cF e,wU e]
 .rw[cF (λq=>h (has_iff.mp q))];by_cases e:k=k'
  .subst e;rw[b_ rfl,n4 h,BU h];rfl
  .rw[cF e,qP e]
def gs{d:MD κ α}(nd:d.keys.Nodup)(k:κ)(v:α):(d.app k v).flat.Perm (v::d.flat):=by
 unfold MD.app;by_cases h:k∈d.keys
 .rw[b_ (has_iff.mpr h)];induction d with
  |nil=>cases h
  |cons x r ih=>
   have nd':=j5.mp nd;unfold MD.flat at ih ⊢;rw[dz,PL,PL];by_cases e:x.1=k
   .subst e;rw[b_ rfl,tz nd'.1];show((x.2++[v])++_).Perm _;rw[Pe];exact QS
   .rw[cF e];rcases cC.mp h with q|q
    .exact(e q.symm).elim
    .exact((O0 _).append (ih nd'.2 q)).trans QS
 .rw[cF (λq=>h (has_iff.mp q))];unfold MD.flat;rw[List.flatMap_append];show(_++([v]++[])).Perm _;rw[Jv];exact List.perm_append_singleton _ _
def zG(d:MD κ α)(k:κ):(d.drop k).keys=d.keys.filter λx=>decide (x≠k):=by unfold MD.drop MD.keys;rw[List.filter_map];rfl
def yh{d:MD κ α}(O:d.Ok)(k:κ):(d.drop k).Ok:=⟨by rw[zG];exact List.Pairwise.filter _ O.nk,λx hx=>O.ne x (vP.mp hx).1⟩
theorem zH{d:MD κ α}{k:κ}(h:k∉d.keys):d.drop k=d:=by induction d<;>grind [MD.drop]
def m6{d:MD κ α}(nd:d.keys.Nodup)(k:κ):d.flat.Perm (d.get k++(d.drop k).flat):=by
 induction d with
 |nil=>exact O0 _
 |cons x r ih=>
  have nd':=j5.mp nd;rw[eJ];by_cases e:x.1=k
  .subst e;rw[b_ rfl];have:MD.drop (x::r) x.1=r:=by grind [MD.drop,zH]
   rw[this];exact O0 _
  .rw[cF e];have:MD.drop (x::r) k=x::MD.drop r k:=by grind [MD.drop]
   rw[this];unfold MD.flat at ih ⊢;rw[PL,PL];refine((O0 _).append (ih nd'.2)).trans ?_;rw[<- Pe,<- Pe];exact List.perm_append_comm.append_right _
def mem_flat{d:MD κ α}{v:α}:v∈d.flat↔∃x∈d,v∈x.2:=List.mem_flatMap
def l_(d:MD κ α){k:κ}{v:α}(h:v∈d.get k):v∈d.flat:=mem_flat.mpr ⟨_,tq h,h⟩
def oq(d:MD κ α)(k:κ):(d.get k).length<=d.flat.length:=by
 induction d with
 |nil=>exact bK _
 |cons x r ih=>grind [eJ,MD.flat]
def iN{d:MD κ α}(O:d.Ok):d.length<=d.flat.length:=by
 have:∀d:MD κ α,(∀x∈d,x.2≠[])->d.length<=d.flat.length:=by
  intro d;induction d with
  |nil=>intro _;exact bK _
  |cons x r ih=>
   intro h;have h1:=ih λy hy=>h y (cg _ hy);have h2:0<x.2.length:=QB.mpr (h x cE);unfold MD.flat at h1 ⊢
   grind
 exact this d O.ne
end
end Pz
namespace Pz
noncomputable def lo:List Int->Int
 |[]=>0
 |x::r=>r.foldl (λa b=>if b<a then b else a) x
theorem wV:∀(r:List Int)(x:Int),r.foldl (λa b=>if b<a then b else a) x∈x::r/\∀y∈x::r,r.foldl (λa b=>if b<a then b else a) x<=y
 |[],x=>by grind
 |z::r,x=>by
  obtain⟨h1,h2⟩:=wV r (if z<x then z else x);rw[Ph];constructor
  .grind
  .intro y hy;have h3:=h2 _ cE
   grind
def BW(h:l≠[]):lo l∈l:=by
 cases l with
 |nil=>exact(h rfl).elim
 |cons x r=>exact(wV r x).1
def BX(h:y∈l):lo l<=y:=by
 cases l with
 |nil=>cases h
 |cons x r=>exact(wV r x).2 y h
structure t5(pile:Int->Int->Int):Prop where
 nn:∀{p l:Int},0<=p->0<=l->0<=pile p l
 ch:∀{p l:Int},0<=p->0<=l->∀k:Nat,pile p l<=k↔p/2^k=l/2^k
section
variable(P:t5 pile)
include P
def t5.zero(hp:0<=p)(hl:0<=l):pile p l=0↔p=l:=by
 have h1:=P.nn hp hl;have h2:=P.ch hp hl 0
 grind
def t5.lt(hl:0<=l)(hp:l<=p)(hr:l<=r)(h:pile p l<pile r l):p<r:=by
 have p0:0<=p:=Pl hl hp;have r0:0<=r:=Pl hl hr;obtain⟨k,hk⟩:=Dt (P.nn p0 hl);have e1:=(P.ch p0 hl k).mp (by lia);have e2:¬r/2^k=l/2^k:=λe=>by have:=(P.ch r0 hl k).mpr e;lia
 have pos:(0:Int)<2^k:=Int.pow_pos (by decide);have e3:=Int.ediv_le_ediv pos hr;refine Int.not_le.mp λhc=>?_;have e4:=Int.ediv_le_ediv pos hc;lia
def t5.same(hl:0<=l)(hm:l<=m)(hr:l<=r)(h:pile m l<pile r l):pile r m=pile r l:=by
 have m0:0<=m:=Pl hl hm;have r0:0<=r:=Pl hl hr;have key:∀j:Nat,pile r m<=j↔pile r l<=j:=by
  intro j;rw[P.ch r0 m0,P.ch r0 hl];by_cases hj:pile m l<=j
  .rw[(P.ch m0 hl j).mp hj]
  .have hd:∀{a b:Int}{i:Nat},a/2^j=b/2^j->a/2^(j+i)=b/2^(j+i):=by intro a b i e;rw[Int.pow_add,<- Int.ediv_ediv_of_nonneg (Ql (Int.pow_pos (by decide))),<- Int.ediv_ediv_of_nonneg (Ql (Int.pow_pos (by decide))),e]
   obtain⟨k,hk⟩:=Dt (P.nn m0 hl);obtain⟨i,rfl⟩ : ∃i,k=j+i:=⟨k-j,by lia⟩;constructor<;>intro e<;>exfalso
   .have e1:=hd (i:=i) e;rw[(P.ch m0 hl (j+i)).mp (by lia)]at e1;have:=(P.ch r0 hl (j+i)).mpr e1;lia
   .have:=(P.ch r0 hl j).mpr e;lia
 obtain⟨a,ha⟩:=Dt (P.nn r0 m0);obtain⟨b,hb⟩:=Dt (P.nn r0 hl);have h1:=key a;have h2:=key b;lia
end
section
variable{α:Type}
abbrev Q(α:Type):=MD Int (Int×α)
structure vY(pile:Int->Int->Int) (last:Int) (d:Q α):Prop where
 ok:d.Ok
 l0:0<=last
 at_:∀x∈d,∀y∈x.2,x.1=pile y.1 last/\last<=y.1
def vY.add(h:vY pile last d)(a:α)(hp:last<=p):vY pile last (d.app (pile p last) (p,a)):=by
 refine⟨pN h.ok _ _,h.l0,λx hx y hy=>?_⟩;unfold MD.app at hx;split at hx
 .obtain⟨z,hz,rfl⟩:=d7.mp hx;by_cases e:z.1=pile p last
  .rw[b_ e]at hy ⊢;rcases fD.mp hy with hy|hy
   .exact h.at_ z hz y hy
   .rw[ip]at hy;subst hy;exact⟨e,hp⟩
  .rw[cF e]at hy ⊢;exact h.at_ z hz y hy
 .rcases fD.mp hx with hx|hx
  .exact h.at_ x hx y hy
  .grind
def dF(pile:Int->Int->Int)(last:Int)(d:Q α)(l:List (Int×α)):Q α:=l.foldl (λd x=>d.app (pile x.1 last) x) d
theorem vY.dF:∀{l:List (Int×α)}{d:Q α},vY pile last d->(∀x∈l,last<=x.1)->vY pile last (dF pile last d l)
 |[],d,h,_=>h
 |x::l,d,h,hl=>vY.dF (l:=l) (h.add x.2 (hl x cE)) λy hy=>hl y (cg _ hy)
theorem jI:∀{l:List (Int×α)}{d:Q α},d.Ok->(dF pile last d l).flat.Perm (l++d.flat)
 |[],d,h=>O0 _
 |x::l,d,h=>(jI (l:=l) (pN h _ _)).trans (((O0 _).append (gs h.nk _ _)).trans QS)
def cu(d:Q α):Int:=lo d.keys
def lowP(d:Q α):Int:=lo ((d.get (cu d)).map (·.1))
def mid(pile:Int->Int->Int)(d:Q α):Q α:=dF pile (lowP d) (d.drop (cu d)) (d.get (cu d))
def eL(pile:Int->Int->Int)(d:Q α):List (Int×α):=(mid pile d).get 0
def left(pile:Int->Int->Int)(d:Q α):Q α:=(mid pile d).drop 0
structure JH(pile:Int->Int->Int) (last:Int) (d:Q α):Prop where
 ge:last<=lowP d
 ok:vY pile (lowP d) (left pile d)
 eq:∀x∈eL pile d,x.1=lowP d
 lt:∀x∈(left pile d).flat,lowP d<x.1
 pm:d.flat.Perm (eL pile d++(left pile d).flat)
 ne:eL pile d≠[]
 k1:cu d∈d.keys
 k2:d.get (cu d)≠[]
 k3:0∈(mid pile d).keys
 o1:vY pile (lowP d) (d.drop (cu d))
def zI(P:t5 pile)(h:vY pile last d)(hne:d≠[]):JH pile last d:=by
 have k1:cu d∈d.keys:=BW (by simpa[MD.keys]using hne);obtain⟨x0,hx0,ex0⟩:=d7.mp k1;have g0:d.get (cu d)=x0.2:=EK h.ok.nk (by grind);have k2:d.get (cu d)≠[]:=by rw[g0];exact h.ok.ne x0 hx0
 have hm:lowP d∈(d.get (cu d)).map (·.1):=BW (by simpa using k2);obtain⟨y0,hy0,ey0⟩:=d7.mp hm;have dk:∀y∈d.get (cu d),cu d=pile y.1 last/\last<=y.1:=λy hy=>by rw[g0]at hy;have:=h.at_ x0 hx0 y hy;rw[ex0]at this;exact this
 have hl:last<=lowP d:=by grind
 have l0:0<=lowP d:=Pl h.l0 hl;have kP:pile (lowP d) last=cu d:=by grind
 have minP:∀y∈d.get (cu d),lowP d<=y.1:=λy hy=>BX (d7.mpr ⟨y,hy,rfl⟩);have oth:∀x∈d.drop (cu d),∀y∈x.2,x.1=pile y.1 (lowP d)/\lowP d<y.1:=λx hx y hy=>by
  obtain⟨hx,hn⟩:=vP.mp hx;have hn:x.1≠cu d:=t7 hn;have hle:cu d<=x.1:=BX (d7.mpr ⟨x,hx,rfl⟩);obtain⟨e1,e2⟩:=h.at_ x hx y hy;have hlt:pile (lowP d) last<pile y.1 last:=by grind
  exact⟨e1.trans (P.same h.l0 hl e2 hlt).symm,P.lt h.l0 hl e2 hlt⟩
 have o1:vY pile (lowP d) (d.drop (cu d)):=⟨yh h.ok _,l0,λx hx y hy=>⟨(oth x hx y hy).1,Ql (oth x hx y hy).2⟩⟩;have o2:vY pile (lowP d) (mid pile d):=o1.dF minP;have pm1:d.flat.Perm (mid pile d).flat:=(m6 h.ok.nk _).trans (jI o1.ok).symm;have pm2:(mid pile d).flat.Perm (eL pile d++(left pile d).flat):=m6 o2.ok.nk 0;have eq:∀x∈eL pile d,x.1=lowP d:=λx hx=>by have:=o2.at_ _ (tq hx) x hx;exact(P.zero (Pl l0 this.2) l0).mp this.1.symm
 have lt:∀x∈(left pile d).flat,lowP d<x.1:=λx hx=>by obtain⟨y,hy,hx⟩:=mem_flat.mp hx;obtain⟨hy,hn⟩:=vP.mp hy;have hn:y.1≠0:=t7 hn;obtain⟨e1,e2⟩:=o2.at_ y hy x hx;have:¬x.1=lowP d:=λe=>hn (e1.trans ((P.zero (Pl l0 e2) l0).mpr e));lia
 have yin:y0∈eL pile d:=by
  have h1:y0∈d.flat:=l_ d hy0
  grind
 exact⟨hl,⟨yh o2.ok _,l0,λx hx=>o2.at_ x (vP.mp hx).1⟩,eq,lt,pm1.trans pm2,(λe=>by grind),k1,k2,d7.mpr ⟨_,tq yin,rfl⟩,o1⟩
end
end Pz
namespace Pz
noncomputable abbrev bz:=Int×Int×Int
noncomputable abbrev aV:=Int×Int×Int×List Int
noncomputable abbrev Ar:=Int×Option Int×Option Int
abbrev TD:=List (bz×Ar)
noncomputable def bH(t:TD)(a:bz):Option Ar:=(t.find? λx=>decide (x.1=a)).map (·.2)
def tput(t:TD)(a:bz)(v:Ar):TD:=if(bH t a).isSome then t.map (λx=>if x.1=a then(x.1,v)else x)else t++[(a,v)]
structure PS where
 told:TD
 last:Int
 aA:Q bz
 settled:MD (Int×Int) (Int×Int)
 aE:MD (Int×Int) (Int×aV×Int)
abbrev RS:=MD (Int×Int) (Int×aV)
section
variable(pile:Int->Int->Int)(rs:RS)
def h8(S:PS)(a:bz)(p:Int):Bool:=match bH S.told a with
 |none=>true
 |some v=>decide (p<v.1)
def jJ(S:PS)(a:bz)(p:Int)(n m:Option Int):PS:={S with told:=tput S.told a (p,n,m),aA:=S.aA.app (pile p S.last) (p,a)}
def bb(S:PS)(a:bz)(p:Int)(n m:Option Int):PS:=if h8 S a p then jJ pile S a p n m else S
noncomputable def nth1(l:List Int):Int:=l[1]?.getD 0
def tF(S:PS)(num:Int)(r:aV)(mid price:Int):PS:={S with aE:=S.aE.app (mid,nth1 r.2.2.2) (num,r,price)}
def first(S:PS)(num:Int)(r:aV)(mid price:Int):PS:=(S.settled.get (mid,nth1 r.2.2.2)).foldl (λS x=>bb pile S (r.1,r.2.1,x.1) (price+x.2+1) (some num) (some mid)) (tF S num r mid price)
def note(S:PS)(a:bz)(price:Int):PS:={S with settled:=S.settled.app (a.1,a.2.1) (a.2.2,price)}
def nO(a:bz)(price:Int)(S:PS)(x:Int×aV×Int):PS:=bb pile S (x.2.1.1,x.2.1.2.1,a.2.2) (x.2.2+price+1) (some x.1) (some a.1)
def cY(a:bz)(price:Int)(S:PS)(x:Int×aV):PS:=if x.2.2.2.2.length=1 then bb pile S (x.2.1,x.2.2.1,a.2.2) (price+1) (some x.1) none else first pile S x.1 x.2 a.2.2 price
def settle(S:PS)(a:bz)(price:Int):PS:=(rs.get (a.1,a.2.1)).foldl (cY pile a price) ((S.aE.get (a.1,a.2.1)).foldl (nO pile a price) (note S a price))
def JQ(S:PS)(x:Int×bz):Bool:=match bH S.told x.2 with
 |none=>false
 |some v=>decide (v.1=x.1)
def turn(S:PS)(x:Int×bz):PS:=if JQ S x then settle pile rs S x.2 x.1 else S
def batch(S:PS)(l:List (Int×bz)):PS:=l.foldl (turn pile rs) S
def take(S:PS):PS:={S with last:=lowP S.aA,aA:=left pile S.aA}
end
noncomputable def L:Nat:=16000000
structure kX(S:PS):Prop where
 t:S.told.length<L
 p:S.aA.length<L
 pf:S.aA.flat.length<L
 s:S.settled.length<L
 sf:S.settled.flat.length<L
 l:S.aE.length<L
 lf:S.aE.flat.length<L
inductive Loop(pile:Int->Int->Int) (rs:RS):Nat->PS->PS->Prop where
 |done {S:PS}:S.aA=[]->Loop pile rs 0 S S
 |step {n:Nat} {S T:PS}:S.aA≠[]->vY pile S.last S.aA->(∀x∈eL pile S.aA,bH S.told x.2≠none)->kX S->kX (batch pile rs (take pile S) (eL pile S.aA))->
  Loop pile rs n (batch pile rs (take pile S) (eL pile S.aA)) T->Loop pile rs (n+1) S T
theorem d5(x:bz×Ar)(t:TD)(a:bz):bH (x::t) a=if x.1=a then some x.2 else bH t a:=by grind [bH]
def tget_none:bH t a=none↔a∉t.map (·.1):=by
 induction t with
 |nil=>simp[bH]
 |cons x r ih=>grind [d5]
def uU(h:bH t a=some v):(a,v)∈t:=by
 induction t with
 |nil=>cases h
 |cons x r ih=>grind [d5]
def uV(nd:(t.map (·.1)).Nodup)(h:(a,v)∈t):bH t a=some v:=by
 induction t with
 |nil=>cases h
 |cons x r ih=>grind [d5]
def zJ(t:TD)(a:bz)(v:Ar):(tput t a v).map (·.1)=if a∈t.map (·.1)then t.map (·.1)else t.map (·.1)++[a]:=by
 unfold tput;cases h:bH t a with
 |none=>rw[cF (by simp),cF (tget_none.mp h),Do];rfl
 |some w=>have:a∈t.map (·.1):=d7.mpr ⟨_,uU h,rfl⟩;rw[b_ (by simp),b_ this,kg];exact vV λx _=>by grind
def EL(h:(t.map (·.1)).Nodup)(a:bz)(v:Ar):((tput t a v).map (·.1)).Nodup:=by
 rw[zJ];split
 .exact h
 .rename_i q;exact Pb.mpr ⟨h,by simp,λx hx b hb e=>by rw[ip]at hb;subst hb;subst e;exact q hx⟩
def uW(t:TD)(a:bz)(v:Ar):t.length<=(tput t a v).length/\(tput t a v).length<=t.length+1:=by
 unfold tput;split
 .rw[cG];lia
 .rw[gV];simp
def h_(t:TD)(a:bz)(v:Ar)(b:bz):bH (tput t a v) b=if a=b then some v else bH t b:=by
 unfold tput;cases h:bH t a with
 |none=>
  rw[cF (by simp)];have hn:=tget_none.mp h;clear h;induction t with
  |nil=>rw[List.nil_append,d5]
  |cons x r ih=>grind [d5]
 |some w=>
  rw[b_ (by simp)];have hm:a∈t.map (·.1):=d7.mpr ⟨_,uU h,rfl⟩;clear h;by_cases e:a=b
  .subst e;rw[b_ rfl];induction t with
   |nil=>cases hm
   |cons x r ih=>grind [d5]
  .rw[cF e];clear hm;induction t with
   |nil=>rfl
   |cons x r ih=>grind [d5]
structure gb(S T:PS):Prop where
 t:S.told.length<=T.told.length
 p:S.aA.length<=T.aA.length
 pf:S.aA.flat.length<=T.aA.flat.length
 s:S.settled.length<=T.settled.length
 sf:S.settled.flat.length<=T.settled.flat.length
 l:S.aE.length<=T.aE.length
 lf:S.aE.flat.length<=T.aE.flat.length
def gb.refl(S:PS):gb S S:=by
 grind [PS,gb]
def gb.trans(a:gb S T)(b:gb T U):gb S U:=⟨gC a.t b.t,gC a.p b.p,gC a.pf b.pf,gC a.s b.s,gC a.sf b.sf,gC a.l b.l,gC a.lf b.lf⟩
def gb.fit(a:gb S T)(h:kX T):kX S:=⟨nT a.t h.t,nT a.p h.p,nT a.pf h.pf,nT a.s h.s,nT a.sf h.sf,nT a.l h.l,nT a.lf h.lf⟩
def f7{κ α:Type}[DecidableEq κ](d:MD κ α)(k:κ)(v:α):d.length<=(d.app k v).length/\d.flat.length<=(d.app k v).flat.length:=by
 unfold MD.app;split
 .rw[cG];refine⟨bK _,?_⟩;unfold MD.flat;rw[List.length_flatMap,List.length_flatMap,kg];induction d with
  |nil=>exact bK _
  |cons x r ih=>
   rename_i h;clear h;rw[dz,dz,QQ,QQ];refine Nat.add_le_add ?_ ?_
   .simp only[Function.comp];split<;>simp
   .clear ih;induction r with
    |nil=>exact bK _
    |cons y r ih=>rw[dz,dz,QQ,QQ];exact Nat.add_le_add (by simp only[Function.comp];split<;>simp) ih
 .rw[gV];unfold MD.flat;rw[List.flatMap_append,gV];lia
theorem cH{β:Type}(f:PS->β->PS)(h:∀S x,gb S (f S x)):∀(l:List β)(S:PS),gb S (l.foldl f S)
 |[],S=>.refl S
 |x::l,S=>(h S x).trans (cH f h l _)
def cq(S:PS)(a:bz)(p:Int)(n m:Option Int):gb S (bb pile S a p n m):=by
 unfold bb;split
 .exact⟨(uW _ _ _).1,(f7 _ _ _).1,(f7 _ _ _).2,bK _,bK _,bK _,bK _⟩
 .exact .refl S
def wW(S:PS)(num:Int)(r:aV)(mid price:Int):gb S (first pile S num r mid price):=gb.trans (T:=tF S num r mid price) ⟨bK _,bK _,bK _,bK _,bK _,(f7 _ _ _).1,(f7 _ _ _).2⟩ (cH _ (λS x=>cq S _ _ _ _) _ _)
def li(a:bz)(price:Int)(S:PS)(x:Int×aV):gb S (cY pile a price S x):=by
 unfold cY;split
 .exact cq _ _ _ _ _
 .exact wW _ _ _ _ _
def uX(S:PS)(a:bz)(price:Int):gb S (settle pile rs S a price):=(gb.trans (S:=S) (T:=note S a price) ⟨bK _,bK _,bK _,(f7 _ _ _).1,(f7 _ _ _).2,bK _,bK _⟩ (cH (nO pile a price) (λS x=>cq S _ _ _ _) _ _)).trans (cH _ (li a price) _ _)
def zK(S:PS)(x:Int×bz):gb S (turn pile rs S x):=by
 unfold turn;split
 .exact uX _ _ _
 .exact .refl S
theorem jK{β:Type}(f:PS->β->PS){a:bz}(h:∀S x,bH S.told a≠none->bH (f S x).told a≠none):∀(l:List β)(S:PS),bH S.told a≠none->bH (l.foldl f S).told a≠none
 |[],S,k=>k
 |x::l,S,k=>jK f h l _ (h S x k)
def pO(h:bH S.told b≠none):bH (bb pile S a p n m).told b≠none:=by
 unfold bb;split
 .show bH (tput _ _ _) _≠none;rw[h_];split
  .simp
  .exact h
 .exact h
def BY(h:bH S.told b≠none):bH (cY pile a p S x).told b≠none:=by
 unfold cY;split
 .exact pO h
 .exact jK _ (λS x k=>pO k) _ _ (show bH (tF S _ _ _ _).told b≠none from h)
def EM(h:bH S.told b≠none):bH (turn pile rs S x).told b≠none:=by
 unfold turn;split
 .exact jK _ (λS x k=>BY k) _ _ (jK (nO pile _ _) (λS x k=>pO k) _ _ (show bH (note S _ _).told b≠none from h))
 .exact h
end Pz
namespace Pz
def Sd(S:PS)(a:bz)(q:Int):Prop:=(a.2.2,q)∈S.settled.get (a.1,a.2.1)
def kG(S:PS)(a:bz)(p:Int):Prop:=∃v,bH S.told a=some v/\v.1<=p
def JustP(sd:bz->Int->Prop)(c:Int)(put:List Int)(t p:Int)(m:Option Int):Prop:=match put with
 |[]=>m=none/\p=1/\t=c
 |[x]=>m=none/\∃q,sd (c,x,t) q/\p=q+1
 |[x,y]=>∃d q1 q2,m=some d/\sd (c,x,d) q1/\sd (d,y,t) q2/\p=q1+q2+1
 |_=>False
def JustP.mono(h:∀a q,sd a q->sd' a q)(j:JustP sd c put t p m):JustP sd' c put t p m:=by
 match put,j with
 |[],j=>exact j
 |[x],⟨e,q,s,e2⟩=>exact⟨e,q,h _ _ s,e2⟩
 |[x,y],⟨d,q1,q2,e,s1,s2,e2⟩=>exact⟨d,q1,q2,e,h _ _ s1,h _ _ s2,e2⟩
section
variable(RL:List aV)(M:List bz)
def Just(sd:bz->Int->Prop)(a:bz)(v:Ar):Prop:=match v.2.1 with
 |none=>v.2.2=none/\v.1=0/\a∈M
 |some i=>∃(j:Nat)(r:aV),i=j/\RL[j]?=some r/\a.1=r.1/\a.2.1=r.2.1/\JustP sd r.2.2.1 r.2.2.2 a.2.2 v.1 v.2.2
theorem Just.mono(h:∀a q,sd a q->sd' a q)(j:Just RL M sd a v):Just RL M sd' a v:=by
 obtain⟨p,n,m⟩:=v;cases n with
 |none=>exact j
 |some i=>obtain⟨k,r,e1,e2,e3,e4,j⟩:=j;exact⟨k,r,e1,e2,e3,e4,j.mono h⟩
structure B(pile:Int->Int->Int) (U:List bz) (S:PS) (rest:List (Int×bz)):Prop where
 q:vY pile S.last S.aA
 nd:S.aA.flat.Nodup
 nr:rest.Nodup
 tk:(S.told.map (·.1)).Nodup
 tu:∀a v,bH S.told a=some v->a∈U
 ju:∀a v,bH S.told a=some v->Just RL M (Sd S) a v
 ps:∀a v,bH S.told a=some v->0<=v.1
 sd:∀a p,Sd S a p->p<=S.last/\∃v,bH S.told a=some v/\v.1=p
 sp:∀a v,bH S.told a=some v->Sd S a v.1\/(v.1,a)∈S.aA.flat\/(v.1,a)∈rest
 it:∀p a,(p,a)∈S.aA.flat\/(p,a)∈rest->kG S a p
 ns:∀p a,(p,a)∈S.aA.flat\/(p,a)∈rest->¬Sd S a p
 m0:∀a v,bH S.told a=some v->a∈M->v=(0,none,none)
end
def uY(h:¬h8 S a p=true):kG S a p:=by
 grind [h8,kG]
def gu(h:h8 S a p=true)(e:bH S.told a=some v):p<v.1:=by unfold h8 at h;rw[e]at h;exact t7 h
def j8(a:bz)(p:Int)(n m:Option Int):kG (bb pile S a p n m) a p:=by
 unfold bb;by_cases h:h8 S a p=true
 .rw[b_ h];exact⟨(p,n,m),by show bH (tput _ _ _) _=_;rw[h_,b_ rfl],Int.le_refl _⟩
 .rw[cF h];exact uY h
def iO(h:kG S b q):kG (bb pile S a p n m) b q:=by
 unfold bb;by_cases k:h8 S a p=true
 .rw[b_ k];obtain⟨v,e,hv⟩:=h;by_cases e2:a=b
  .subst e2;exact⟨(p,n,m),by show bH (tput _ _ _) _=_;rw[h_,b_ rfl],Ql (Int.lt_of_lt_of_le (gu k e) hv)⟩
  .exact⟨v,by show bH (tput _ _ _) _=_;rw[h_,cF e2];exact e,hv⟩
 .rw[cF k];exact h
def iP(a:bz)(p:Int)(n m:Option Int):(bb pile S a p n m).settled=S.settled/\(bb pile S a p n m).aE=S.aE/\(bb pile S a p n m).last=S.last:=by unfold bb;split<;>exact⟨rfl,rfl,rfl⟩
def wY(h:S.aA.Ok)(a:bz)(p:Int)(n m:Option Int)(hx:x∈(bb pile S a p n m).aA.flat):x∈S.aA.flat\/x=(p,a):=by
 unfold bb at hx;split at hx
 .rcases cC.mp ((gs h.nk _ _).mem_iff.mp hx)with e|e
  .exact .inr e
  .exact .inl e
 .exact .inl hx
def rN(h:S.aA.Ok)(a:bz)(p:Int)(n m:Option Int):(bb pile S a p n m).aA.flat.length<=S.aA.flat.length+1:=by
 unfold bb;split
 .exact QF (gs h.nk _ _).length_eq
 .lia
theorem B.bb(b:B RL M pile U S rest)(hj:Just RL M (Sd S) a (p,n,m))(hu:a∈U)(hp:S.last<=p)(hr:(p,a)∉rest)(hs:¬Sd S a p)
 (hm:a∈M->kG S a 0\/(p,n,m)=(0,none,none)):B RL M pile U (bb pile S a p n m) rest:=by
 unfold Pz.bb;by_cases k:h8 S a p=true
 .rw[b_ k];have hS:∀c q,Sd (jJ pile S a p n m) c q↔Sd S c q:=λc q=>Iff.rfl;have tg:∀c,bH (jJ pile S a p n m).told c=if a=c then some (p,n,m)else bH S.told c:=λc=>h_ _ _ _ _;have pf:=gs b.q.ok.nk (pile p S.last) (p,a);have p0:0<=p:=Pl b.q.l0 hp;have fl:∀x,x∈(jJ pile S a p n m).aA.flat↔x=(p,a)\/x∈S.aA.flat:=λx=>by show x∈(S.aA.app (pile p S.last) (p,a)).flat↔_;rw[pf.mem_iff,cC]
  refine⟨b.q.add a hp,?_,b.nr,EL b.tk _ _,λc v e=>?_,λc v e=>?_,λc v e=>?_,λc q h=>?_,λc v e=>?_,λq c h=>?_,λq c h=>?_,λc v e hc=>?_⟩
  .refine pf.nodup_iff.mpr (j5.mpr ⟨λh=>?_,b.nd⟩);obtain⟨v,e,hv⟩:=b.it p a (.inl h);have:=gu k e;lia
  .rw[tg]at e;by_cases z:a=c
   .rw[<- z];exact hu
   .rw[cF z]at e;exact b.tu c v e
  .rw[tg]at e;by_cases z:a=c
   .rw[b_ z]at e;cases e;rw[<- z];exact hj
   .rw[cF z]at e;exact b.ju c v e
  .rw[tg]at e;by_cases z:a=c
   .rw[b_ z]at e;cases e;exact p0
   .rw[cF z]at e;exact b.ps c v e
  .obtain⟨h1,v,e,hv⟩:=b.sd c q h;refine⟨h1,v,?_,hv⟩;rw[tg,cF (λz=>?_)]
   .exact e
   .subst z;have:=gu k e;lia
  .rw[tg]at e;by_cases z:a=c
   .rw[b_ z]at e;cases e;subst z;exact .inr (.inl ((fl _).mpr (.inl rfl)))
   .rw[cF z]at e;rcases b.sp c v e with h|h|h
    .exact .inl h
    .exact .inr (.inl ((fl _).mpr (.inr h)))
    .exact .inr (.inr h)
  .have:(q,c)=(p,a)\/(q,c)∈S.aA.flat\/(q,c)∈rest:=by
    rcases h with h|h
    .rcases (fl _).mp h with h|h
     .exact .inl h
     .exact .inr (.inl h)
    .exact .inr (.inr h)
   rcases this with h|h
   .cases h;exact⟨(p,n,m),by grind,Int.le_refl _⟩
   .obtain⟨v,e,hv⟩:=b.it q c h;by_cases z:a=c
    .subst z;exact⟨(p,n,m),by grind,Ql (Int.lt_of_lt_of_le (gu k e) hv)⟩
    .exact⟨v,by grind,hv⟩
  .rcases h with h|h
   .rcases (fl _).mp h with h|h
    .cases h;exact hs
    .exact b.ns q c (.inl h)
   .exact b.ns q c (.inr h)
  .rw[tg]at e;by_cases z:a=c
   .rw[b_ z]at e;cases e;subst z;rcases hm hc with⟨v,e,hv⟩|h
    .have:=gu k e;lia
    .exact h
   .rw[cF z]at e;exact b.m0 c v e hc
 .rw[cF k];exact b
end Pz
namespace Pz
section
variable(RL:List aV)(M U:List bz)(pile:Int->Int->Int)
structure BG(S:PS) (rest:List (Int×bz)):Prop where
 b:B RL M pile U S rest
 gt:∀x∈S.aA.flat,S.last<x.1
 eq:∀x∈rest,x.1=S.last
 mh:∀a∈M,kG S a 0
structure Ext(S T:PS) (rest:List (Int×bz)) (k:Nat):Prop where
 bg:BG RL M U pile T rest
 mono:∀a p,kG S a p->kG T a p
 se:T.settled=S.settled
 la:T.last=S.last
 len:T.aA.flat.length<=S.aA.flat.length+k
end
def rO(h:T.settled=S.settled):Sd T=Sd S:=by unfold Sd;rw[h]
theorem Ext.trans(x:Ext RL M U pile S T rest k)(y:Ext RL M U pile T V rest l):Ext RL M U pile S V rest (k+l):=⟨y.bg,λa p h=>y.mono a p (x.mono a p h),y.se.trans x.se,y.la.trans x.la,by have:=x.len;have:=y.len;lia⟩
theorem BG.bb(g:BG RL M U pile S rest)(hj:Just RL M (Sd S) a (p,n,m))(hu:a∈U)(hp:S.last<p):Ext RL M U pile S (bb pile S a p n m) rest 1:=by
 obtain⟨e1,e2,e3⟩:=iP (pile:=pile) (S:=S) a p n m;have hb:=g.b.bb hj hu (Ql hp) (λh=>by have:=g.eq _ h;dsimp only at this;lia) (λh=>by have:=(g.b.sd _ _ h).1;lia) λh=>.inl (g.mh a h);refine⟨⟨hb,λx hx=>?_,λx hx=>by rw[e3];exact g.eq x hx,λb hb=>iO (g.mh b hb)⟩,λb q h=>iO h,e1,e3,rN g.b.q.ok _ _ _ _⟩;rw[e3];rcases wY g.b.q.ok _ _ _ _ hx with h|rfl
 .exact g.gt x h
 .exact hp
theorem lj{β:Type}(fa:β->bz)(fp:β->Int)(fn fm:β->Option Int):∀(l:List β){S:PS},BG RL M U pile S rest->
 (∀x∈l,Just RL M (Sd S) (fa x) (fp x,fn x,fm x)/\fa x∈U/\S.last<fp x)->
 Ext RL M U pile S (l.foldl (λS x=>bb pile S (fa x) (fp x) (fn x) (fm x)) S) rest l.length/\(l.foldl (λS x=>bb pile S (fa x) (fp x) (fn x) (fm x)) S).aE=S.aE/\
 ∀x∈l,kG (l.foldl (λS x=>bb pile S (fa x) (fp x) (fn x) (fm x)) S) (fa x) (fp x)
 |[],S,g,_=>⟨⟨g,λ_ _ h=>h,rfl,rfl,bK _⟩,rfl,λ_ h=>nomatch h⟩
 |x::l,S,g,h=>by
  obtain⟨j,u,lt⟩:=h x cE;have e:=g.bb j u lt;obtain⟨r,r1,r2⟩:=lj fa fp fn fm l (S:=bb pile S (fa x) (fp x) (fn x) (fm x)) e.bg λy hy=>by rw[rO e.se,e.la];exact h y (cg _ hy)
  rw[Ph,fU,QT];refine⟨e.trans r,r1.trans (iP _ _ _ _).2.1,λy hy=>?_⟩;rcases cC.mp hy with rfl|hy
  .exact r.mono _ _ (j8 _ _ _ _)
  .exact r2 y hy
structure vX(RL:List aV) (M U:List bz) (rs:RS):Prop where
 qD:∀r∈RL,r.2.2.2.length<=2
 to:∀{n r c x},(n,r)∈rs.get (c,x)->∃(j:Nat)(l:List Int),n=j/\RL[j]?=some r/\r.2.2.1=c/\r.2.2.2=x::l
 of:∀{j:Nat}{r:aV}{x l},RL[j]?=some r->r.2.2.2=x::l->((j:Int),r)∈rs.get (r.2.2.1,x)
 u1:∀a∈M,a∈U
 u2:∀r∈RL,(r.1,r.2.1,r.2.2.1)∈U
 u3:∀r∈RL,∀s x t,(s,x,t)∈U->(r.1,r.2.1,t)∈U
def Ol(RL:List aV)(S:PS):Prop:=∀(j:Nat)(r:aV),RL[j]?=some r->match r.2.2.2 with
 |[]=>kG S (r.1,r.2.1,r.2.2.1) 1
 |[x]=>∀t q,Sd S (r.2.2.1,x,t) q->kG S (r.1,r.2.1,t) (q+1)
 |[x,y]=>∀d t q1 q2,Sd S (r.2.2.1,x,d) q1->Sd S (d,y,t) q2->kG S (r.1,r.2.1,t) (q1+q2+1)
 |_=>True
structure Lk(RL:List aV) (S:PS):Prop where
 ok:S.aE.Ok
 to:∀{n r q d y},(n,r,q)∈S.aE.get (d,y)->∃(j:Nat)(x:Int),n=j/\RL[j]?=some r/\r.2.2.2=[x,y]/\Sd S (r.2.2.1,x,d) q
 of:∀{j:Nat}{r:aV}{x y d q},RL[j]?=some r->r.2.2.2=[x,y]->Sd S (r.2.2.1,x,d) q->((j:Int),r,q)∈S.aE.get (d,y)
theorem FY(Hs:vX RL M U rs)(hau:a∈U)(p0:0<=p):∀(l:List (Int×aV)){S:PS},BG RL M U pile S rest->S.aE.Ok->S.settled.Ok->S.last=p->Sd S a p->(∀x∈l,x∈rs.get (a.1,a.2.1))->
 Ext RL M U pile S (l.foldl (cY pile a p) S) rest (l.length*S.settled.flat.length)/\(l.foldl (cY pile a p) S).aE.Ok/\(l.foldl (cY pile a p) S).aE.flat.length<=S.aE.flat.length+l.length/\
 (∀k z,z∈(l.foldl (cY pile a p) S).aE.get k↔z∈S.aE.get k\/∃x∈l,x.2.2.2.2.length=2/\k=(a.2.2,nth1 x.2.2.2.2)/\z=(x.1,x.2,p))/\
 (∀x∈l,x.2.2.2.2.length=1->kG (l.foldl (cY pile a p) S) (x.2.1,x.2.2.1,a.2.2) (p+1))/\
 ∀x∈l,x.2.2.2.2.length=2->∀t q,Sd S (a.2.2,nth1 x.2.2.2.2,t) q->kG (l.foldl (cY pile a p) S) (x.2.1,x.2.2.1,t) (p+q+1)
 |[],S,g,ok,so,hl,ha,_=>⟨⟨g,λ_ _ h=>h,rfl,rfl,Nat.le_add_right _ _⟩,ok,by simp,(λk z=>⟨.inl,λh=>h.elim id λ⟨x,h,_⟩=>(du h).elim⟩),(λ_ h=>(du h).elim),λ_ h=>(du h).elim⟩
 |x::l,S,g,ok,so,hl,ha,hin=>by
  obtain⟨n,r⟩:=x;obtain⟨j,ys,rfl,hj,hc,hp⟩:=Hs.to (hin _ cE);have hr:r∈RL:=kU hj;have cr:=Hs.qD r hr;have n1:1<=S.settled.flat.length:=List.length_pos_of_mem (l_ _ ha);have one:Ext RL M U pile S (cY pile a p S ((j:Int),r)) rest S.settled.flat.length/\(cY pile a p S ((j:Int),r)).aE.Ok/\(cY pile a p S ((j:Int),r)).aE.flat.length<=S.aE.flat.length+1/\
   (∀k z,z∈(cY pile a p S ((j:Int),r)).aE.get k↔z∈S.aE.get k\/(r.2.2.2.length=2/\k=(a.2.2,nth1 r.2.2.2)/\z=((j:Int),r,p)))/\
   (r.2.2.2.length=1->kG (cY pile a p S ((j:Int),r)) (r.1,r.2.1,a.2.2) (p+1))/\
   (r.2.2.2.length=2->∀t q,Sd S (a.2.2,nth1 r.2.2.2,t) q->kG (cY pile a p S ((j:Int),r)) (r.1,r.2.1,t) (p+q+1)):=by
   unfold cY;by_cases h1:r.2.2.2.length=1
   .rw[b_ (show((j:Int),r).2.2.2.2.length=1 from h1)];have hys:r.2.2.2=[a.2.1]:=by
     rw[hp]at h1 ⊢;cases ys with
     |nil=>rfl
     |cons _ _=>simp at h1
    have e:=g.bb (a:=(r.1,r.2.1,a.2.2)) (p:=p+1) (n:=some (j:Int)) (m:=none) ⟨j,r,rfl,hj,rfl,rfl,by rw[hys];exact⟨rfl,p,by rw[hc];exact ha,rfl⟩⟩ (Hs.u3 r hr _ _ _ hau) (by lia);obtain⟨_,e2,_⟩:=iP (pile:=pile) (S:=S) (r.1,r.2.1,a.2.2) (p+1) (some (j:Int)) none;refine⟨⟨e.bg,e.mono,e.se,e.la,gC e.len (Qz n1 _)⟩,by rw[e2];exact ok,by rw[e2];lia,λk z=>?_,λ_=>j8 _ _ _ _,λh=>by lia⟩;rw[e2];exact⟨.inl,λh=>h.elim id λh=>by lia⟩
   .rw[cF (show ¬((j:Int),r).2.2.2.2.length=1 from h1)];have h2:r.2.2.2.length=2:=by rw[hp]at h1 cr ⊢;simp only[fU]at h1 cr ⊢;lia
    obtain⟨y,hys⟩ : ∃y,r.2.2.2=[a.2.1,y]:=by
     rw[hp]at h2 ⊢
     match ys,h2 with
     |[y],_=>exact⟨y,rfl⟩
    have hn:nth1 r.2.2.2=y:=by rw[hys];rfl
    have g1:BG RL M U pile (tF S (j:Int) r a.2.2 p) rest:=⟨⟨g.b.q,g.b.nd,g.b.nr,g.b.tk,g.b.tu,g.b.ju,g.b.ps,g.b.sd,g.b.sp,g.b.it,g.b.ns,g.b.m0⟩,g.gt,g.eq,g.mh⟩;obtain⟨e,e2,e3⟩:=lj (λx:Int×Int=>(r.1,r.2.1,x.1)) (λx=>p+x.2+1) (λ_=>some (j:Int)) (λ_=>some a.2.2) (S.settled.get (a.2.2,nth1 r.2.2.2)) g1 λx hx=>by
     have sx:Sd S (a.2.2,y,x.1) x.2:=by rw[hn]at hx;exact hx
     obtain⟨_,v,tv,hv⟩:=g.b.sd _ _ sx;have:=g.b.ps _ _ tv;refine⟨⟨j,r,rfl,hj,rfl,rfl,?_⟩,Hs.u3 r hr _ _ _ (g.b.tu _ _ tv),by show S.last<_;lia⟩;rw[hys];exact⟨a.2.2,p,x.2,rfl,by rw[hc];exact ha,sx,rfl⟩
    have lm:∀k z,z∈(first pile S (j:Int) r a.2.2 p).aE.get k↔z∈S.aE.get k\/(r.2.2.2.length=2/\k=(a.2.2,nth1 r.2.2.2)/\z=((j:Int),r,p)):=λk z=>by
     show z∈(List.foldl _ _ _:PS).aE.get k↔_;rw[e2];show z∈(S.aE.app _ _).get k↔_;rw[tE];by_cases hk:(a.2.2,nth1 r.2.2.2)=k
     .subst hk;rw[b_ rfl,fD,ip];exact⟨λh=>h.elim .inl λh=>.inr ⟨h2,rfl,h⟩,λh=>h.elim .inl λh=>.inr h.2.2⟩
     .rw[cF hk];exact⟨.inl,λh=>h.elim id λh=>(hk h.2.1.symm).elim⟩
    have lk:(first pile S (j:Int) r a.2.2 p).aE=S.aE.app (a.2.2,nth1 r.2.2.2) ((j:Int),r,p):=e2;refine⟨⟨e.bg,λb q h=>e.mono b q h,e.se,e.la,gC e.len (Qz (oq _ _) _)⟩,by rw[lk];exact pN ok _ _,by rw[lk,(gs ok.nk _ _).length_eq];exact bK _,lm,λh=>by lia,λ_ t q h=>e3 (t,q) h⟩
  obtain⟨e,ok1,le1,lm1,hA,hB⟩:=one;obtain⟨r0,r1,r2,r3,r4,r5⟩:=FY Hs hau p0 l e.bg ok1 (by rw[e.se];exact so) (by rw[e.la];exact hl) (by rw[rO e.se];exact ha) λy hy=>hin y (cg _ hy);rw[Ph,fU];rw[e.se]at r0;refine⟨by rw[Nat.add_mul,Nat.one_mul,QT];exact e.trans r0,r1,by lia,λk z=>?_,λx hx h=>?_,λx hx h t q hq=>?_⟩
  .rw[r3,lm1];constructor
   .rintro ((h|h)|⟨x,hx,h⟩)
    .exact .inl h
    .exact .inr ⟨_,cE,h⟩
    .exact .inr ⟨x,cg _ hx,h⟩
   .rintro (h|⟨x,hx,h⟩)
    .exact .inl (.inl h)
    .rcases cC.mp hx with rfl|hx
     .exact .inl (.inr h)
     .exact .inr ⟨x,hx,h⟩
  .rcases cC.mp hx with rfl|hx
   .exact r0.mono _ _ (hA h)
   .exact r4 x hx h
  .rcases cC.mp hx with rfl|hx
   .exact r0.mono _ _ (hB h t q hq)
   .exact r5 x hx h t q (by rw[rO e.se];exact hq)
end Pz
namespace Pz
section
variable(RL:List aV)(M U:List bz)(pile:Int->Int->Int)(C:Nat)
structure Ou(S:PS) (k:Nat):Prop where
 so:S.settled.Ok
 G:∃G:List bz,G.Nodup/\G.length=S.settled.flat.length/\∀a∈G,∃q,Sd S a q
 ln:S.aE.flat.length<=RL.length*S.settled.flat.length
 pn:S.aA.flat.length+k<=C+RL.length*(S.settled.flat.length*S.settled.flat.length)
structure I(S:PS) (rest:List (Int×bz)):Prop where
 bg:BG RL M U pile S rest
 Jz:Ol RL S
 lk:Lk RL S
 cnt:Ou RL C S rest.length
end
def sd_note:Sd (note S a p) c q↔Sd S c q\/(a=c/\p=q):=by
 grind [Sd,note,tE]
theorem I.settle(Hs:vX RL M U rs)(hrl:∀k,(rs.get k).length<=RL.length)(i:I RL M U pile C S ((p,a)::rest))(hv:bH S.told a=some v)(hp:v.1=p) :
 I RL M U pile C (settle pile rs S a p) rest/\(settle pile rs S a p).settled.flat.length=S.settled.flat.length+1:=by
 have b:=i.bg.b;have pl:p=S.last:=i.bg.eq _ cE;have p0:0<=p:=by rw[pl];exact b.q.l0
 have hau:a∈U:=b.tu a v hv;have nS:∀q,¬Sd S a q:=λq h=>by obtain⟨_,w,e,ew⟩:=b.sd a q h;rw[hv]at e;cases e;rw[<- ew,hp]at h;exact b.ns p a (.inr cE) h
 have nr:=j5.mp b.nr;have smono:∀c q,Sd S c q->Sd (note S a p) c q:=λc q h=>sd_note.mpr (.inl h);have hS1:Sd (note S a p) a p:=sd_note.mpr (.inr ⟨rfl,rfl⟩);have g1:BG RL M U pile (note S a p) rest:=by
  refine⟨⟨b.q,b.nd,nr.2,b.tk,b.tu,λc w e=>(b.ju c w e).mono RL M smono,b.ps,λc q h=>?_,λc w e=>?_,λq c h=>?_,λq c h k=>?_,b.m0⟩,i.bg.gt,λx hx=>i.bg.eq x (cg _ hx),i.bg.mh⟩
  .rcases sd_note.mp h with h|⟨rfl,rfl⟩
   .exact b.sd c q h
   .exact⟨Int.le_of_eq pl,v,hv,hp⟩
  .rcases b.sp c w e with h|h|h
   .exact .inl (smono _ _ h)
   .exact .inr (.inl h)
   .rcases cC.mp h with h|h
    .cases h;exact .inl hS1
    .exact .inr (.inr h)
  .exact b.it q c (h.elim .inl λh=>.inr (cg _ h))
  .rcases sd_note.mp k with k|⟨rfl,rfl⟩
   .exact b.ns q c (h.elim .inl λh=>.inr (cg _ h)) k
   .rcases h with h|h
    .have:=i.bg.gt _ h;dsimp only at this;lia
    .exact nr.1 h
 have so1:(note S a p).settled.Ok:=pN i.cnt.so _ _;have n1:(note S a p).settled.flat.length=S.settled.flat.length+1:=(gs i.cnt.so.nk _ _).length_eq;obtain⟨e1,l1,h1⟩:=lj (λx:Int×aV×Int=>(x.2.1.1,x.2.1.2.1,a.2.2)) (λx=>x.2.2+p+1) (λx=>some x.1) (λ_=>some a.1) (S.aE.get (a.1,a.2.1)) g1 λx hx=>by obtain⟨n,r,q⟩:=x;obtain⟨j,y,rfl,hj,hy,hq⟩:=i.lk.to hx;obtain⟨_,w,tw,hw⟩:=b.sd _ _ hq;have:=b.ps _ _ tw;refine⟨⟨j,r,rfl,hj,rfl,rfl,?_⟩,Hs.u3 r (kU hj) _ _ _ hau,by show S.last<q+p+1;lia⟩;show JustP _ r.2.2.1 r.2.2.2 _ _ _;rw[hy];exact⟨a.1,q,p,rfl,smono _ _ hq,hS1,rfl⟩
 generalize hS2:(S.aE.get (a.1,a.2.1)).foldl (λS x=>bb pile S (x.2.1.1,x.2.1.2.1,a.2.2) (x.2.2+p+1) (some x.1) (some a.1)) (note S a p)=S2 at e1 l1 h1;have s2:S2.settled=(note S a p).settled:=e1.se;have hs2:Sd S2=Sd (note S a p):=rO s2;have l2:S2.aE=S.aE:=l1;obtain⟨e2,k1,k2,k3,k4,k5⟩:=FY (rs:=rs) Hs hau p0 (rs.get (a.1,a.2.1)) e1.bg (by rw[l2];exact i.lk.ok) (by grind) (by rw[e1.la,pl];rfl) (by rw[hs2];exact hS1) λx hx=>hx;have eT:(rs.get (a.1,a.2.1)).foldl (cY pile a p) S2=Pz.settle pile rs S a p:=by rw[<- hS2];rfl
 rw[eT]at e2 k1 k2 k3 k4 k5;generalize Pz.settle pile rs S a p=T at e2 k1 k2 k3 k4 k5;have sT:T.settled=(note S a p).settled:=e2.se.trans s2;have hsT:∀c q,Sd T c q↔Sd S c q\/(a=c/\p=q):=λc q=>by rw[rO sT];exact sd_note
 have hm:∀{j:Nat}{r:aV}{x d l},RL[j]?=some r->r.2.2.2=x::l->a=(r.2.2.1,x,d)->((j:Int),r)∈rs.get (a.1,a.2.1):=λhj hp h=>by rw[h];exact Hs.of hj hp
 have mono:∀c q,kG S c q->kG T c q:=λc q h=>e2.mono _ _ (e1.mono _ _ h);refine⟨⟨e2.bg,?_,⟨k1,?_,?_⟩,⟨by grind,?_,?_,?_⟩⟩,by grind⟩
 .intro j r hj;have hc:=i.Jz j r hj;cases hput:r.2.2.2 with
  |nil=>rw[hput]at hc;exact mono _ _ hc
  |cons x ys=>
   cases ys with
   |nil=>
    rw[hput]at hc;intro t q hq;rcases(hsT _ _).mp hq with h|⟨h,rfl⟩
    .exact mono _ _ (hc t q h)
    .obtain rfl:a.2.2=t:=by rw[h]
     exact k4 ((j:Int),r) (hm hj hput h) (by rw[hput];rfl)
   |cons y zs=>
    cases zs with
    |cons _ _=>trivial
    |nil=>
     rw[hput]at hc;intro d t q1 q2 hq1 hq2;have ny:nth1 r.2.2.2=y:=by rw[hput];rfl
     rcases(hsT _ _).mp hq1 with z1|⟨z1,rfl⟩
     .rcases (hsT _ _).mp hq2 with z2|⟨z2,rfl⟩
      .exact mono _ _ (hc d t q1 q2 z1 z2)
      .obtain rfl:a.2.2=t:=by rw[z2]
       exact e2.mono _ _ (h1 ((j:Int),r,q1) (by rw[z2];exact i.lk.of hj hput z1))
     .obtain rfl:a.2.2=d:=by rw[z1]
      refine k5 ((j:Int),r) (hm hj hput z1) (by rw[hput];rfl) t q2 ?_;rw[ny,hs2,<- rO sT];exact hq2
 .intro n r q d y h;rcases(k3 _ _).mp h with h|⟨x,hx,hl,hk,hz⟩
  .rw[l2]at h;obtain⟨j,x,e1,e2,e3,e4⟩:=i.lk.to h;exact⟨j,x,e1,e2,e3,(hsT _ _).mpr (.inl e4)⟩
  .obtain⟨n',r'⟩:=x;obtain⟨rfl,hz⟩:=Prod.mk.inj hz;obtain⟨rfl,hq⟩:=Prod.mk.inj hz;obtain⟨j,l,rfl,hj,hc,hput⟩:=Hs.to hx;obtain⟨rfl,hy⟩:=Prod.mk.inj hk;have hl:r.2.2.2.length=2:=hl;have hy:y=nth1 r.2.2.2:=hy;rw[hput]at hl hy;refine⟨j,a.2.1,rfl,hj,?_,(hsT _ _).mpr (.inr ⟨by rw[hc],hq.symm⟩)⟩;rcases l with _|⟨z,_|_⟩
   .cases hl
   .rw[hput,hy];rfl
   .cases hl
 .intro j r x y d q hj hput hq;rw[k3];rcases(hsT _ _).mp hq with h|⟨h,rfl⟩
  .rw[l2];exact .inl (i.lk.of hj hput h)
  .exact .inr ⟨((j:Int),r),hm hj hput h,by rw[hput];rfl,by rw[hput,h];rfl,rfl⟩
 .obtain⟨G,g1,g2,g3⟩:=i.cnt.G;refine⟨a::G,j5.mpr ⟨λh=>?_,g1⟩,by grind,λc hc=>?_⟩
  .obtain⟨q,hq⟩:=g3 a h;exact nS q hq
  .rcases cC.mp hc with rfl|hc
   .exact⟨p,(hsT _ _).mpr (.inr ⟨rfl,rfl⟩)⟩
   .obtain⟨q,hq⟩:=g3 c hc;exact⟨q,(hsT _ _).mpr (.inl hq)⟩
 .have:=i.cnt.ln;have:=hrl (a.1,a.2.1);rw[sT,n1,QR,Nat.mul_one];rw[l2]at k2;lia
 .have c1:=i.cnt.pn;have c2:=e1.len;have c3:=e2.len;have c4:=i.cnt.ln;have c5:=oq S.aE (a.1,a.2.1);have c6:(rs.get (a.1,a.2.1)).length*S2.settled.flat.length<=RL.length*(S.settled.flat.length+1):=by rw[s2,n1];exact Nat.mul_le_mul_right _ (hrl _)
  rw[fU]at c1;have c7:(note S a p).aA.flat.length=S.aA.flat.length:=rfl;rw[sT,n1];have c8:RL.length*((S.settled.flat.length+1)*(S.settled.flat.length+1))=RL.length*(S.settled.flat.length*S.settled.flat.length)+RL.length*S.settled.flat.length+RL.length*(S.settled.flat.length+1):=by rw[Nat.add_mul,Nat.one_mul,QR RL.length,QR S.settled.flat.length,Nat.mul_one,QR RL.length (S.settled.flat.length*S.settled.flat.length)]
  rw[c8];lia
def I.skip(i:I RL M U pile C S (x::rest))(h:¬JQ S x=true):I RL M U pile C S rest:=by
 have b:=i.bg.b;refine⟨⟨⟨b.q,b.nd,(j5.mp b.nr).2,b.tk,b.tu,b.ju,b.ps,b.sd,λc w e=>?_,λq c h=>b.it q c (h.elim .inl λh=>.inr (cg _ h)),λq c h=>b.ns q c (h.elim .inl λh=>.inr (cg _ h)),b.m0⟩,i.bg.gt,λy hy=>i.bg.eq y (cg _ hy),i.bg.mh⟩,i.Jz,i.lk,i.cnt.so,i.cnt.G,i.cnt.ln,by have:=i.cnt.pn;rw[fU]at this;lia⟩;rcases b.sp c w e with k|k|k
 .exact .inl k
 .exact .inr (.inl k)
 .grind [JQ]
theorem I.batch(Hs:vX RL M U rs)(hrl:∀k,(rs.get k).length<=RL.length):∀(l:List (Int×bz)){S:PS},I RL M U pile C S l->
 I RL M U pile C (batch pile rs S l) []/\S.settled.flat.length<=(batch pile rs S l).settled.flat.length/\((batch pile rs S l).settled.flat.length=S.settled.flat.length->batch pile rs S l=S)
 |[],S,i=>⟨i,bK _,λ_=>rfl⟩
 |x::l,S,i=>by
  show I RL M U pile C (Pz.batch pile rs (turn pile rs S x) l) []/\_<=(Pz.batch pile rs (turn pile rs S x) l).settled.flat.length/\((Pz.batch pile rs (turn pile rs S x) l).settled.flat.length=_->Pz.batch pile rs (turn pile rs S x) l=S);unfold turn;by_cases h:JQ S x=true
  .rw[b_ h];obtain⟨p,a⟩:=x;unfold JQ at h;cases e:bH S.told a with
   |none=>rw[show((p,a):Int×bz).2=a from rfl,e]at h;cases h
   |some v=>rw[show((p,a):Int×bz).2=a from rfl,e]at h;obtain⟨j,n⟩:=i.settle Hs hrl e (t7 h);obtain⟨r1,r2,r3⟩:=I.batch Hs hrl l j;exact⟨r1,by grind,λq=>by grind⟩
  .rw[cF h];exact I.batch Hs hrl l (i.skip h)
structure Top(RL:List aV) (M U:List bz) (pile:Int->Int->Int) (C:Nat) (S:PS):Prop where
 b:B RL M pile U S []
 mh:∀a∈M,kG S a 0
 Jz:Ol RL S
 lk:Lk RL S
 cnt:Ou RL C S 0
def I.top(i:I RL M U pile C S []):Top RL M U pile C S:=⟨i.bg.b,i.bg.mh,i.Jz,i.lk,i.cnt⟩
theorem Top.take(P:t5 pile)(t:Top RL M U pile C S)(hne:S.aA≠[]):I RL M U pile C (take pile S) (eL pile S.aA):=by
 have b:=t.b;have k:=zI P b.q hne;have mem:∀x,x∈S.aA.flat↔x∈(left pile S.aA).flat\/x∈eL pile S.aA:=λx=>by rw[k.pm.mem_iff,fD];exact Or.comm
 obtain⟨n1,n2,_⟩:=Pb.mp (k.pm.nodup_iff.mp b.nd);have no:∀{q c},(q,c)∉([]:List (Int×bz)):=λh=>nomatch h;refine⟨⟨⟨k.ok,n2,n1,b.tk,b.tu,b.ju,b.ps,λa p h=>⟨Pl (b.sd a p h).1 k.ge,(b.sd a p h).2⟩,λa v e=>?_,λp a h=>b.it p a (.inl ((mem _).mpr h)),λp a h=>b.ns p a (.inl ((mem _).mpr h)),b.m0⟩,k.lt,k.eq,t.mh⟩,t.Jz,⟨t.lk.ok,t.lk.to,t.lk.of⟩,t.cnt.so,t.cnt.G,t.cnt.ln,?_⟩
 .rcases b.sp a v e with h|h|h
  .exact .inl h
  .exact .inr ((mem _).mp h)
  .exact(no h).elim
 .have h1:=k.pm.length_eq;rw[gV]at h1;have h2:=t.cnt.pn;show(left pile S.aA).flat.length+(eL pile S.aA).length<=_;show _<=C+RL.length*(S.settled.flat.length*S.settled.flat.length);lia
theorem ot{α:Type}[DecidableEq α]:∀(l m:List α),l.Nodup->(∀x∈l,x∈m)->l.length<=m.length
 |[],m,_,_=>jT _
 |x::l,m,nd,h=>by
  have hx:=h x cE;have nd':=j5.mp nd;have:=ot l (m.erase x) nd'.2 λy hy=>(List.mem_erase_of_ne (λ(e:y=x)=>nd'.1 (by grind))).mpr (h y (cg _ hy))
  grind
def Top.qD(t:Top RL M U pile C S):S.settled.flat.length<=U.length/\S.told.length<=U.length:=by
 obtain⟨G,g1,g2,g3⟩:=t.cnt.G;constructor
 .rw[<- g2];exact ot G U g1 λa ha=>by obtain⟨q,hq⟩:=g3 a ha;obtain⟨_,v,e,_⟩:=t.b.sd a q hq;exact t.b.tu a v e
 .have:=ot (S.told.map (·.1)) U t.b.tk λa ha=>by obtain⟨x,hx,rfl⟩:=d7.mp ha;exact t.b.tu x.1 x.2 (uV t.b.tk hx)
  rwa [cG]at this
def Top.fit(t:Top RL M U pile C S)(hC:C+RL.length*(U.length*U.length)<L)(hR:RL.length*U.length<L)(hU:U.length<L):kX S:=by obtain⟨f1,f2⟩:=t.qD;have a1:=iN t.b.q.ok;have a2:=iN t.cnt.so;have a3:=iN t.lk.ok;have b1:=t.cnt.pn;have b2:RL.length*(S.settled.flat.length*S.settled.flat.length)<=RL.length*(U.length*U.length):=QC _ (PV f1 f1);have b3:=t.cnt.ln;have b4:RL.length*S.settled.flat.length<=RL.length*U.length:=QC _ f1;constructor<;>lia
def Top.loop(P:t5 pile)(Hs:vX RL M U rs)(hrl:∀k,(rs.get k).length<=RL.length)(hC:C+RL.length*(U.length*U.length)<L)(hR:RL.length*U.length<L)(hU:U.length<L) :
 ∀(a b:Nat)(S:PS),Top RL M U pile C S->U.length-S.settled.flat.length<=a->S.aA.flat.length<=b->∃n T,Loop pile rs n S T/\Top RL M U pile C T/\T.aA=[]:=by
 have step:∀S,Top RL M U pile C S->S.aA≠[]->let S2:=batch pile rs (Pz.take pile S) (eL pile S.aA);Top RL M U pile C S2/\(∀n T,Loop pile rs n S2 T->Loop pile rs (n+1) S T)/\
  (S.settled.flat.length<S2.settled.flat.length\/S2.settled.flat.length=S.settled.flat.length/\S2.aA.flat.length<S.aA.flat.length):=by
  intro S t hne;obtain⟨i,h1,h2⟩:=I.batch Hs hrl _ (t.take P hne);have t2:=i.top;refine⟨t2,λn T l=>.step hne t.b.q (λx hx=>?_) (t.fit hC hR hU) (t2.fit hC hR hU) l,?_⟩
  .obtain⟨v,e,_⟩:=t.b.it x.1 x.2 (.inl ((zI P t.b.q hne).pm.mem_iff.mpr (fD.mpr (.inl hx))));rw[e];simp
  have k:=zI P t.b.q hne;by_cases e:(batch pile rs (Pz.take pile S) (eL pile S.aA)).settled.flat.length=S.settled.flat.length
  .refine .inr ⟨e,?_⟩;rw[h2 e];show(left pile S.aA).flat.length<_;rw[k.pm.length_eq,gV];have:=QB.mpr k.ne;lia
  .have h1:S.settled.flat.length<=(batch pile rs (Pz.take pile S) (eL pile S.aA)).settled.flat.length:=h1;exact .inl (by lia)
 intro a;induction a with
 |zero=>
  intro b;induction b with
  |zero=>intro S t _ hb;have:S.aA=[]:=Dp.mp (by have:=iN t.b.q.ok;lia);exact⟨0,S,.done this,t,this⟩
  |succ b ih=>
   intro S t ha hb;by_cases hne:S.aA=[]
   .exact⟨0,S,.done hne,t,hne⟩
   obtain⟨t2,hl,hd⟩:=step S t hne;have:=t2.qD.1;obtain⟨n,T,l,r⟩:=ih _ t2 (by rcases hd with h|h<;>lia) (by rcases hd with h|h<;>lia);exact⟨_,T,hl _ _ l,r⟩
 |succ a iha=>
  intro b;induction b with
  |zero=>intro S t _ hb;have:S.aA=[]:=Dp.mp (by have:=iN t.b.q.ok;lia);exact⟨0,S,.done this,t,this⟩
  |succ b ih=>
   intro S t ha hb;by_cases hne:S.aA=[]
   .exact⟨0,S,.done hne,t,hne⟩
   obtain⟨t2,hl,hd⟩:=step S t hne;have:=t2.qD.1;rcases hd with h|h
   .obtain⟨n,T,l,r⟩:=iha _ _ t2 (by lia) (bK _);exact⟨_,T,hl _ _ l,r⟩
   .obtain⟨n,T,l,r⟩:=ih _ t2 (by lia) (by lia);exact⟨_,T,hl _ _ l,r⟩
end Pz
namespace Pz
noncomputable def en:List aV->Nat->List (Int×aV)
 |[],_=>[]
 |r::l,k=>((k:Int),r)::en l (k+1)
theorem en_mem:∀{l:List aV}{k:Nat}{n:Int}{r:aV},(n,r)∈en l k↔∃j:Nat,n=((k+j:Nat):Int)/\l[j]?=some r
 |[],k,n,r=>⟨λh=>(du h).elim,λ⟨j,_,h⟩=>by simp at h⟩
 |x::l,k,n,r=>by
  unfold en;rw[cC,en_mem];constructor
  .rintro (h|⟨j,rfl,h⟩)
   .obtain⟨rfl,rfl⟩:=Prod.mk.inj h;exact⟨0,rfl,rfl⟩
   .exact⟨j+1,by lia,by simpa using h⟩
  .rintro⟨j,rfl,h⟩;cases j with
   |zero=>left;simp at h;subst h;rfl
   |succ j=>exact .inr ⟨j,by lia,by simpa using h⟩
theorem pP:∀(l:List aV)(k:Nat),(en l k).length=l.length:=by intro l;induction l<;>grind [en]
def gR(d:RS)(x:Int×aV):RS:=if x.2.2.2.2.length>0 then d.app (x.2.2.2.1,x.2.2.2.2[0]?.getD 0) x else d
def bS(RL:List aV):RS:=(en RL 0).foldl gR []
def zL(d:RS)(x:Int×aV)(k:Int×Int)(z:Int×aV):z∈(gR d x).get k↔z∈d.get k\/(z=x/\∃y l,x.2.2.2.2=y::l/\k=(x.2.2.2.1,y)):=by
 unfold gR;cases h:x.2.2.2.2 with
 |nil=>grind
 |cons y l=>
  rw[b_ (by simp),tE]
  grind
theorem tG:∀(l:List (Int×aV))(d:RS)(k:Int×Int)(z:Int×aV),z∈(l.foldl gR d).get k↔z∈d.get k\/(z∈l/\∃y l',z.2.2.2.2=y::l'/\k=(z.2.2.2.1,y))
 |[],d,k,z=>⟨.inl,λq=>q.elim id λq=>(du q.1).elim⟩
 |x::l,d,k,z=>by
  rw[Ph,tG l,zL,cC];constructor
  .rintro ((h|⟨rfl,h⟩)|⟨h1,h2⟩)
   .exact .inl h
   .exact .inr ⟨.inl rfl,h⟩
   .exact .inr ⟨.inr h1,h2⟩
  .rintro (h|⟨rfl|h1,h2⟩)
   .exact .inl (.inl h)
   .exact .inl (.inr ⟨rfl,h2⟩)
   .exact .inr ⟨h1,h2⟩
theorem wZ:∀(l:List (Int×aV))(d:RS),d.Ok->(l.foldl gR d).Ok/\(l.foldl gR d).flat.length<=d.flat.length+l.length
 |[],d,h=>⟨h,bK _⟩
 |x::l,d,h=>by
  rw[Ph,fU];have:(gR d x).Ok/\(gR d x).flat.length<=d.flat.length+1:=by
   unfold gR;split
   .exact⟨pN h _ _,QF (gs h.nk _ _).length_eq⟩
   .exact⟨h,by lia⟩
  obtain⟨a,b⟩:=wZ l _ this.1;exact⟨a,by lia⟩
theorem uZ{κ α:Type}:MD.Ok (κ:=κ) (α:=α) []:=⟨j3,λ_ h=>(du h).elim⟩
def HN(RL:List aV):(bS RL).Ok/\(bS RL).flat.length<=RL.length:=by
 grind [bS,en,MD.flat,wZ,uZ,pP]
noncomputable def S0:PS:=⟨[],0,[],[],[]⟩
variable(pile:Int->Int->Int)
def jb(S:PS)(a:bz):PS:=bb pile S a 0 none none
def fT(S:PS)(x:Int×aV):PS:=if x.2.2.2.2.length=0 then bb pile S (x.2.1,x.2.2.1,x.2.2.2.1) 1 (some x.1) none else S
def jL(RL:List aV)(M:List bz):PS:=(en RL 0).foldl (fT pile) (M.foldl (jb pile) S0)
variable{pile}
structure Au(RL:List aV) (M U:List bz) (pile:Int->Int->Int) (S:PS) (k:Nat):Prop where
 b:B RL M pile U S []
 l0:S.last=0
 s0:S.settled=[]
 k0:S.aE=[]
 len:S.aA.flat.length<=k
def Au.no(h:Au RL M U pile S k)(a:bz)(q:Int):¬Sd S a q:=by unfold Sd;rw[h.s0];exact λh=>(du h).elim
theorem Au.bb(h:Au RL M U pile S k)(hj:Just RL M (Sd S) a (p,n,m))(hu:a∈U)(hp:0<=p)(hm:a∈M->kG S a 0\/(p,n,m)=(0,none,none)):Au RL M U pile (bb pile S a p n m) (k+1):=by obtain⟨e1,e2,e3⟩:=iP (pile:=pile) (S:=S) a p n m;exact⟨h.b.bb hj hu (by rw[h.l0];exact hp) (λh=>(du h).elim) (h.no _ _) hm,by rw[e3];exact h.l0,by rw[e1];exact h.s0,by rw[e2];exact h.k0,gC (rN h.b.q.ok _ _ _ _) (Nat.add_le_add_right h.len 1)⟩
def Nm:Au RL M U pile S0 0:=by have no:∀{α:Type}{x:α},x∉([]:List α):=λh=>(du h).elim;exact⟨⟨⟨uZ,Int.le_refl _,λ_ h=>(no h).elim⟩,j3,j3,j3,(λ_ _ h=>nomatch h),(λ_ _ h=>nomatch h),(λ_ _ h=>nomatch h),(λ_ _ h=>(no h).elim),(λ_ _ h=>nomatch h),(λ_ _ h=>h.elim (λh=>(no h).elim) λh=>(no h).elim),(λ_ _ h=>h.elim (λh=>(no h).elim) λh=>(no h).elim),(λ_ _ h=>nomatch h)⟩,rfl,rfl,rfl,bK _⟩
theorem Kx:∀(l:List bz){S:PS}{k:Nat},Au RL M U pile S k->(∀a∈l,a∈M/\a∈U)->Au RL M U pile (l.foldl (jb pile) S) (k+l.length)/\(∀a p,kG S a p->kG (l.foldl (jb pile) S) a p)/\∀a∈l,kG (l.foldl (jb pile) S) a 0
 |[],S,k,h,_=>⟨h,λ_ _ h=>h,λ_ h=>(du h).elim⟩
 |a::l,S,k,h,hl=>by
  obtain⟨h1,h2⟩:=hl a cE;have e:=h.bb (a:=a) (p:=0) (n:=none) (m:=none) ⟨rfl,rfl,h1⟩ h2 (Int.le_refl _) λ_=>.inr rfl;obtain⟨r1,r2,r3⟩:=Kx l e λb hb=>hl b (cg _ hb);rw[Ph,fU,QT l.length,<- Nat.add_assoc];refine⟨r1,λb p h=>r2 b p (iO h),λb hb=>?_⟩;rcases cC.mp hb with rfl|hb
  .exact r2 _ _ (j8 _ _ _ _)
  .exact r3 b hb
theorem Ky(u2:∀r∈RL,(r.1,r.2.1,r.2.2.1)∈U):∀(l:List (Int×aV)){S:PS}{k:Nat},Au RL M U pile S k->(∀a∈M,kG S a 0)->(∀x∈l,∃j:Nat,x.1=j/\RL[j]?=some x.2)->
 Au RL M U pile (l.foldl (fT pile) S) (k+l.length)/\(∀a p,kG S a p->kG (l.foldl (fT pile) S) a p)/\∀x∈l,x.2.2.2.2=[]->kG (l.foldl (fT pile) S) (x.2.1,x.2.2.1,x.2.2.2.1) 1
 |[],S,k,h,_,_=>⟨h,λ_ _ h=>h,λ_ h=>(du h).elim⟩
 |x::l,S,k,h,hm,hl=>by
  obtain⟨j,e1,e2⟩:=hl x cE;have one:Au RL M U pile (fT pile S x) (k+1)/\(∀a p,kG S a p->kG (fT pile S x) a p)/\(x.2.2.2.2=[]->kG (fT pile S x) (x.2.1,x.2.2.1,x.2.2.2.1) 1):=by
   unfold fT;by_cases h0:x.2.2.2.2.length=0
   .rw[b_ h0];have e:=h.bb (a:=(x.2.1,x.2.2.1,x.2.2.2.1)) (p:=1) (n:=some x.1) (m:=none) ⟨j,x.2,e1,e2,rfl,rfl,by rw[Dp.mp h0];exact⟨rfl,rfl,rfl⟩⟩ (u2 _ (kU e2)) (by decide) λh=>.inl (hm _ h);exact⟨e,λb p h=>iO h,λ_=>j8 _ _ _ _⟩
   .rw[cF h0];exact⟨⟨h.b,h.l0,h.s0,h.k0,Nat.le_succ_of_le h.len⟩,λ_ _ h=>h,λe=>(h0 (by rw[e];rfl)).elim⟩
  obtain⟨o1,o2,o3⟩:=one;obtain⟨r1,r2,r3⟩:=Ky u2 l o1 (λa ha=>o2 a 0 (hm a ha)) λb hb=>hl b (cg _ hb);rw[Ph,fU,QT l.length,<- Nat.add_assoc];refine⟨r1,λb p h=>r2 b p (o2 b p h),λb hb e=>?_⟩;rcases cC.mp hb with rfl|hb
  .exact r2 _ _ (o3 e)
  .exact r3 b hb e
structure Set(RL:List aV) (M U:List bz):Prop where
 qD:∀r∈RL,r.2.2.2.length<=2
 u1:∀a∈M,a∈U
 u2:∀r∈RL,(r.1,r.2.1,r.2.2.1)∈U
 u3:∀r∈RL,∀s x t,(s,x,t)∈U->(r.1,r.2.1,t)∈U
 big:M.length+RL.length+RL.length*(U.length*U.length)<L
 Mq:RL.length*U.length<L
 Mw:U.length<L
def Set.Ms(h:Set RL M U):vX RL M U (bS RL):=by
 refine⟨h.qD,λ{n r c x} q=>?_,λ{j r x l} e1 e2=>?_,h.u1,h.u2,h.u3⟩
 .rcases (tG _ _ _ _).mp q with q|⟨q,y,l,e,k⟩
  .exact(du q).elim
  .obtain⟨j,e1,e2⟩:=en_mem.mp q
   grind
 .exact(tG _ _ _ _).mpr (.inr ⟨en_mem.mpr ⟨j,by grind,e1⟩,x,l,e2,rfl⟩)
def zM(h:Set RL M U):Top RL M U pile (M.length+RL.length) (jL pile RL M):=by
 obtain⟨a1,a2,a3⟩:=Kx (RL:=RL) (M:=M) (U:=U) (pile:=pile) M Nm λa ha=>⟨ha,h.u1 a ha⟩;obtain⟨b1,b2,b3⟩:=Ky h.u2 (en RL 0) a1 a3 λx hx=>by obtain⟨j,e1,e2⟩:=en_mem.mp hx;exact⟨j,by grind,e2⟩
 have b1:Au RL M U pile (jL pile RL M) _:=b1;refine⟨b1.b,λa ha=>b2 a 0 (a3 a ha),λj r hj=>?_,⟨by rw[b1.k0];exact uZ,λ{n r q d y} h=>by rw[b1.k0]at h;exact(du h).elim,λ_ _ h=>(b1.no _ _ h).elim⟩,⟨by rw[b1.s0];exact uZ,⟨[],j3,by rw[b1.s0];rfl,λ_ h=>(du h).elim⟩,by rw[b1.k0];exact jT _,?_⟩⟩
 .cases hp:r.2.2.2 with
  |nil=>exact b3 ((j:Int),r) (en_mem.mpr ⟨j,by grind,hj⟩) hp
  |cons x l=>
   match l with
   |[]=>exact λt q h=>(b1.no _ _ h).elim
   |[y]=>exact λd t q1 q2 h=>(b1.no _ _ h).elim
   |_::_::_=>trivial
 .have:=b1.len;rw[pP]at this;lia
def At(t:TD)(a:bz)(q:Int):Prop:=∃w,bH t a=some w/\w.1=q
def Nn(t:TD)(a:bz)(q:Int):Prop:=∃w,bH t a=some w/\w.1<=q
structure Good(RL:List aV) (M U:List bz) (t:TD):Prop where
 nd:(t.map (·.1)).Nodup
 u:∀a v,bH t a=some v->a∈U
 ju:∀a v,bH t a=some v->Just RL M (At t) a v
 ps:∀a v,bH t a=some v->0<=v.1
 m0:∀a∈M,bH t a=some (0,none,none)
 Jz:∀(j:Nat)(r:aV),RL[j]?=some r->match r.2.2.2 with
  |[]=>Nn t (r.1,r.2.1,r.2.2.1) 1
  |[x]=>∀d q,At t (r.2.2.1,x,d) q->Nn t (r.1,r.2.1,d) (q+1)
  |[x,y]=>∀d e q1 q2,At t (r.2.2.1,x,d) q1->At t (d,y,e) q2->Nn t (r.1,r.2.1,e) (q1+q2+1)
  |_=>True
def Top.good(h:Top RL M U pile C S)(e:S.aA=[]):Good RL M U S.told:=by
 have hs:∀a q,Sd S a q↔At S.told a q:=λa q=>by
  constructor
  .intro k;exact(h.b.sd a q k).2
  .rintro⟨w,k,rfl⟩;rcases h.b.sp a w k with k|k|k
   .exact k
   .rw[e]at k;exact(du k).elim
   .exact(du k).elim
 refine⟨h.b.tk,h.b.tu,λa v k=>(h.b.ju a v k).mono RL M λa q=>(hs a q).mp,h.b.ps,λa ha=>?_,λj r hj=>?_⟩
 .obtain⟨v,k,_⟩:=h.mh a ha;rw[k,h.b.m0 a v k ha]
 .have hc:=h.Jz j r hj;cases hp:r.2.2.2 with
  |nil=>rw[hp]at hc;exact hc
  |cons x l=>
   rw[hp]at hc
   match l with
   |[]=>exact λt q k=>hc t q ((hs _ _).mpr k)
   |[y]=>exact λd t q1 q2 k1 k2=>hc d t q1 q2 ((hs _ _).mpr k1) ((hs _ _).mpr k2)
   |_::_::_=>trivial
def Set.run(P:t5 pile)(h:Set RL M U):kX (jL pile RL M)/\∃n T,Loop pile (bS RL) n (jL pile RL M) T/\Good RL M U T.told:=by have t:=zM (pile:=pile) h;obtain⟨n,T,l,t2,e⟩:=t.loop P h.Ms (λk=>gC (oq _ k) (HN RL).2) h.big h.Mq h.Mw _ _ _ (bK _) (bK _);exact⟨t.fit h.big h.Mq h.Mw,n,T,l,t2.good e⟩
end Pz
namespace Pz
def EN(x y k:Nat):(x ||| y)-(x &&& y)<2^k↔x/2^k=y/2^k:=by
 have hO:(x ||| y)/2^k=x/2^k ||| y/2^k:=by rw[<- vS,<- vS,<- vS,Nat.shiftRight_or_distrib]
 have hA:(x &&& y)/2^k=x/2^k &&& y/2^k:=by rw[<- vS,<- vS,<- vS,Nat.shiftRight_and_distrib]
 have mO:(x ||| y)%2^k=x%2^k ||| y%2^k:=Nat.or_mod_two_pow;have mA:(x &&& y)%2^k=x%2^k &&& y%2^k:=Nat.and_mod_two_pow;have pos:0<2^k:=Nat.two_pow_pos k;have dO:=Nat.div_add_mod (x ||| y) (2^k);have dA:=Nat.div_add_mod (x &&& y) (2^k);have lO:=QU (x ||| y) pos;have a1:x/2^k &&& y/2^k<=x/2^k:=Nat.and_le_left;have a2:x/2^k &&& y/2^k<=y/2^k:=Nat.and_le_right;have a3:x/2^k<=x/2^k ||| y/2^k:=Nat.left_le_or;have a4:y/2^k<=x/2^k ||| y/2^k:=Nat.right_le_or;have a5:x%2^k &&& y%2^k<=x%2^k:=Nat.and_le_left;have a6:x%2^k<=x%2^k ||| y%2^k:=Nat.left_le_or;constructor
 .intro h;refine Nat.le_antisymm ?_ ?_
  all_goals
   refine Nat.not_lt.mp λhc=>?_;have hlt:(x &&& y)/2^k+1<=(x ||| y)/2^k:=by lia
   have hm:=QC (2^k) hlt;rw[QR,Nat.mul_one]at hm;lia
 .grind
def EO(z k:Nat):(if((z:Int)==0)=true then 0 else(z:Int).natAbs.log2+1)<=k↔z<2^k:=by
 rw[Int.natAbs_natCast];by_cases h:z=0
 .subst h;rw[b_ (by decide)];exact⟨λ_=>Nat.two_pow_pos k,λ_=>jT _⟩
 .have:¬((z:Int)==0)=true:=by simpa using h
  rw[cF this];exact Nat.log2_lt h
end Pz
namespace L4
open PySem PySem.Spec PyProof.Rows L2 L3
section
variable{κ:Type}[DecidableEq κ]
noncomputable abbrev DX(κ:Type):=List (κ×Addr×List V)
noncomputable abbrev DX.kv(xs:DX κ):List (κ×V):=xs.map λx=>(x.1,V.ref x.2.1)
structure DL(mk:List (κ×V)->HO) (H:Hp) (a:Addr) (xs:DX κ):Prop where
 root:H a=some (mk xs.kv)
 t_:∀x∈xs,H x.2.1=some (.lst x.2.2)
 nk:(xs.map (·.1)).Nodup
 na:(xs.map (·.2.1)).Nodup
def dC(a:Addr)(xs:DX κ)(b:Addr):Prop:=b=a\/∃x∈xs,b=x.2.1
noncomputable def gS(xs:DX κ)(k:κ):Option (Addr×List V):=(xs.find? λx=>decide (x.1=k)).map (·.2)
noncomputable def m7(xs:DX κ)(k:κ)(v:V):DX κ:=xs.map λx=>if x.1=k then(x.1,x.2.1,x.2.2++[v])else x
def lq(xs:DX κ)(k:κ):d_ xs.kv k=(gS xs k).map λp=>.ref p.1:=by
 induction xs with
 |nil=>rfl
 |cons x r ih=>
  unfold gS at ih ⊢;show d_ ((x.1,V.ref x.2.1)::DX.kv r) k=_;rw[O4];by_cases h:x.1=k
  .rw[jv h,io h];rfl
  .rw[jw h,kW h,ih]
def zN(xs:DX κ)(k:κ)(v:V):(m7 xs k v).kv=xs.kv:=by unfold m7 DX.kv;rw[kg];apply vV;intro x _;show((if x.1=k then(x.1,x.2.1,x.2.2++[v])else x).1,V.ref (if x.1=k then(x.1,x.2.1,x.2.2++[v])else x).2.1)=_;split<;>rfl
def pQ{β:Type}(f:κ×Addr×List V->β)(hf:∀a b c d,f (a,b,c)=f (a,b,d))(xs:DX κ)(k:κ)(v:V):(m7 xs k v).map f=xs.map f:=by
 unfold m7;rw[kg];apply vV;intro x _;show f (if x.1=k then(x.1,x.2.1,x.2.2++[v])else x)=_;split
 .exact hf _ _ _ _
 .rfl
def eM{xs:DX κ}(h:gS xs k=some p):(k,p)∈xs:=by unfold gS at h;obtain⟨x,hx,rfl⟩:=Gr.mp h;have h1:=List.find?_some hx;have h2:=List.mem_of_find?_eq_some hx;have e:x.1=k:=t7 h1;obtain⟨a,b⟩:=x;dsimp only at e;subst e;exact h2
def zO{xs:DX κ}(h:gS xs k=none):k∉xs.map (·.1):=λhk=>by obtain⟨x,hx,rfl⟩:=d7.mp hk;unfold gS at h;have:=List.find?_eq_none.mp (Option.map_eq_none_iff.mp h) x hx;simp at this
variable{mk:List (κ×V)->HO}
def DL.old(hmk:∀q ws,mk q≠.lst ws)(G:DL mk H a xs)(hk:gS xs k=some p)(hm:H' p.1=some (.lst (p.2++[v])))(kp:∀c u,H c=some u->c≠p.1->H' c=some u):DL mk H' a (m7 xs k v):=by
 have hp:=eM hk;have nap:a≠p.1:=λe=>by have:=G.t_ _ hp;dsimp only at this;rw[<- e,G.root]at this;exact hmk _ _ (kY this)
 refine⟨by rw[zN];exact kp _ _ G.root nap,λx hx=>?_,by rw[pQ _ (λ_ _ _ _=>rfl)];exact G.nk,by rw[pQ _ (λ_ _ _ _=>rfl)];exact G.na⟩;obtain⟨y,hy,rfl⟩:=d7.mp hx;by_cases e:y.1=k
 .rw[b_ e];have:y=(k,p):=by
   have h1:(xs.map (·.1)).Nodup:=G.nk;obtain⟨i,hi⟩:=cS.mp hy;obtain⟨j,hj⟩:=cS.mp hp;have e1:(xs.map (·.1))[i]?=some k:=by rw[iq,hi];exact Pp some e
   have e2:(xs.map (·.1))[j]?=some k:=by rw[iq,hj];rfl
   have:i=j:=(QN (ci.mp e1).1 h1).mp (e1.trans e2.symm);subst this;rw[hi]at hj;exact kY hj
  subst this;exact hm
 .rw[cF e];refine kp _ _ (G.t_ y hy) λq=>e ?_;obtain⟨i,hi⟩:=cS.mp hy;obtain⟨j,hj⟩:=cS.mp hp;have e1:(xs.map (·.2.1))[i]?=some p.1:=by rw[iq,hi];exact Pp some q
  have e2:(xs.map (·.2.1))[j]?=some p.1:=by rw[iq,hj];rfl
  have:i=j:=(QN (ci.mp e1).1 G.na).mp (e1.trans e2.symm);subst this;rw[hi]at hj;rw[kY hj]
def DL.new(hmk:∀q ws,mk q≠.lst ws)(G:DL mk H a xs)(hk:gS xs k=none)(hl:H l=none)(hm:H' l=some (.lst [v]))(ha:H' a=some (mk (xs.kv++[(k,.ref l)])))(kp:∀c u,H c=some u->c≠a->H' c=some u):DL mk H' a (xs++[(k,l,[v])]):=by
 have nl:∀x∈xs,x.2.1≠l:=λx hx e=>by have:=G.t_ x hx;rw[e,hl]at this;cases this
 refine⟨by grind,λx hx=>?_,?_,?_⟩
 .rcases fD.mp hx with h|h
  .refine kp _ _ (G.t_ x h) λe=>?_;have:=G.t_ x h;rw[e,G.root]at this;exact hmk _ _ (kY this)
  .rw[ip]at h;subst h;exact hm
 .rw[Do,Pb];exact⟨G.nk,by simp,λb hb c hc e=>by rw[dz,Pk,ip]at hc;subst hc;subst e;exact zO hk hb⟩
 .rw[Do,Pb];exact⟨G.na,by simp,λb hb c hc e=>by rw[dz,Pk,ip]at hc;subst hc;subst e;obtain⟨x,hx,q⟩:=d7.mp hb;exact nl x hx q⟩
end
def Reads(t:TE)(σ:L2.St)(H:Hp)(v:V):Prop:=∀Q:VK,Q v H->t σ H Q
def Makes(t:TE)(σ:L2.St)(H:Hp)(ws:List V):Prop:=∀Q:VK,(∀p,H p=none->Q (.ref p) (aY H p (.tup ws)))->t σ H Q
section
variable{K:QY}
def Reads.va(h:σ[i]?=some (some v)):Reads (aH i) σ H v:=λ_ q=>⟨_,h,q⟩
def Reads.k:Reads (tC v) σ H v:=λ_ q=>q
def Reads.op(ha:Reads ta σ H x)(hb:Reads tb σ H y)(h:∀Q:VK,Q z H->r x y H Q):Reads (k7 r ta tb) σ H z:=λQ q=>ha _ (hb _ (h Q q))
def Reads.ix(h:Reads ta σ H (.ref b))(hs:H b=some (.tup ws))(e:hG ws n=some v):Reads (k7 (oP K) ta (tC (.int n))) σ H v:=h.op .k λ_ q=>⟨b,ws,n,v,rfl,rfl,SqT.of hs,e,q⟩
def Reads.fld(h:Reads ta σ H (.ref o))(hi:∃dx,H o=some (.ins C dx fs))(cl:ue K C)(n:NoAttr K C f)(hl:fs.lookup f=some v):Reads (fO K ta f) σ H v:=λQ q=>by obtain⟨dx,hi⟩:=hi;exact h _ ⟨o,C,dx,_,_,rfl,hi,cl,n,hl,q⟩
def HP(h:Reads ta σ H (.ref o))(hi:∃dx,H o=some (.ins C dx fs))(cl:ue K C)(n:NoAttr K C f)(hl:fs.lookup f=some v)(q:Q v H):fO K ta f σ H Q:=Reads.fld h hi cl n hl _ q
def ReadsA(t:TA)(σ:L2.St)(H:Hp)(vs:List V):Prop:=∀Q:List V->Hp->Prop,Q vs H->t σ H Q
def ReadsA.ni:ReadsA bF σ H []:=λ_ q=>q
def ReadsA.c(h:Reads ta σ H v)(k:ReadsA tr σ H vs):ReadsA (aB ta tr) σ H (v::vs):=λ_ q=>h _ (k _ q)
def Makes.t(h:ReadsA tr σ H ws)(l:Nat.ble ws.length 9=true):Makes (k8 tr) σ H ws:=λ_ q=>h _ ⟨gC (Nat.le_of_ble_eq_true l) (by decide),q⟩
def HQ(h:ReadsA tr σ H ws)(l:Nat.ble ws.length 9=true)(k:∀p,H p=none->Q (.ref p) (aY H p (.tup ws))):k8 tr σ H Q:=Makes.t h l _ k
def u4(h:Reads ta σ H (.ref b))(hi:∃dx,H b=some (.ins C dx fs))(hl:fs.lookup m=none)(ha:ReadsA tr σ H vs)(k:sp (.ref b::(vs++dvs)) H Q E):fR C m sp dvs E ta tr σ H Q:=by obtain⟨dx,hi⟩:=hi;exact h _ ⟨b,dx,fs,rfl,hi,hl,ha _ k⟩
def HR{Q:L2.St->Hp->Prop}(ht:H b=some (.tup [v,w]))(k:Q ((σ.set i (some v)).set j (some w)) H):jn K 2 (br (aU i) (br (aU j) jm)) (.ref b) σ H Q:=⟨b,_,rfl,SqT.of ht,rfl,_,_,rfl,_,_,rfl,rfl,k⟩
def u5{t u:TS}{D:Ends}(h:Reads te σ H (.bl c))(k1:c=true->t D σ H)(k2:¬c=true->u D σ H):vZ (nH te) t u D σ H:=h _ ⟨_,rfl,Na k1 k2⟩
end
def m8{κ:Type}[DecidableEq κ](xs:DX κ)(k:κ)(l:Addr)(v:V):DX κ:=if(gS xs k).isSome then m7 xs k v else xs++[(k,l,[v])]
def pR(K:QY)(to tk te:TE):TE:=J8 K "list" lP (J8 K "dict" Bq to (aB tk (aB (uu bF) bF))) (aB te bF)
def yi{κ:Type}[DecidableEq κ]{mk:List (κ×V)->HO}(hmk:∀q ws,mk q≠.lst ws){K:QY}{te:TE}{σ:L2.St}{H:Hp}{a l:Addr}{xs:DX κ}{k:κ}{ws:List V}{C:Hp->Prop}(G:DL mk H a xs)(hl:H l=none)
 (hte:∀H',(∀c u,H c=some u->c≠a->H' c=some u)->Makes te σ H' ws) (hw:∀x∈xs,x.2.2.length<16000000)
 (kk:∀(l p:Addr)(H':Hp),H l=none->H p=none->H' p=some (.tup ws)->DL mk H' a (m8 xs k l (.ref p))->(∀c u,H c=some u->¬dC a xs c->H' c=some u)->C H') :
 (∃v,d_ xs.kv k=some v/\J7 K "list" v (aY H l (.lst []))/\aB te bF σ (aY H l (.lst [])) λxs H2=>lP v xs H2 λ_ H'=>C H')\/(d_ xs.kv k=none/\J7 K "list" (.ref l) (aY (aY H l (.lst [])) a (mk (dn xs.kv k (.ref l))))/\aB te bF σ (aY (aY H l (.lst [])) a (mk (dn xs.kv k (.ref l)))) λxs H2=>lP (.ref l) xs H2 λ_ H'=>C H'):=by
 have sz:∀n,n<16000000->n<sizeLine:=λn h=>by rw[jY];lia
 have han:H a≠none:=by rw[G.root];simp
 have nal:a≠l:=λe=>han (by rw[e];exact hl);have kl:∀c u,H c=some u->aY H l (.lst []) c=some u:=λc u e=>by rw[aj (ay e hl)];exact e
 cases hf:gS xs k with
 |some q=>
  left;have hq:=G.t_ _ (eM hf);refine⟨.ref q.1,by rw[lq,hf];rfl,.inl ⟨rfl,_,SqL.of (kl _ _ hq)⟩,hte _ (λc u e _=>kl c u e) _ λp hp=>?_⟩;have hpH:H p=none:=(aQ hl).free hp;have nqp:q.1≠p:=λe=>by grind
  refine⟨q.1,q.2,.ref p,rfl,rfl,by rw[aj nqp];exact kl _ _ hq,sz _ (hw _ (eM hf)),?_⟩;have kp:∀c u,H c=some u->c≠q.1->aY (aY (aY H l (.lst [])) p (.tup ws)) q.1 (.lst (q.2++[.ref p])) c=some u:=λc u e hn=>by rw[aj hn,aj (ay e hpH)];exact kl c u e
  refine kk l p _ hl hpH (by rw[aj (vG nqp),aw]) ?_ λc u e hn=>kp c u e λz=>hn (.inr ⟨_,eM hf,z⟩);unfold m8;rw[hf,b_ (by simp)];exact G.old hmk hf aw kp
 |none=>
  right;refine⟨by rw[lq,hf];rfl,.inl ⟨rfl,[],SqL.of (by rw[aj (vG nal),aw])⟩,hte _ (λc u e hn=>by rw[aj hn];exact kl c u e) _ λp hp=>?_⟩;have hvn:d_ xs.kv k=none:=by rw[lq,hf];rfl
  have hpa:p≠a:=λe=>by rw[e,aw]at hp;cases hp
  have hpl:p≠l:=λe=>by rw[e,aj (vG nal),aw]at hp;cases hp
  have hpH:H p=none:=by rw[aj hpa,aj hpl]at hp;exact hp
  refine⟨l,[],.ref p,rfl,rfl,by rw[aj (vG hpl),aj (vG nal),aw],by decide,?_⟩;refine kk l p _ hl hpH (by rw[aj hpl,aw]) ?_ λc u e hn=>?_
  .unfold m8;rw[hf,cF (by simp)];refine G.new hmk hf hl aw (by rw[aj nal,aj (vG hpa),aw,uy _ hvn]) λc u e hn=>?_;rw[aj (ay e hl),aj (ay e hpH),aj hn];exact kl c u e
  .rw[aj (ay e hl),aj (ay e hpH),aj (λz=>hn (.inl z))];exact kl c u e
def tH{K:QY}{to tk te:TE}{σ:L2.St}{H:Hp}{C:Hp->Prop}(G:DL .dT H a xs)(hto:Reads to σ H (.ref a))(htk:Reads tk σ H (.ref b))(hb:H b=some (.tup (k.map kV)))
 (hte:∀H',(∀c u,H c=some u->c≠a->H' c=some u)->Makes te σ H' ws) (hz:xs.length<16000000) (hw:∀x∈xs,x.2.2.length<16000000)
 (kk:∀(l p:Addr)(H':Hp),H l=none->H p=none->H' p=some (.tup ws)->DL .dT H' a (m8 xs k l (.ref p))->(∀c u,H c=some u->¬dC a xs c->H' c=some u)->C H') :
 pR K to tk te σ H λ_ H'=>C H':=by
 have kl:∀l,H l=none->∀c u,H c=some u->aY H l (.lst []) c=some u:=λl hl c u e=>by rw[aj (ay e hl)];exact e
 exact hto _ ⟨.inr (.inr (.inl ⟨rfl,.inr ⟨_,G.root⟩⟩)),htk _ ⟨jT _,λl hl=>⟨a,b,k,.ref l,xs.kv,rfl,rfl,kl l hl _ _ hb,.inl (kl l hl _ _ G.root),by unfold DX.kv;rw[cG,jY];lia,yi (mk:=.dT) (λ_ _ z=>HO.noConfusion z) G hl hte hw kk⟩⟩⟩
def FZ(K:QY)(to tk te:TE):TE:=J8 K "list" lP (J8 K "dict" FJ to (aB tk (aB (uu bF) bF))) (aB te bF)
def EQ{K:QY}{to tk te:TE}{σ:L2.St}{H:Hp}{C:Hp->Prop}(G:DL .dK H a xs)(hto:Reads to σ H (.ref a))(htk:Reads tk σ H (.int i))
 (hte:∀H',(∀c u,H c=some u->c≠a->H' c=some u)->Makes te σ H' ws) (hz:xs.length<16000000) (hw:∀x∈xs,x.2.2.length<16000000)
 (kk:∀(l p:Addr)(H':Hp),H l=none->H p=none->H' p=some (.tup ws)->DL .dK H' a (m8 xs (.inl i) l (.ref p))->(∀c u,H c=some u->¬dC a xs c->H' c=some u)->C H') :
 FZ K to tk te σ H λ_ H'=>C H':=by
 have kl:∀l,H l=none->aY H l (.lst []) a=some (.dK xs.kv):=λl hl=>by rw[aj (ay G.root hl)];exact G.root
 exact hto _ ⟨.inr (.inr (.inl ⟨rfl,.inl ⟨_,G.root⟩⟩)),htk _ ⟨jT _,λl hl=>⟨a,.inl i,.ref l,xs.kv,rfl,rfl,.inl (kl l hl),by unfold DX.kv;rw[cG,jY];lia,yi (mk:=.dK) (λ_ _ z=>HO.noConfusion z) G hl hte hw kk⟩⟩⟩
section
def F0:V->List V->Hp->VK->Prop:=λx xs H Q=>∃i,x=.int i/\xs=[]/\Q (.int (Builtin.Int.intBits i)) H
def ER:G2 X "int.bit_length" F0:=by intro aa s σ H x xs v us Q I rx rs q;obtain⟨i,rfl,rfl,q⟩:=q;obtain⟨t,rfl⟩:=rx;cases rs;exact call_int_bit_length ⟨.int _,H,I.tok _,⟨_,rfl⟩,q⟩
end
structure Jw(C:Addr) (H:Hp) (q ap:Addr) (last:Int) (xs:DX cJ):Prop where
 ins:∃dx,H q=some (.ins C dx [("last",.int last),("piles",.ref ap)])
 aA:DL .dK H ap xs
 qD:xs.length<16000000
 low:∀x∈xs,x.2.2.length<16000000
structure t9(K:QY) (C:Addr):Prop where
 cl:ue K C
 nl:NoAttr K C "last"
 np:NoAttr K C "piles"
noncomputable def au(price last:Int):Int:=Builtin.Int.intBits (Builtin.bitXor price last)
def Kz(K:QY):TE:=FZ K (fO K (aH 0) "piles") (G6 K "int" F0 (k7 (xF λi j=>.int (Builtin.bitXor i j)) (aH 1) (fO K (aH 0) "last"))) (k8 (aB (aH 1) (aB (aH 2) bF)))
def HS{K:QY}{C q ap b:Addr}{H:Hp}{Cn:Hp->Prop}(T:t9 K C)(G:Jw C H q ap last xs)(h0:σ[0]?=some (some (.ref q)))(h1:σ[1]?=some (some (.int price)))(h2:σ[2]?=some (some (.ref b)))
 (kk:∀(l p:Addr)(H':Hp),H l=none->H p=none->H' p=some (.tup [.int price,.ref b])->(∃dx,H' q=some (.ins C dx [("last",.int last),("piles",.ref ap)]))->DL .dK H' ap (m8 xs (.inl (au price last)) l (.ref p))->(∀c u,H c=some u->¬dC ap xs c->H' c=some u)->Cn H') :
 Kz K σ H λ_ H'=>Cn H':=by
 obtain⟨dx,hq⟩:=G.ins;have nq:¬dC ap xs q:=λz=>by
  rcases z with z|⟨x,hx,z⟩
  .have:=G.aA.root;rw[<- z,hq]at this;cases this
  .have:=G.aA.t_ x hx;rw[<- z,hq]at this;cases this
 refine EQ (ws:=[.int price,.ref b]) (i:=au price last) G.aA (λQ h=>⟨_,h0,q,C,dx,_,_,rfl,hq,T.cl,T.np,rfl,h⟩) (λQ h=>?_) (λH' _ Q h=>⟨_,h1,_,h2,(by show 2<=sizeLine;decide),h⟩) G.qD G.low λl p H' hl hp hm hd kp=>kk l p H' hl hp hm ⟨dx,kp _ _ hq nq⟩ hd kp;exact⟨_,h1,_,h0,q,C,dx,_,_,rfl,hq,T.cl,T.nl,rfl,_,_,rfl,rfl,rfl,_,rfl,rfl,h⟩
inductive sj(C:Addr):Sp
 |mk {q ap b:Addr} {last price:Int} {xs:DX cJ} {H:Hp} {Q:VK} {E:XK} (G:Jw C H q ap last xs) (k:∀(l p:Addr)(H':Hp),H l=none->H p=none->H' p=some (.tup [.int price,.ref b])->(∃dx,H' q=some (.ins C dx [("last",.int last),("piles",.ref ap)]))->DL .dK H' ap (m8 xs (.inl (au price last)) l (.ref p))->(∀c u,H c=some u->¬dC ap xs c->H' c=some u)->Q .bL H'):sj C [.ref q,.int price,.ref b] H Q E
def zP(h:sj C vs H Q E):vs.length=3:=by cases h;rfl
def BZ{K:QY}{C:Addr}{vs:List V}(T:t9 K C)(h:sj C vs H Q E)(hN:N.length=3):fJ (Kz K) {nx:=λ_ H'=>Q .bL H',rt:=Q} (cK N vs) H:=by obtain⟨G,k⟩:=h;exact HS T G rfl rfl rfl k
section
variable{κ:Type}[DecidableEq κ]{mk:List (κ×V)->HO}{H H':Hp}{a:Addr}{xs:DX κ}{k:κ}{p:Addr×List V}
noncomputable def ma(xs:DX κ)(k:κ):DX κ:=xs.filter λx=>decide (x.1≠k)
def B0(xs:DX κ)(k:κ):(ma xs k).kv=kD xs.kv k:=by unfold ma kD DX.kv;rw[List.filter_map];rfl
theorem DL.drop(hmk:∀q ws,mk q≠.lst ws)(G:DL mk H a xs)(hk:gS xs k=some p)(ha:H' a=some (mk (kD xs.kv k)))(kp:∀c u,H c=some u->c≠a->H' c=some u) :
 DL mk H' a (ma xs k)/\H' p.1=some (.lst p.2)/\¬dC a (ma xs k) p.1:=by
 have hp:=eM hk;have nap:∀x∈xs,x.2.1≠a:=λx hx e=>by have:=G.t_ x hx;rw[e,G.root]at this;exact hmk _ _ (kY this)
 have sub:(ma xs k).Sublist xs:=List.filter_sublist;refine⟨⟨by rw[B0];exact ha,λx hx=>?_,(sub.map _).nodup G.nk,(sub.map _).nodup G.na⟩,kp _ _ (G.t_ _ hp) (nap _ hp),λz=>?_⟩
 .have hx':=(vP.mp hx).1;exact kp _ _ (G.t_ x hx') (nap x hx')
 .rcases z with z|⟨x,hx,z⟩
  .exact nap _ hp z
  .obtain⟨h1,h2⟩:=vP.mp hx;have hne:x.1≠k:=t7 h2;obtain⟨i,hi⟩:=cS.mp h1;obtain⟨j,hj⟩:=cS.mp hp;have e1:(xs.map (·.2.1))[i]?=some p.1:=by grind
   have e2:(xs.map (·.2.1))[j]?=some p.1:=by grind
   have:i=j:=(QN (ci.mp e1).1 G.na).mp (e1.trans e2.symm);subst this;rw[hi]at hj;exact hne (by grind)
end
end L4
namespace L4
open PySem PySem.Spec PySem.Calls PyProof.Rows L2 L3
section
abbrev u6(v d:Addr):HO:=.ext λh=>PySem.W.KdlKeysView h v d
def F1:V->List V->Hp->VK->Prop:=λx xs H Q=>∃a kvs,x=.ref a/\xs=[]/\H a=some (.dK kvs)/\∀v,H v=none->Q (.ref v) (aY H v (u6 v a))
def ES:G2 X "dict.keys" F1:=by intro aa s σ H x xs v us Q I rx rs q;obtain⟨a,kvs,rfl,rfl,ha,q⟩:=q;obtain rfl:v=Value.ref a:=rx;cases rs;obtain⟨z,hd,vs,rel,dd⟩:=xN I.aZ ha;refine Qi PySem.F.slot_dict_keys dd.typeIs PySem.F.entry_dict_keys (PySem.F.args_dict_keys_1 _) (PySem.W.kdl_meets_keys (aJ X.prog X.w) a hd) ?_;have hv:PySem.W.KdlKeysView (s.heap.push { cls:=.type "dict_keys",data:=.fields #[.ref a] }) s.heap.objs.size a:=⟨_,cQ _ rfl,rfl,rfl⟩;exact⟨⟨vs,dd⟩,.ref s.heap.objs.size,_,I.laid (a:=s.heap.objs.size) (o:=u6 s.heap.objs.size a) (t':=s.toks) (λ_ _ e=>bE _ e) (bK _) ⟨hv,⟨_,cQ _ rfl⟩,λh1 h2 ⟨o,ho,r⟩ k=>⟨o,k _ ho,r⟩⟩,rfl,q _ (I.aZ.fresh (bK _))⟩
def F2:List V->Hp->VK->Prop:=λxs H Q=>∃(v a:Addr)(kvs:List (cJ×V))(ns:List Int),xs=[.ref v]/\H v=some (u6 v a)/\H a=some (.dK kvs)/\kvs.map (·.1)=ns.map Sum.inl/\ns≠[]/\Q (.int (sO ns)) H
def zQ(hc:X.calm=true):CallR X (.builtin "min") F2:=by
 intro aa s σ H xs us Q I r q;obtain⟨v,a,kvs,ns,rfl,hv,ha,hk,hne,q⟩:=q;obtain⟨u,rfl,ru⟩:=gF r;obtain rfl:u=Value.ref v:=ru;obtain⟨z,hd,vs,rel,dd⟩:=xN I.aZ ha;obtain⟨hv',_,_⟩:=(show ObjOk X.prog X.w H s.heap v (u6 v a)from I.aZ v _ hv);obtain⟨ep,da⟩:=dd.dictAt;have hl:=rel.length;have hkn:kvs.length=ns.length:=by have:=Pp List.length hk;simpa using this
 have hvk:∀(i:Nat)(k:cJ)(x:Q0),vs[i]?=some (k,x)->∃n,ns[i]?=some n/\k=.inl n:=λi k x e=>by
  have hi:i<kvs.length:=by rw[hl];exact(ci.mp e).1
  obtain⟨e1,_⟩:=rel.at i _ _ (mJ hi) e;have e2:(kvs.map (·.1))[i]?=some k:=by rw[iq,mJ hi];exact Pp some e1
  rw[hk,iq]at e2;obtain⟨n,h1,h2⟩:=Gr.mp e2;exact⟨n,h1,h2.symm⟩
 generalize hps:(ns.map λn=>(n,(0:Tok))).toArray=ps;have hsz:ps.size=ns.length:=by rw[<- hps];simp
 have hna:∀(i:Nat)(n:Int),ns[i]?=some n->numAt ps i=n:=λi n e=>by unfold numAt;rw[<- hps];simp[e]
 have hpn:ps.toList.map (·.1)=ns:=by rw[<- hps];simp[Function.comp_def]
 have hpos:0<ns.length:=QB.mpr hne;have hne2:a≠s.heap.objs.size:=by obtain⟨o,_,_,ho,_⟩:=dd;exact e_ (cD ho)
 refine call_min_walk (PySem.W.kdl_pyIter_keys (knd:=aJ X.prog X.w) (s:=s) hv' da ?_);refine⟨_,_,_,_,_,_,_,rfl,Walks.dictKeys (knd:=aJ X.prog X.w) (A:=X.A.in1) (I.ok.hd hc) s.heap.objs.size a hne2 vs ep,⟨⟨_,cQ _ rfl,rfl,rfl⟩,da.at' λo e=>bE _ e⟩,λb hb=>?_,by lia,CmpOf.ints_lt (numAt ps) (λi v hv=>?_),λv h' tk hP kp=>?_⟩
 .simp only[cC,du,QW]at hb;rw[Px];rcases hb with rfl|rfl
  .exact Ps _
  .obtain⟨o,_,_,ho,_⟩:=dd;exact PJ (cD ho)
 .obtain⟨k,x,e1,e2⟩:=hv;obtain⟨n,e3,rfl⟩:=hvk i k x e1;obtain⟨j,t,e4,rfl⟩|⟨j,t,e4,_⟩:=bx (show lK (.inl n) v=true from e2)
  .cases e4;exact⟨t,by rw[hna i n e3]⟩
  .cases e4
 .obtain⟨k,x,e1,e2⟩:=hP;obtain⟨n,e3,rfl⟩:=hvk _ k x e1;obtain⟨j,t,e4,rfl⟩|⟨j,t,e4,_⟩:=bx (show lK (.inl n) v=true from e2)
  .cases e4;have hb:=ph ps (vs.length-1) (by lia);rw[hna _ n e3,hpn,qm (by lia)]at hb;exact⟨.int n,H,I.kept (t':=tk) λb o e=>kp b o (λhm=>by rw[ip]at hm;subst hm;exact Pn _ (cD e)) (bE _ e),⟨t,rfl⟩,by rw[hb];exact q⟩
  .cases e4
end
end L4
namespace L4
open PySem PySem.Spec PyProof.Rows L2 L3
inductive fj{α β:Type} (R:α->β->Prop):List α->List β->Prop where
 |nil:fj R [] []
 |cons {x y xs ys}:R x y->fj R xs ys->fj R (x::xs) (y::ys)
section
variable{α β:Type}{R R':α->β->Prop}
def fj.len(h:fj R xs ys):xs.length=ys.length:=by
 induction h with
 |nil=>rfl
 |cons _ _ ih=>rw[fU,fU,ih]
def fj.mono(f:∀x y,R x y->R' x y)(h:fj R xs ys):fj R' xs ys:=by
 induction h with
 |nil=>exact .nil
 |cons a _ ih=>exact .cons (f _ _ a) ih
def fj.snoc(h:fj R xs ys)(r:R x y):fj R (xs++[x]) (ys++[y]):=by
 induction h with
 |nil=>exact .cons r .nil
 |cons a _ ih=>exact .cons a ih
theorem fj.get(h:fj R xs ys){i:Nat}(e:ys[i]?=some y):∃x,xs[i]?=some x/\R x y:=by
 induction h generalizing i with
 |nil=>simp at e
 |cons a _ ih=>
  cases i with
  |zero=>simp at e;subst e;exact⟨_,rfl,a⟩
  |succ i=>simp at e;obtain⟨x,e1,e2⟩:=ih e;exact⟨x,by simpa using e1,e2⟩
def fj.Mv{γ δ:Type}{T:γ->δ->Prop}(f:α->γ)(g:β->δ)(k:∀x y,R x y->T (f x) (g y))(h:fj R xs ys):fj T (xs.map f) (ys.map g):=by
 induction h with
 |nil=>exact .nil
 |cons a _ ih=>exact .cons (k _ _ a) ih
end
def KT(H H':Hp):Prop:=∀a ws,H a=some (.tup ws)->H' a=some (.tup ws)
section
variable{κ κ' α:Type}[DecidableEq κ][DecidableEq κ'](key:κ->κ')(it:Hp->α->V->Prop)
abbrev RepM(H:Hp)(d:Pz.MD κ α)(xs:DX κ'):Prop:=fj (λx y=>y.1=key x.1/\fj (it H) x.2 y.2.2) d xs
variable{key it}
def RepM.keep(hm:∀a v,it H a v->it H' a v)(h:RepM key it H d xs):RepM key it H' d xs:=h.mono λ_ _ ⟨e,a⟩=>⟨e,a.mono hm⟩
def RepM.find(inj:∀a b,key a=key b->a=b)(h:RepM key it H d xs)(k:κ) :
 (gS xs (key k)=none/\d.has k=false/\d.get k=[])\/∃p,gS xs (key k)=some p/\d.has k=true/\fj (it H) (d.get k) p.2:=by
 induction h with
 |nil=>exact .inl ⟨rfl,rfl,rfl⟩
 |@cons x y d xs r _ ih=>
  unfold gS at ih ⊢;unfold Pz.MD.has at ih ⊢;rw[O4,Pz.eJ,QO];by_cases e:x.1=k
  .right;have:y.1=key k:=by rw[r.1,e]
   rw[io this,io e,b_ e];exact⟨y.2,rfl,rfl,r.2⟩
  .have:¬y.1=key k:=λz=>e (inj _ _ (r.1.symm.trans z));rw[kW this,kW e,cF e,Bool.false_or];exact ih
def RepM.add(inj:∀a b,key a=key b->a=b)(hm:∀a v,it H a v->it H' a v)(h:RepM key it H d xs)(hv:it H' v (.ref p)):RepM key it H' (d.app k v) (m8 xs (key k) l (.ref p)):=by
 have h':=h.keep hm;unfold Pz.MD.app m8;rcases h.find inj k with⟨e1,e2,_⟩|⟨q,e1,e2,_⟩
 .rw[e1,e2];exact h'.snoc ⟨rfl,.cons hv .nil⟩
 .rw[e1,e2];refine h'.Mv _ _ λx y ⟨r1,r2⟩=>?_;by_cases e:x.1=k
  .have:y.1=key k:=by rw[r1,e]
   rw[b_ e,b_ this];exact⟨r1,r2.snoc hv⟩
  .grind
theorem RepM.drop(inj:∀a b,key a=key b->a=b)(h:RepM key it H d xs)(k:κ):RepM key it H (d.drop k) (ma xs (key k)):=by
 induction h with
 |nil=>exact .nil
 |@cons x y d xs r _ ih=>
  unfold Pz.MD.drop ma at ih ⊢;by_cases e:x.1=k
  .have:y.1=key k:=by rw[r.1,e]
   rw[List.filter_cons_of_neg (by simpa using e),List.filter_cons_of_neg (by simpa using this)];exact ih
  .have:¬y.1=key k:=λz=>e (inj _ _ (r.1.symm.trans z));rw[List.filter_cons_of_pos (by simpa using e),List.filter_cons_of_pos (by simpa using this)];exact .cons r ih
theorem RepM.keys(h:RepM key it H d xs):xs.map (·.1)=d.keys.map key:=by
 induction h with
 |nil=>rfl
 |cons r _ ih=>grind
def RepM.low(h:RepM key it H d xs)(hn:d.flat.length<n):∀x∈xs,x.2.2.length<n:=by
 induction h with
 |nil=>exact λ_ h=>(du h).elim
 |@cons x y d xs r _ ih=>
  unfold Pz.MD.flat at hn ih;rw[PL,gV]at hn;intro z hz;rcases cC.mp hz with rfl|hz
  .have:=r.2.len;lia
  .exact ih (by lia) z hz
end
noncomputable def vO:Option Int->V
 |none=>.bL
 |some i=>.int i
noncomputable def qQ(a:Pz.bz):List V:=[.int a.1,.int a.2.1,.int a.2.2]
def IsArr(H:Hp)(a:Pz.bz)(v:V):Prop:=∃p,v=.ref p/\H p=some (.tup (qQ a))
def IsRule(H:Hp)(r:Pz.aV)(v:V):Prop:=∃p q,v=.ref p/\H p=some (.tup [.int r.1,.int r.2.1,.int r.2.2.1,.ref q])/\H q=some (.tup (r.2.2.2.map .int))
def IsVal(H:Hp)(x:Pz.Ar)(v:V):Prop:=∃p,v=.ref p/\H p=some (.tup [.int x.1,vO x.2.1,vO x.2.2])
def IsItem(H:Hp)(x:Int×Pz.bz)(v:V):Prop:=∃p w,v=.ref p/\H p=some (.tup [.int x.1,w])/\IsArr H x.2 w
def IsSet(H:Hp)(x:Int×Int)(v:V):Prop:=∃p,v=.ref p/\H p=some (.tup [.int x.1,.int x.2])
def IsLack(H:Hp)(x:Int×Pz.aV×Int)(v:V):Prop:=∃p w,v=.ref p/\H p=some (.tup [.int x.1,w,.int x.2.2])/\IsRule H x.2.1 w
def IsNum(H:Hp)(x:Int×Pz.aV)(v:V):Prop:=∃p w,v=.ref p/\H p=some (.tup [.int x.1,w])/\IsRule H x.2 w
section
variable(k:KT H H')
include k
def IsArr.keep(a:Pz.bz)(v:V):IsArr H a v->IsArr H' a v:=λ⟨p,e,h⟩=>⟨p,e,k _ _ h⟩
def IsRule.keep(a:Pz.aV)(v:V):IsRule H a v->IsRule H' a v:=λ⟨p,q,e,h,g⟩=>⟨p,q,e,k _ _ h,k _ _ g⟩
def IsVal.keep(a:Pz.Ar)(v:V):IsVal H a v->IsVal H' a v:=λ⟨p,e,h⟩=>⟨p,e,k _ _ h⟩
theorem IsItem.keep(a:Int×Pz.bz)(v:V):IsItem H a v->IsItem H' a v:=λ⟨p,w,e,h,g⟩=>⟨p,w,e,k _ _ h,IsArr.keep k _ _ g⟩
def IsSet.keep(a:Int×Int)(v:V):IsSet H a v->IsSet H' a v:=λ⟨p,e,h⟩=>⟨p,e,k _ _ h⟩
theorem IsLack.keep(a:Int×Pz.aV×Int)(v:V):IsLack H a v->IsLack H' a v:=λ⟨p,w,e,h,g⟩=>⟨p,w,e,k _ _ h,IsRule.keep k _ _ g⟩
theorem IsNum.keep(a:Int×Pz.aV)(v:V):IsNum H a v->IsNum H' a v:=λ⟨p,w,e,h,g⟩=>⟨p,w,e,k _ _ h,IsRule.keep k _ _ g⟩
end
noncomputable def ak(a:Pz.bz):List cJ:=[.inl a.1,.inl a.2.1,.inl a.2.2]
def B3(a b:Pz.bz)(h:ak a=ak b):a=b:=by grind [ak]
noncomputable def k2(k:Int×Int):List cJ:=[.inl k.1,.inl k.2]
def tJ(a b:Int×Int)(h:k2 a=k2 b):a=b:=by grind [k2]
noncomputable def k1(i:Int):cJ:=.inl i
def m_(a b:Int)(h:k1 a=k1 b):a=b:=Sum.inl.inj h
abbrev RepT(H:Hp)(t:Pz.TD)(kt:List (List cJ×V)):Prop:=fj (λx y=>y.1=ak x.1/\IsVal H x.2 y.2) t kt
theorem RepT.keep(k:KT H H')(h:RepT H t kt):RepT H' t kt:=h.mono λ_ _ ⟨e,a⟩=>⟨e,IsVal.keep k _ _ a⟩
def RepT.find(h:RepT H t kt)(a:Pz.bz) :
 (d_ kt (ak a)=none/\Pz.bH t a=none)\/∃v x,d_ kt (ak a)=some v/\Pz.bH t a=some x/\IsVal H x v:=by
 induction h with
 |nil=>exact .inl ⟨rfl,rfl⟩
 |@cons x y t kt r _ ih=>
  rw[Pz.d5];by_cases e:x.1=a
  .have:y.1=ak a:=by rw[r.1,e]
   rw[b_ e,jv this];exact .inr ⟨_,_,rfl,rfl,r.2⟩
  .have:¬y.1=ak a:=λz=>e (B3 _ _ (r.1.symm.trans z));rw[cF e,jw this];exact ih
def RepT.put(h:RepT H t kt)(hv:IsVal H x v):RepT H (Pz.tput t a x) (dn kt (ak a) v):=by
 unfold Pz.tput dn;rw[jy];rcases h.find a with⟨e1,e2⟩|⟨w,y,e1,e2,_⟩
 .rw[e1,e2];exact h.snoc ⟨rfl,hv⟩
 .rw[e1,e2];refine h.Mv _ _ λz y ⟨r1,r2⟩=>?_;by_cases e:z.1=a
  .have:y.1=ak a:=by rw[r1,e]
   rw[b_ e,b_ this];exact⟨r1,hv⟩
  .have:¬y.1=ak a:=λq=>e (B3 _ _ (r1.symm.trans q));rw[cF e,cF this];exact⟨r1,r2⟩
def j9{κ:Type}[DecidableEq κ]{xs:DX κ}{k:κ}{l a c:Addr}{v:V}(h:dC a (m8 xs k l v) c):dC a xs c\/c=l:=by
 rcases h with h|⟨x,hx,h⟩
 .exact .inl (.inl h)
 .unfold m8 at hx;split at hx
  .obtain⟨y,hy,rfl⟩:=d7.mp hx;refine .inl (.inr ⟨y,hy,?_⟩);rw[h];split<;>rfl
  .rcases fD.mp hx with hx|hx
   .exact .inl (.inr ⟨x,hx,h⟩)
   .rw[ip]at hx;subst hx;exact .inr h
section
variable{κ κ' α:Type}[DecidableEq κ][DecidableEq κ'](mk:List (κ'×V)->HO)(key:κ->κ')(it:Hp->α->V->Prop)
structure PM(col:Addr->Nat) (j:Nat) (B H:Hp) (a:Addr) (dd:Pz.MD κ α) (xs:DX κ'):Prop where
 d:DL mk H a xs
 r:RepM key it H dd xs
 c:∀c,dC a xs c->col c=j/\B c=none
variable{mk key it}{d:Pz.MD κ α}
def DL.obj(h:DL mk H a xs)(hc:dC a xs c):H c≠none:=by
 grind [DL,dC]
def DL.keep(h:DL mk H a xs)(kp:∀c u,H c=some u->dC a xs c->H' c=some u):DL mk H' a xs:=⟨kp _ _ h.root (.inl rfl),λx hx=>kp _ _ (h.t_ x hx) (.inr ⟨x,hx,rfl⟩),h.nk,h.na⟩
theorem PM.keep(h:PM mk key it col j B H a d xs)(hit:∀x v,it H x v->it H' x v)(kp:∀c u,H c=some u->col c=j->H' c=some u)(hc:∀c,H c≠none->col' c=col c):PM mk key it col' j B H' a d xs:=⟨h.d.keep λc u e i=>kp c u e (h.c c i).1,h.r.keep hit,λc i=>⟨by rw[hc c (h.d.obj i)];exact(h.c c i).1,(h.c c i).2⟩⟩
def DL.kt(hmk:∀q ws,mk q≠.tup ws)(h:DL mk H a xs)(kp:∀c u,H c=some u->¬dC a xs c->H' c=some u):KT H H':=by
 grind [DL,dC,KT]
noncomputable def tL(col:Addr->Nat)(j:Nat)(H:Hp):Addr->Nat:=λc=>open Classical in if H c=none then j else col c
def bt(hc:H a≠none):tL col j H a=col a:=by unfold tL;rw[cF hc]
def B4(hc:H a=none):tL col j H a=j:=by unfold tL;rw[b_ hc]
def PM.new(h:PM mk key it col j B H a d xs)(sm:Same B H)(h1:DL mk H' a xs')(h2:RepM key it H' d' xs')(hn:∀c,dC a xs' c->dC a xs c\/H c=none):PM mk key it (tL col j H) j B H' a d' xs':=
 ⟨h1,h2,λc i=>by
   rcases hn c i with i|e
   .rw[bt (h.d.obj i)];exact h.c c i
   .exact⟨B4 e,sm.free e⟩⟩
def PM.base(h:PM mk key it col j B H a d xs)(hb:∀c,dC a xs c->B' c=none):PM mk key it col j B' H a d xs:=⟨h.d,h.r,λc i=>⟨(h.c c i).1,hb c i⟩⟩
end
structure PA where
 o:Addr
 ta:Addr
 aq:Addr
 ap:Addr
 sa:Addr
 la:Addr
 ar:Addr
noncomputable def pf(A:PA):List (Str×V):=[("rules",.ref A.ar),("told",.ref A.ta),("offers",.ref A.aq),("settled",.ref A.sa),("lacking",.ref A.la)]
noncomputable abbrev qf(A:PA)(last:Int):List (Str×V):=[("last",.int last),("piles",.ref A.ap)]
structure PO(CP CQ:Addr) (col:Addr->Nat) (B H:Hp) (A:PA) (last:Int) (t:Pz.TD) (kt:List (List cJ×V)):Prop where
 ins:∃dx,H A.o=some (.ins CP dx (pf A))
 Dz:∃dx,H A.aq=some (.ins CQ dx (qf A last))
 td:H A.ta=some (.dT kt)
 tr:RepT H t kt
 c5:col A.ta=5/\B A.ta=none
 c6:col A.o=6/\B A.o=none
 c7:col A.aq=7/\B A.aq=none
structure bq(CP CQ:Addr) (B H:Hp) (A:PA) (rs:Pz.RS) (S:Pz.PS) (xs xl xr:DX (List cJ)) (xp:DX cJ) (kt:List (List cJ×V)) (col:Addr->Nat):Prop where
 same:Same B H
 p1:PM .dK k1 IsItem col 1 B H A.ap S.aA xp
 p2:PM .dT k2 IsSet col 2 B H A.sa S.settled xs
 p3:PM .dT k2 IsLack col 3 B H A.la S.aE xl
 p4:PM .dT k2 IsNum col 4 B H A.ar rs xr
 po:PO CP CQ col B H A S.last S.told kt
def PAt(CP CQ:Addr)(B H:Hp)(A:PA)(rs:Pz.RS)(S:Pz.PS)(xs xl xr:DX (List cJ)):Prop:=∃xp kt col,bq CP CQ B H A rs S xs xl xr xp kt col
section
theorem PO.keep(h:PO CP CQ col B H A last t kt)(k:KT H H')(kp:∀c u,H c=some u->5<=col c->col c<=7->H' c=some u)(hc:∀c,H c≠none->col' c=col c):PO CP CQ col' B H' A last t kt:=by
 obtain⟨⟨dx,h1⟩,⟨dy,h2⟩,h3,h4,c5,c6,c7⟩:=h;refine⟨⟨dx,kp _ _ h1 (by lia) (by lia)⟩,⟨dy,kp _ _ h2 (by lia) (by lia)⟩,kp _ _ h3 (by lia) (by lia),h4.keep k,?_,?_,?_⟩
 .rw[hc _ (by grind)];exact c5
 .rw[hc _ (by grind)];exact c6
 .rw[hc _ (by grind)];exact c7
def bq.pile(h:bq CP CQ B H A rs S xs xl xr xp kt col)(h1:DL .dK H' A.ap xp')(h2:RepM k1 IsItem H' d' xp')(hn:∀c,dC A.ap xp' c->dC A.ap xp c\/H c=none)
 (kp:∀c u,H c=some u->¬dC A.ap xp c->H' c=some u):bq CP CQ B H' A rs {S with aA:=d'} xs xl xr xp' kt (tL col 1 H):=by
 have k:KT H H':=h.p1.d.kt (λ_ _ z=>HO.noConfusion z) kp;have kj:∀c u,H c=some u->col c≠1->H' c=some u:=λc u e n=>kp c u e λi=>n (h.p1.c c i).1;exact⟨(λc u e=>kp c u (h.same c u e) λi=>by rw[(h.p1.c c i).2]at e;cases e),h.p1.new h.same h1 h2 hn,h.p2.keep (IsSet.keep k) (λc u e z=>kj c u e (by lia)) λc=>bt,h.p3.keep (IsLack.keep k) (λc u e z=>kj c u e (by lia)) λc=>bt,h.p4.keep (IsNum.keep k) (λc u e z=>kj c u e (by lia)) λc=>bt,h.po.keep k (λc u e z _=>kj c u e (by lia)) λc=>bt⟩
def bq.N2(h:bq CP CQ B H A rs S xs xl xr xp kt col)(h1:DL .dT H' A.sa xs')(h2:RepM k2 IsSet H' d' xs')(hn:∀c,dC A.sa xs' c->dC A.sa xs c\/H c=none)
 (kp:∀c u,H c=some u->¬dC A.sa xs c->H' c=some u):bq CP CQ B H' A rs {S with settled:=d'} xs' xl xr xp kt (tL col 2 H):=by
 have k:KT H H':=h.p2.d.kt (λ_ _ z=>HO.noConfusion z) kp;have kj:∀c u,H c=some u->col c≠2->H' c=some u:=λc u e n=>kp c u e λi=>n (h.p2.c c i).1;exact⟨(λc u e=>kp c u (h.same c u e) λi=>by rw[(h.p2.c c i).2]at e;cases e),h.p1.keep (IsItem.keep k) (λc u e z=>kj c u e (by lia)) λc=>bt,h.p2.new h.same h1 h2 hn,h.p3.keep (IsLack.keep k) (λc u e z=>kj c u e (by lia)) λc=>bt,h.p4.keep (IsNum.keep k) (λc u e z=>kj c u e (by lia)) λc=>bt,h.po.keep k (λc u e z _=>kj c u e (by lia)) λc=>bt⟩
def bq.tF(h:bq CP CQ B H A rs S xs xl xr xp kt col)(h1:DL .dT H' A.la xl')(h2:RepM k2 IsLack H' d' xl')(hn:∀c,dC A.la xl' c->dC A.la xl c\/H c=none)
 (kp:∀c u,H c=some u->¬dC A.la xl c->H' c=some u):bq CP CQ B H' A rs {S with aE:=d'} xs xl' xr xp kt (tL col 3 H):=by
 have k:KT H H':=h.p3.d.kt (λ_ _ z=>HO.noConfusion z) kp;have kj:∀c u,H c=some u->col c≠3->H' c=some u:=λc u e n=>kp c u e λi=>n (h.p3.c c i).1;exact⟨(λc u e=>kp c u (h.same c u e) λi=>by rw[(h.p3.c c i).2]at e;cases e),h.p1.keep (IsItem.keep k) (λc u e z=>kj c u e (by lia)) λc=>bt,h.p2.keep (IsSet.keep k) (λc u e z=>kj c u e (by lia)) λc=>bt,h.p3.new h.same h1 h2 hn,h.p4.keep (IsNum.keep k) (λc u e z=>kj c u e (by lia)) λc=>bt,h.po.keep k (λc u e z _=>kj c u e (by lia)) λc=>bt⟩
def bq.more(h:bq CP CQ B H A rs S xs xl xr xp kt col)(s:Same H H'):bq CP CQ B H' A rs S xs xl xr xp kt col:=by have k:KT H H':=λa ws e=>s a _ e;exact⟨h.same.trans s,h.p1.keep (IsItem.keep k) (λc u e _=>s c u e) λ_ _=>rfl,h.p2.keep (IsSet.keep k) (λc u e _=>s c u e) λ_ _=>rfl,h.p3.keep (IsLack.keep k) (λc u e _=>s c u e) λ_ _=>rfl,h.p4.keep (IsNum.keep k) (λc u e _=>s c u e) λ_ _=>rfl,h.po.keep k (λc u e _ _=>s c u e) λ_ _=>rfl⟩
theorem PAt.more(h:PAt CP CQ B H A rs S xs xl xr)(s:Same H H'):PAt CP CQ B H' A rs S xs xl xr:=let ⟨xp,kt,col,h⟩:=h;⟨xp,kt,col,h.more s⟩
def bq.tell(h:bq CP CQ B H A rs S xs xl xr xp kt col)(hp:H p=some (.tup [.int x.1,vO x.2.1,vO x.2.2])) :
 bq CP CQ B (aY H A.ta (.dT (dn kt (ak a) (.ref p)))) A rs {S with told:=Pz.tput S.told a x} xs xl xr xp (dn kt (ak a) (.ref p)) col:=by
 have kp:∀c u,H c=some u->col c≠5->aY H A.ta (.dT (dn kt (ak a) (.ref p))) c=some u:=λc u e n=>by rw[aj (λz=>n (by rw[z];exact h.po.c5.1))];exact e
 have k:KT H (aY H A.ta (.dT (dn kt (ak a) (.ref p)))):=λc ws e=>by rw[aj (λz=>by rw[z,h.po.td]at e;cases e)];exact e
 obtain⟨⟨dx,h1⟩,⟨dy,h2⟩,h3,h4,c5,c6,c7⟩:=h.po;refine⟨λc u e=>?_,h.p1.keep (IsItem.keep k) (λc u e z=>kp c u e (by lia)) λ_ _=>rfl,h.p2.keep (IsSet.keep k) (λc u e z=>kp c u e (by lia)) λ_ _=>rfl,h.p3.keep (IsLack.keep k) (λc u e z=>kp c u e (by lia)) λ_ _=>rfl,h.p4.keep (IsNum.keep k) (λc u e z=>kp c u e (by lia)) λ_ _=>rfl,⟨dx,kp _ _ h1 (by lia)⟩,⟨dy,kp _ _ h2 (by lia)⟩,aw,(h4.keep k).put ⟨p,rfl,k _ _ hp⟩,c5,c6,c7⟩;rw[aj (λz=>by grind)];exact h.same c u e
def bq.wide(h:bq CP CQ B H A rs S xs xl xr xp kt col)(Z:Addr->Prop)(hz:∀c,Z c->¬dC A.ap xp c/\¬dC A.sa xs c/\¬dC A.la xl c/\¬dC A.ar xr c/\c≠A.ta/\c≠A.o/\c≠A.aq) :
 ∃B',Same B B'/\KT H B'/\(∀c u,Z c->H c=some u->B' c=some u)/\bq CP CQ B' H A rs S xs xl xr xp kt col:=by
 classical
 refine⟨λc=>if B c≠none\/Z c\/∃ws,H c=some (.tup ws)then H c else none,λc u e=>?_,λc ws e=>?_,λc u z e=>?_,λc u e=>?_,h.p1.base λc i=>?_,h.p2.base λc i=>?_,h.p3.base λc i=>?_,h.p4.base λc i=>?_,h.po.ins,h.po.Dz,h.po.td,h.po.tr,⟨h.po.c5.1,?_⟩,⟨h.po.c6.1,?_⟩,⟨h.po.c7.1,?_⟩⟩
 .dsimp only;rw[b_ (.inl (by grind))];exact h.same c u e
 .dsimp only;rw[b_ (.inr (.inr ⟨ws,e⟩))];exact e
 .dsimp only;rw[b_ (.inr (.inl z))];exact e
 .split at e
  .exact e
  .cases e
 all_goals
  refine cF λq=>?_
 .rcases q with q|q|⟨ws,q⟩
  .exact q (h.p1.c c i).2
  .exact(hz c q).1 i
  .rcases i with rfl|⟨x,hx,rfl⟩
   .rw[h.p1.d.root]at q;cases q
   .rw[h.p1.d.t_ x hx]at q;cases q
 .rcases q with q|q|⟨ws,q⟩
  .exact q (h.p2.c c i).2
  .exact(hz c q).2.1 i
  .rcases i with rfl|⟨x,hx,rfl⟩
   .rw[h.p2.d.root]at q;cases q
   .rw[h.p2.d.t_ x hx]at q;cases q
 .rcases q with q|q|⟨ws,q⟩
  .exact q (h.p3.c c i).2
  .exact(hz c q).2.2.1 i
  .rcases i with rfl|⟨x,hx,rfl⟩
   .rw[h.p3.d.root]at q;cases q
   .rw[h.p3.d.t_ x hx]at q;cases q
 .rcases q with q|q|⟨ws,q⟩
  .exact q (h.p4.c c i).2
  .exact(hz c q).2.2.2.1 i
  .rcases i with rfl|⟨x,hx,rfl⟩
   .rw[h.p4.d.root]at q;cases q
   .rw[h.p4.d.t_ x hx]at q;cases q
 .rcases q with q|q|⟨ws,q⟩
  .exact q h.po.c5.2
  .exact(hz _ q).2.2.2.2.1 rfl
  .rw[h.po.td]at q;cases q
 .rcases q with q|q|⟨ws,q⟩
  .exact q h.po.c6.2
  .exact(hz _ q).2.2.2.2.2.1 rfl
  .obtain⟨dx,e⟩:=h.po.ins;rw[e]at q;cases q
 .rcases q with q|q|⟨ws,q⟩
  .exact q h.po.c7.2
  .exact(hz _ q).2.2.2.2.2.2 rfl
  .obtain⟨dx,e⟩:=h.po.Dz;rw[e]at q;cases q
def PAt.less(h:PAt CP CQ B' H A rs S xs xl xr)(s:Same B B'):PAt CP CQ B H A rs S xs xl xr:=by obtain⟨xp,kt,col,h⟩:=h;refine⟨xp,kt,col,s.trans h.same,h.p1.base λc i=>s.free (h.p1.c c i).2,h.p2.base λc i=>s.free (h.p2.c c i).2,h.p3.base λc i=>s.free (h.p3.c c i).2,h.p4.base λc i=>s.free (h.p4.c c i).2,h.po.ins,h.po.Dz,h.po.td,h.po.tr,⟨h.po.c5.1,s.free h.po.c5.2⟩,⟨h.po.c6.1,s.free h.po.c6.2⟩,⟨h.po.c7.1,s.free h.po.c7.2⟩⟩
theorem PAt.same(h:PAt CP CQ B H A rs S xs xl xr):Same B H:=let ⟨_,_,_,h⟩:=h;h.same
end
def ET(x y:Nat):Builtin.bitXor (x:Int) (y:Int)=(((x ||| y)-(x &&& y):Nat):Int):=by
 have n1:∀z:Nat,decide (0<=Builtin.bitNot (z:Int))=false:=λz=>kW (by unfold Builtin.bitNot;lia);have n2:∀z:Nat,(Builtin.bitNot (Builtin.bitNot (z:Int))).toNat=z:=λz=>by unfold Builtin.bitNot;lia
 have p1:∀z:Nat,decide (0<=(z:Int))=true:=λz=>io (by lia);have eA:Builtin.bitAnd (x:Int) (y:Int)=((x &&& y:Nat):Int):=by unfold Builtin.bitAnd;rw[p1,p1];rfl
 have eO:Builtin.bitOr (x:Int) (y:Int)=((x ||| y:Nat):Int):=by unfold Builtin.bitOr Builtin.bitAnd;rw[n1,n1];show Builtin.bitNot (Builtin.bitNot (((Builtin.bitNot (Builtin.bitNot (x:Int))).toNat |||(Builtin.bitNot (Builtin.bitNot (y:Int))).toNat:Nat):Int))=_;rw[n2,n2];unfold Builtin.bitNot;lia
 unfold Builtin.bitXor;rw[eA,eO];have:x &&& y<=x ||| y:=gC Nat.and_le_left Nat.left_le_or;lia
def yj:Pz.t5 au:=by
 have key:∀{p l:Int},0<=p->0<=l->∃z:Nat,au p l=(z:Int)/\∀k:Nat,z<=k↔p/2^k=l/2^k:=by
  intro p l hp hl;obtain⟨x,rfl⟩:=Dt hp;obtain⟨y,rfl⟩:=Dt hl;refine⟨_,rfl,λk=>?_⟩;rw[ET];unfold Builtin.Int.intBits;rw[Pz.EO,Pz.EN];have e:∀z:Nat,(z:Int)/2^k=((z/2^k:Nat):Int):=λz=>by rw[Int.natCast_ediv];norm_cast
  rw[e,e];lia
 constructor
 .intro p l hp hl;obtain⟨z,e,_⟩:=key hp hl;rw[e];lia
 .intro p l hp hl k;obtain⟨z,e,h⟩:=key hp hl;rw[e,<- h k];lia
section
variable{K:QY}{C q ap:Addr}{H:Hp}{last:Int}
inductive mH(C:Addr):Sp
 |mk {q dx:Addr} {H:Hp} {Q:VK} {E:XK} (hq:H q=some (.ins C dx [])) (k:∀(d:Addr)(H':Hp),H d=none->H' q=some (.ins C dx [("last",.int 0),("piles",.ref d)])->H' d=some (.dK [])->(∀b o,H b=some o->b≠q->H' b=some o)->Q .bL H'):mH C [.ref q] H Q E
def HU(K:QY):TS:=fk (sr K (aH 0) (tC (.int 0)) "last") (sr K (aH 0) AU "piles")
def u7(h:mH C vs H Q E):vs.length=1:=by cases h;rfl
def w6(T:t9 K C)(h:mH C vs H Q E):HU K {nx:=λ_ H'=>Q .bL H',rt:=Q} (cK N vs) H:=by
 obtain @⟨q,dx,_,_,_,hq,k⟩:=h;refine⟨_,rfl,q,C,dx,[],rfl,hq,T.cl,T.nl,(by show 0<1000;decide),?_⟩;intro d hd;have hdq:d≠q:=λe=>by rw[e,aw]at hd;cases hd
 have hd0:H d=none:=by rw[aj hdq]at hd;exact hd
 refine⟨_,rfl,q,C,dx,_,rfl,(by rw[aj (vG hdq),aw]),T.cl,T.np,(by show 1<1000;decide),?_⟩;refine k d _ hd0 (by rw[aw];rfl) (by rw[aj hdq,aw]) λb o e hb=>?_;rw[aj hb,aj (ay e hd0),aj hb];exact e
inductive mG(C:Addr):Sp
 |mk {q ap dx:Addr} {last:Int} {kvs:List (cJ×V)} {H:Hp} {Q:VK} {E:XK} (hq:H q=some (.ins C dx [("last",.int last),("piles",.ref ap)])) (ha:H ap=some (.dK kvs)) (hl:kvs.length<=sizeLine) (k:Q (.bl (decide (kvs.length=0))) H):mG C [.ref q] H Q E
def F3:List V->Hp->VK->Prop:=λxs H Q=>∃(d:Addr)(kvs:List (cJ×V))(u:HO),xs=[.ref d]/\(u=.dK kvs\/(u=.dT []/\kvs=[]))/\Rd H d u/\kvs.length<=sizeLine/\Q (.int kvs.length) H
def zR:CallR X (.builtin "len") F3:=zF
def HV(K:QY):TS:=yM (k7 JN (DR F3 (aB (fO K (aH 0) "piles") bF)) (tC (.int 0)))
def u9(h:mG C vs H Q E):vs.length=1:=by cases h;rfl
def w8(T:t9 K C)(h:mG C vs H Q E):HV K {nx:=λ_ H'=>Q .bL H',rt:=Q} (cK N vs) H:=by
 obtain @⟨q,ap,dx,last,kvs,_,_,_,hq,ha,hl,k⟩:=h;refine⟨_,rfl,q,C,dx,_,_,rfl,hq,T.cl,T.np,rfl,ap,kvs,_,rfl,.inl rfl,.inl ha,hl,rfl,?_⟩;have:decide (V.int (kvs.length:Int)=V.int 0)=decide (kvs.length=0):=by apply decide_eq_decide.mpr;exact⟨λe=>by injection e with e;lia,λe=>by rw[e];rfl⟩
 rw[this];exact k
def Np(C q ap:Addr)(d:Pz.Q Pz.bz)(xp:DX cJ)(H:Hp)(Q:VK):Prop:=∀(l:Addr)(vs':List V)(xp':DX cJ)(H':Hp),Jw C H' q ap (Pz.lowP d) xp'->RepM k1 IsItem H' (Pz.left au d) xp'->H' l=some (.lst vs')->fj (IsItem H') (Pz.eL au d) vs'->¬dC ap xp' l->(dC ap xp l\/H l=none)->(∀c,dC ap xp' c->dC ap xp c\/H c=none)->
 (∀c u,H c=some u->¬dC ap xp c->c≠q->H' c=some u)->Q (.ref l) H'
inductive qp(C:Addr):Sp
 |mk {q ap:Addr} {last:Int} {xp:DX cJ} {d:Pz.Q Pz.bz} {H:Hp} {Q:VK} {E:XK} (G:Jw C H q ap last xp) (R:RepM k1 IsItem H d xp) (ok:Pz.vY au last d) (hne:d≠[]) (hfew:d.flat.length<16000000)
  (k:Np C q ap d xp H Q):qp C [.ref q] H Q E
def w_(h:qp C vs H Q E):vs.length=1:=by cases h;rfl
def HW(K:QY):TS:=yM (oT (fO K (aH 0) "piles") (tC (.int 0)))
def KA(C:Addr):TS:=fJ (fR C "add" (sj C) [] E0 (aH 0) (aB (aH 2) (aB (aH 3) bF)))
def Nq(K:QY)(C:Addr):TS:=fk (nW (kC K (aH 1)) (jn K 2 (br (aU 2) (br (aU 3) jm))) (KA C)) (HW K)
def KB(K:QY)(C:Addr)(tm:TE):TS:=fk (sr K (aH 0) tm "last") (Nq K C)
def F4(K:QY)(C:Addr)(tm:TE):TS:=fk (lM (oT (fO K (aH 0) "piles") (DR F2 (aB (G6 K "dict" F1 (fO K (aH 0) "piles")) bF))) (aU 1)) (KB K C tm)
def HX(tm:TE):Prop:=∀(σ:L2.St)(H:Hp)(a:Addr)(vs:List V)(its:List (Int×Pz.bz))(Q:VK),σ[1]?=some (some (.ref a))->H a=some (.lst vs)->fj (IsItem H) its vs->its≠[]->its.length<16000000->(∀H',Same H H'->Q (.int (Pz.lo (its.map (·.1)))) H')->tm σ H Q
def yk(l:List Int):sO l=Pz.lo l:=by cases l<;>rfl
def EU{κ:Type}(xs:DX κ):xs.kv.map (·.1)=xs.map (·.1):=by unfold DX.kv;rw[kg];rfl
def Jw.ne(G:Jw C H q ap last xp)(i:dC ap xp c):c≠q:=λe=>by
 obtain⟨dx,hq⟩:=G.ins;rcases i with z|⟨x,hx,z⟩
 .have:=G.aA.root;rw[<- z,e,hq]at this;cases this
 .have:=G.aA.t_ x hx;rw[<- z,e,hq]at this;cases this
end
section
variable{K:QY}{C q ap:Addr}{H:Hp}{last:Int}{xp:DX cJ}
def nP(m:Int)(d:Pz.Q Pz.bz)(l:List (Int×Pz.bz))(x:Int×Pz.bz):Pz.dF au m d (l++[x])=(Pz.dF au m d l).app (au x.1 m) x:=by unfold Pz.dF;rw[Pf];rfl
def tM(s:Same H H'):KT H H':=λa ws e=>s a _ e
variable{D:Ends}{σ:L2.St}{d:Pz.Q Pz.bz}{H0:Hp}{p:Addr×List V}{i:Nat}{xi:DX cJ}
structure MS(C q ap:Addr) (d:Pz.Q Pz.bz) (H0:Hp) (xp:DX cJ) (p:Addr×List V) (i:Nat) (H:Hp) (xi:DX cJ):Prop where
 G:Jw C H q ap (Pz.lowP d) xi
 R:RepM k1 IsItem H (Pz.dF au (Pz.lowP d) (d.drop (Pz.cu d)) ((d.get (Pz.cu d)).take i)) xi
 l:H p.1=some (.lst p.2)
 n:¬dC ap xi p.1
 a:fj (IsItem H) (d.get (Pz.cu d)) p.2
 sub:∀c,dC ap xi c->dC ap xp c\/H0 c=none
 kp:∀c u,H0 c=some u->¬dC ap xp c->c≠q->H c=some u
def MM(q:Addr)(l:Addr)(σ:L2.St):Prop:=∃u v,σ=[some (.ref q),some (.ref l),u,v]
def OE(I:MS C q ap d H0 xp p i H xi)(hx:(d.get (Pz.cu d))[i]?=some x)(h:IsItem H x v)(hs:MM q p.1 σ)(ok:(Pz.dF au (Pz.lowP d) (d.drop (Pz.cu d)) ((d.get (Pz.cu d)).take (i+1))).Ok)(qD:(Pz.dF au (Pz.lowP d) (d.drop (Pz.cu d)) ((d.get (Pz.cu d)).take (i+1))).flat.length<16000000)
 (k:∀σ' H' xi',MM q p.1 σ'->MS C q ap d H0 xp p (i+1) H' xi'->D.nx σ' H'):jn K 2 (br (aU 2) (br (aU 3) jm)) v σ H λσ2 H2=>KA C D σ2 H2:=by
 obtain⟨t,_,rfl,ht,b,rfl,hb⟩:=h;obtain⟨u,w,rfl⟩:=hs;refine HR ht (u4 (.va rfl) I.G.ins rfl (.c (.va rfl) (.c (.va rfl) .ni)) (.mk I.G λl p' H6 hl hp' hm hq6 hD6 kp6=>?_));have kt6:KT H H6:=I.G.aA.kt (λ_ _ z=>HO.noConfusion z) kp6;rw[O1,hx,show(some x).toList=[x]from rfl,nP]at ok qD;have R6:RepM k1 IsItem H6 _ (m8 xi (.inl (au x.1 (Pz.lowP d))) l (.ref p')):=I.R.add (k:=au x.1 (Pz.lowP d)) m_ (IsItem.keep kt6) ⟨p',_,rfl,hm,b,rfl,kt6 _ _ hb⟩;refine k _ H6 _ ⟨_,_,rfl⟩ ⟨⟨hq6,hD6,?_,R6.low qD⟩,?_,kp6 _ _ I.l I.n,λz=>?_,I.a.mono (IsItem.keep kt6),λc z=>?_,λc u e n m=>?_⟩
 .have:=R6.len;have:=Pz.iN ok;exact nT (by lia) qD
 .rw[O1,hx,show(some x).toList=[x]from rfl,nP];exact R6
 .rcases j9 z with z|z
  .exact I.n z
  .rw[<- z,I.l]at hl;cases hl
 .rcases j9 z with z|rfl
  .exact I.sub c z
  .by_cases i':dC ap xp c
   .exact .inl i'
   .refine .inr ?_;cases e:H0 c with
    |none=>rfl
    |some u=>
     by_cases z:c=q
     .obtain⟨_,hq⟩:=I.G.ins;rw[z,hq]at hl;cases hl
     .rw[I.kp c u e i' z]at hl;cases hl
 .exact kp6 _ _ (I.kp c u e n m) λz=>(I.sub c z).elim n λz=>by rw[z]at e;cases e
def ym{κ:Type}[DecidableEq κ]{xs:DX κ}{k:κ}{a c:Addr}(i:dC a (ma xs k) c):dC a xs c:=i.imp id λ⟨x,hx,e⟩=>⟨x,(vP.mp hx).1,e⟩
def OF(T:t9 K C)(TK:Pz.JH au last d)(hfew:d.flat.length<16000000)(I:MS C q ap d H0 xp p p.2.length H xi)(hs:MM q p.1 σ)
 (k:Np C q ap d xp H0 D.rt):HW K D σ H:=by
 obtain⟨u,w,rfl⟩:=hs;have Ri:=I.R;rw[qm (by rw[I.a.len];exact bK _)]at Ri;have Ri:RepM k1 IsItem H (Pz.mid au d) xi:=Ri;have ha:=I.G.aA.root;obtain⟨dy,hq⟩:=I.G.ins;rcases Ri.find m_ 0 with⟨_,hh,_⟩|⟨p1,f1,_,a1⟩
 .have:=Pz.has_iff.mpr TK.k3;rw[hh]at this;cases this
 delta HW yM oT
 refine HP (.va rfl) I.G.ins T.cl T.np rfl ⟨ap,rfl,.inl ⟨_,.inl ha⟩,xi.kv,k1 0,.ref p1.1,ha,rfl,(by rw[lq,f1];rfl),?_⟩;generalize hH6:aY H ap (.dK (kD xi.kv (k1 0)))=H6;have kp6:∀c u,H c=some u->c≠ap->H6 c=some u:=λc u e n=>by rw[<- hH6,aj n];exact e
 obtain⟨D6,l6,n6⟩:=I.G.aA.drop (λ_ _ z=>HO.noConfusion z) f1 (by rw[<- hH6,aw]) kp6;have kt6:KT H H6:=λc ws e=>kp6 c _ e λz=>by rw[z,ha]at e;cases e
 have R6:RepM k1 IsItem H6 (Pz.left au d) (ma xi (k1 0)):=(Ri.drop m_ 0).keep (IsItem.keep kt6);have fl6:(Pz.left au d).flat.length<16000000:=by have:=TK.pm.length_eq;rw[gV]at this;lia
 have:=R6.len;have:=Pz.iN TK.ok.ok;exact k p1.1 p1.2 _ H6 ⟨⟨dy,kp6 _ _ hq λe=>by rw[e,ha]at hq;cases hq⟩,D6,by lia,R6.low fl6⟩ R6 l6 (a1.mono (IsItem.keep kt6)) n6 (I.sub _ (.inr ⟨_,eM f1,rfl⟩)) (λc z=>I.sub c (ym z)) λc u e n m=>kp6 _ _ (I.kp c u e n m) λz=>n (.inl z)
def tk1(T:t9 K C)(HM:HX tm)(TK:Pz.JH au last d)(ok:d.Ok)(hfew:d.flat.length<16000000)(hq:∃dx,H q=some (.ins C dx [("last",.int last),("piles",.ref ap)])) (D2:DL .dK H ap xi) (R2:RepM k1 IsItem H (d.drop (Pz.cu d)) xi) (nq:∀c,dC ap xp c->c≠q) (l2:H p.1=some (.lst p.2)) (hp:p.1≠q) (n2:¬dC ap xi p.1) (i0:fj (IsItem H) (d.get (Pz.cu d)) p.2) (sub:∀c,dC ap xi c->dC ap xp c) (kp:∀c u,H0 c=some u->¬dC ap xp c->H c=some u)
 (hs:σ=[some (.ref q),some (.ref p.1),none,none]) (k:Np C q ap d xp H0 D.rt):KB K C tm D σ H:=by
 subst hs;obtain⟨dx,hq⟩:=hq;refine HM _ H p.1 p.2 (d.get (Pz.cu d)) _ rfl l2 i0 TK.k2 (nT (Pz.oq d _) hfew) λH3 s3=>?_;refine⟨_,rfl,q,C,dx,_,rfl,s3 _ _ hq,T.cl,T.nl,(by show 2<1000;decide),?_⟩;generalize hH4:aY H3 q (.ins C dx (hI "last" (.int (Pz.lo ((d.get (Pz.cu d)).map (·.1)))) [("last",.int last),("piles",.ref ap)]))=H4;have kp4:∀c u,H c=some u->c≠q->H4 c=some u:=λc u e n=>by rw[<- hH4,aj n];exact s3 c u e
 have q4:H4 q=some (.ins C dx [("last",.int (Pz.lowP d)),("piles",.ref ap)]):=by rw[<- hH4,aw];rfl
 have kt4:KT H H4:=λc ws e=>kp4 c _ e λz=>by rw[z,hq]at e;cases e
 have ge:∀y∈d.get (Pz.cu d),Pz.lowP d<=y.1:=λy hy=>Pz.BX (d7.mpr ⟨y,hy,rfl⟩);have fl:∀i,((Pz.dF au (Pz.lowP d) (d.drop (Pz.cu d)) ((d.get (Pz.cu d)).take i))).flat.length<16000000:=λi=>by rw[(Pz.jI TK.o1.ok).length_eq,gV];have:=Qu i (d.get (Pz.cu d));have:=(Pz.m6 ok.nk (Pz.cu d)).length_eq;rw[gV]at this;lia
 have okI:∀i,(Pz.dF au (Pz.lowP d) (d.drop (Pz.cu d)) ((d.get (Pz.cu d)).take i)).Ok:=λi=>(TK.o1.dF λx hx=>ge x (Dv hx)).ok;have h3:=fl 0;have h2:=Pz.iN (okI 0);have h5:=R2.len;rw[List.take_zero]at h3 h2;have h4:(Pz.dF au (Pz.lowP d) (d.drop (Pz.cu d)) [])=d.drop (Pz.cu d):=rfl;rw[h4]at h3 h2;refine⟨_,rfl,p.1,rfl,⟨_,SqL.of (kp4 _ _ l2 hp)⟩,uq (K:=K) (a:=p.1) (xs:=p.2) (λi σ H5=>MM q p.1 σ/\∃xi,MS C q ap d H0 xp p i H5 xi)
  ⟨⟨none,none,rfl⟩,xi,⟨⟨dx,q4⟩,D2.keep λc u e i=>kp4 c u e (nq c (sub c i)),by lia,R2.low h3⟩,?_,kp4 _ _ l2 hp,n2,i0.mono (IsItem.keep kt4),λc i=>.inl (sub c i),λc u e n m=>kp4 c u (kp c u e n) m⟩
  (λi σ H5 _ ⟨_,xi,I⟩=>SqL.of I.l) (λi y σ H5 hi ⟨hs,xi,I⟩=>?_) λσ H5 ⟨hs,xi,I⟩=>OF T TK hfew I hs k⟩
 .rw[List.take_zero];exact R2.keep (IsItem.keep kt4)
 .obtain⟨x,hx,hy⟩:=I.a.get hi;exact OE I hx hy hs (okI _) (fl _) λσ' H' xi' h1 h2=>⟨h1,xi',h2⟩
def zS(T:t9 K C)(hna:∀(last:Int)(ap:Addr),List.lookup ("add" : Str) ([("last",V.int last),("piles",V.ref ap)]:List (Str×V))=none) (HM:HX tm) (h:qp C vs H Q E) :
 F4 K C tm {nx:=λ_ H'=>Q .bL H',rt:=Q} (cK ["self","pile","price","thing"] vs) H:=by
 obtain @⟨q,ap,last,xp,d,H,Q,_,G,R,ok,hne,hfew,k⟩:=h;have TK:=Pz.zI yj ok hne;have hap:=G.aA.root
 delta F4 fk lM oT
 refine HP (.va rfl) G.ins T.cl T.np rfl ⟨ap,rfl,.inl ⟨_,.inl hap⟩,HP (.va rfl) G.ins T.cl T.np rfl ⟨.inr (.inr (.inl ⟨rfl,.inl ⟨_,hap⟩⟩)),ap,_,rfl,rfl,hap,λv hv=>?_⟩⟩;have hva:ap≠v:=ay hap hv;refine⟨v,ap,xp.kv,d.keys,rfl,aw,(by rw[aj hva];exact hap),(by rw[EU,R.keys];rfl),(by intro e;exact hne (List.map_eq_nil_iff.mp e)),?_⟩;rcases R.find m_ (Pz.cu d)with⟨_,_,e⟩|⟨p0,f0,_,a0⟩
 .exact(TK.k2 e).elim
 refine⟨xp.kv,k1 (Pz.cu d),.ref p0.1,(by rw[aj hva];exact hap),(by rw[yk];rfl),(by rw[lq,f0];rfl),?_⟩;generalize hH2:aY (aY H v (u6 v ap)) ap (.dK (kD xp.kv (k1 (Pz.cu d))))=H2;have kp2:∀c u,H c=some u->c≠ap->H2 c=some u:=λc u e n=>by rw[<- hH2,aj n,aj (ay e hv)];exact e
 obtain⟨D2,l2,n2⟩:=G.aA.drop (λ_ _ z=>HO.noConfusion z) f0 (by rw[<- hH2,aw]) kp2;have kt2:KT H H2:=λc ws e=>kp2 c _ e λz=>by rw[z,hap]at e;cases e
 obtain⟨dx,hq⟩:=G.ins;exact tk1 T HM TK ok.ok hfew ⟨dx,kp2 _ _ hq λe=>by rw[e,hap]at hq;cases hq⟩ D2 ((R.drop m_ _).keep (IsItem.keep kt2)) (λc=>G.ne) l2 (G.ne (.inr ⟨_,eM f0,rfl⟩)) n2 (a0.mono (IsItem.keep kt2)) (λc=>ym) (λc u e n=>kp2 c u e λz=>n (.inl z)) rfl k
end
structure ku(K:QY) (C:Addr):Prop where
 cl:ue K C
 nr:NoAttr K C "rules"
 nt:NoAttr K C "told"
 no:NoAttr K C "offers"
 ns:NoAttr K C "settled"
 nl:NoAttr K C "lacking"
def Nr(A:PA):(pf A).lookup ("rules" : Str)=some (V.ref A.ar):=rfl
def EV(A:PA):(pf A).lookup ("told" : Str)=some (V.ref A.ta):=rfl
def HY(A:PA):(pf A).lookup ("offers" : Str)=some (V.ref A.aq):=rfl
def KC(A:PA):(pf A).lookup ("settled" : Str)=some (V.ref A.sa):=rfl
def KD(A:PA):(pf A).lookup ("lacking" : Str)=some (V.ref A.la):=rfl
def HZ(A:PA)(last:Int):(qf A last).lookup ("add" : Str)=none:=rfl
section
variable{K:QY}
inductive fI(CP CQ:Addr):Sp
 |mk {B H:Hp} {A:PA} {rs:Pz.RS} {S:Pz.PS} {xs xl xr:DX (List cJ)} {b:Addr} {a:Pz.bz} {p:Int} {n m:Option Int} {Q:VK} {E:XK} (P:PAt CP CQ B H A rs S xs xl xr) (hb:H b=some (.tup (qQ a))) (f:Pz.kX (Pz.bb au S a p n m)) (k:∀H',PAt CP CQ B H' A rs (Pz.bb au S a p n m) xs xl xr->Q .bL H'):fI CP CQ [.ref A.o,.ref b,.int p,vO n,vO m] H Q E
def KG:R2:=λx y H Q=>y=.bL/\Q (.bl (decide (x=.bL))) H
def H_:OpR X (compareOp .Is) KG:=GX
def OG:R2:=xF λi j=>.bl (decide (i<j))
def Ia(K:QY)(CQ:Addr):TS:=fk (AR (fO K (aH 0) "told") (aH 1) (k8 (aB (aH 2) (aB (aH 3) (aB (aH 4) bF)))))
 (fJ (fR CQ "add" (sj CQ) [] E0 (fO K (aH 0) "offers") (aB (aH 2) (aB (aH 1) bF))))
def KH(K:QY)(CQ:Addr):TS:=vZ (Od (nH (k7 KG (aH 5) (tC .bL))) (nH (k7 OG (aH 2) (k7 (oP K) (aH 5) (tC (.int 0)))))) (Ia K CQ) um
def B5(K:QY)(CQ:Addr):TS:=fk (lM (wj (fO K (aH 0) "told") (aH 1)) (aU 5)) (KH K CQ)
def u_(h:fI CP CQ vs H Q E):vs.length=5:=by cases h;rfl
variable{D:Ends}
theorem bq.fld(P:bq CP CQ B H A rs S xs xl xr xp kt col)(cl:ue K CP)(n:NoAttr K CP f)(hl:(pf A).lookup f=some v)(h:σ[i]?=some (some (.ref A.o))):Reads (fO K (aH i) f) σ H v:=.fld (.va h) P.po.ins cl n hl
def bq.rd(P:bq CP CQ B H A rs S xs xl xr xp kt col)(cl:ue K CP)(n:NoAttr K CP f)(hl:(pf A).lookup f=some v)(h:σ[i]?=some (some (.ref A.o)))(q:Q v H):fO K (aH i) f σ H Q:=P.fld cl n hl h _ q
def vc(TP:ku K CP)(P:bq CP CQ B H A rs S xs xl xr xp kt col)(hb:H b=some (.tup (qQ a)))(fit:Pz.kX (Pz.jJ au S a p n m))
 (k:∀σ H',PAt CP CQ B H' A rs (Pz.jJ au S a p n m) xs xl xr->D.nx σ H'):Ia K CQ D [some (.ref A.o),some (.ref b),some (.int p),some (vO n),some (vO m),some w] H:=by
 delta Ia fk AR
 refine HQ (.c (.va rfl) (.c (.va rfl) (.c (.va rfl) .ni))) rfl λt ht'=>?_;have s1:Same H (aY H t (.tup [.int p,vO n,vO m])):=aQ ht';have P1:=P.more s1;have ht:=P1.po.td;have hb1:=s1 _ _ hb;have hl:kt.length<sizeLine:=by have e1:S.told.length=kt.length:=P.po.tr.len;have e2:=fit.t;have e3:=(Pz.uW S.told a (p,n,m)).1;have e4:(Pz.jJ au S a p n m).told=Pz.tput S.told a (p,n,m):=rfl;rw[e4]at e2;rw[jY];unfold Pz.L at e2;lia
 refine P1.rd TP.cl TP.nt (EV A) rfl ⟨_,rfl,A.ta,_,rfl,DPut.t (k:=ak a) ht hb1 hl,?_⟩;have P2:=P1.tell (a:=a) (x:=(p,n,m)) (p:=t) aw;have hb2:aY (aY H t (.tup [.int p,vO n,vO m])) A.ta (.dT (dn kt (ak a) (.ref t))) b=some (.tup (qQ a)):=by rw[aj (λz=>by rw[z,ht]at hb1;cases hb1)];exact hb1
 generalize aY (aY H t (.tup [.int p,vO n,vO m])) A.ta (.dT (dn kt (ak a) (.ref t)))=H2 at P2 hb2;clear P1 ht hb1 s1 hl ht';have fitp:=fit.p;have fitf:=fit.pf;have al:=Pz.f7 S.aA (au p S.last) (p,a);have e5:(Pz.jJ au S a p n m).aA=S.aA.app (au p S.last) (p,a):=rfl;rw[e5]at fitp fitf;unfold Pz.L at fitp fitf;have pr2:RepM k1 IsItem H2 S.aA xp:=P2.p1.r;refine u4 (P2.fld TP.cl TP.no (HY A) rfl) P2.po.Dz (HZ A _) (.c (.va rfl) (.c (.va rfl) .ni)) (.mk ⟨P2.po.Dz,P2.p1.d,by rw[<- pr2.len];lia,pr2.low (by lia)⟩ ?_);intro l p' H3 hl3 hp3 hm3 hq3 hd3 kp3;have kk:=P2.p1.d.kt (λ_ _ z=>HO.noConfusion z) kp3;exact k _ H3 ⟨_,_,_,P2.pile hd3 (pr2.add m_ (IsItem.keep kk) ⟨p',_,rfl,hm3,b,rfl,kk _ _ hb2⟩) (λc z=>(j9 z).imp id λz=>by rw[z];exact hl3) kp3⟩
def B6(TP:ku K CP)(P:bq CP CQ B H A rs S xs xl xr xp kt col)(hb:H b=some (.tup (qQ a)))(fit:Pz.kX (Pz.bb au S a p n m))
 (k:∀σ H',PAt CP CQ B H' A rs (Pz.bb au S a p n m) xs xl xr->D.nx σ H'):KH K CQ D [some (.ref A.o),some (.ref b),some (.int p),some (vO n),some (vO m),some ((d_ kt (ak a)).getD .bL)] H:=by
 unfold Pz.bb at fit k;rcases P.po.tr.find a with⟨e1,e2⟩|⟨v,x,e1,e2,q,rfl,hq⟩
 .rw[b_ (show Pz.h8 S a p=true by unfold Pz.h8;rw[e2])]at fit k;rw[e1];exact⟨_,rfl,rfl,_,rfl,vc TP P hb fit k⟩
 .rw[e1];refine⟨_,rfl,rfl,_,rfl,?_⟩;refine u5 (c:=decide (p<x.1)) (.op (.va rfl) (.ix (.va rfl) hq rfl) (λ_ q=>⟨p,x.1,rfl,rfl,q⟩)) (λh=>?_) (λh=>?_)
  .rw[b_ (show Pz.h8 S a p=true by unfold Pz.h8;rw[e2];exact h)]at fit k;exact vc TP P hb fit k
  .rw[cF λz=>by unfold Pz.h8 at z;rw[e2]at z;exact h z]at k;exact k _ H ⟨xp,kt,col,P⟩
def xa(TP:ku K CP)(TQ:t9 K CQ)(h:fI CP CQ vs H Q E):B5 K CQ {nx:=λ_ H'=>Q .bL H',rt:=Q} (cK ["self","arrow","price","number","mid","known"] vs) H:=by
 obtain⟨⟨xp,kt,col,P⟩,hb,fit,k⟩:=h
 delta B5 fk lM wj
 exact P.rd TP.cl TP.nt (EV _) rfl ⟨_,rfl,.inr ⟨_,.inl P.po.td⟩,_,rfl,_,DGet.t (k:=ak _) P.po.td hb,B6 TP P hb fit λ_=>k⟩
def tO(P:PAt CP CQ B H A rs S xs xl xr)(f:Pz.kX (Pz.bb au S a p n m))(h:Reads ta σ H (.ref A.o))(ht:Makes te σ H (qQ a))(hr:∀H',Same H H'->ReadsA tr σ H' [.int p,vO n,vO m])(k:∀H',PAt CP CQ B H' A rs (Pz.bb au S a p n m) xs xl xr->D.nx σ H') :
 fJ (fR CP "offer" (fI CP CQ) [] E0 ta (aB te tr)) D σ H:=by
 have P':=P;obtain⟨_,_,_,Q4⟩:=P';obtain⟨dx,hi⟩:=Q4.po.ins;exact h _ ⟨A.o,dx,_,rfl,hi,rfl,ht _ λq hq=>hr _ (aQ hq) _ (.mk (P.more (aQ hq)) aw f k)⟩
end
section
variable{K:QY}{CP CQ:Addr}{B H:Hp}{A:PA}{rs:Pz.RS}{S:Pz.PS}{xs xl xr:DX (List cJ)}{xp:DX cJ}{kt:List (List cJ×V)}{col:Addr->Nat}
theorem bq.obj(P:bq CP CQ B H A rs S xs xl xr xp kt col)(hz:H z=none):¬dC A.ap xp z/\¬dC A.sa xs z/\¬dC A.la xl z/\¬dC A.ar xr z/\z≠A.ta/\z≠A.o/\z≠A.aq:=by
 refine⟨λi=>P.p1.d.obj i hz,λi=>P.p2.d.obj i hz,λi=>P.p3.d.obj i hz,λi=>P.p4.d.obj i hz,λe=>?_,λe=>?_,λe=>?_⟩
 .rw[e,P.po.td]at hz;cases hz
 .obtain⟨_,h⟩:=P.po.ins;rw[e,h]at hz;cases hz
 .obtain⟨_,h⟩:=P.po.Dz;rw[e,h]at hz;cases hz
def EY{α:Type}{it:Hp->α->V->Prop}(hk:∀H H',KT H H'->∀x v,it H x v->it H' x v){a:Addr}{f:Str}{ys:DX (List cJ)}{d:Pz.MD (Int×Int) α}(P:bq CP CQ B H A rs S xs xl xr xp kt col)(hD:DL .dT H a ys)(hR:RepM k2 it H d ys)
 (cl:ue K CP) (nf:NoAttr K CP f) (hf:(pf A).lookup f=some (V.ref a)) {σ:L2.St} {j:Nat} {b:Addr} {k:Int×Int} (h0:σ[0]?=some (some (.ref A.o))) (hj:σ[j]?=some (some (.ref b))) (hb:H b=some (.tup [.int k.1,.int k.2])) {Q:VK}
 (kk:∀(l:Addr)(vs:List V)(B1 H1:Hp),Same H H1->Same B B1->KT H1 B1->bq CP CQ B1 H1 A rs S xs xl xr xp kt col->H1 l=some (.lst vs)->(∀H2,Same B1 H2->DL .dT H2 a ys->H2 l=some (.lst vs)/\fj (it H2) (d.get k) vs)->Q (.ref l) H1) :
 k9 (fO K (aH 0) f) (aH j) (uu bF) σ H Q:=by
 delta k9
 refine P.rd cl nf hf h0 ⟨a,rfl,.inr ⟨_,.inl hD.root⟩,_,hj,jT _,λz hz=>?_⟩;have s1:Same H (aY H z (.lst [])):=aQ hz;have hb1:aY H z (.lst []) b=some (.tup ((k2 k).map kV)):=s1 _ _ hb;refine⟨_,DGet.t (s1 _ _ hD.root) hb1,?_⟩;have P1:=P.more s1;rcases hR.find tJ k with⟨f1,f2,f3⟩|⟨p,f1,f2,f3⟩
 .rw[lq,f1];obtain⟨B1,w1,w2,w3,w4⟩:=P1.wide (λc=>c=z) λc e=>by subst e;exact P.obj hz
  refine kk z [] B1 _ s1 w1 w2 w4 aw λH2 s2 _=>⟨s2 _ _ (w3 z _ rfl aw),?_⟩;rw[f3];exact .nil
 .rw[lq,f1];obtain⟨B1,w1,w2,w3,w4⟩:=P1.wide (λ_=>False) λ_ e=>e.elim;refine kk p.1 p.2 B1 _ s1 w1 w2 w4 (s1 _ _ (hD.t_ _ (eM f1))) λH2 s2 D2=>⟨D2.t_ _ (eM f1),f3.mono (hk _ _ λc ws e=>s2 _ _ (w2 _ _ (s1 _ _ e)))⟩
def Wk(J:L2.It)(g:TG)(tb:TS)(D:Ends)(σ:L2.St)(H:Hp):Prop:=∃W:Nat->Nat->L2.St->Hp->Prop,(∃m,W 0 m σ H)/\∀i m σ H,W i m σ H->
 (J.stop i H/\D.nx σ H)\/(J.go i H/\∃N:L2.St->Hp->Prop,(∀σ' H',N σ' H'->∃m',m'<m/\W (i+1) m' σ' H')/\∀x H',J.GB i H x H'->g x σ H' λσ2 H2=>tb {D with nx:=N,ct:=N,bk:=D.nx} σ2 H2)
def ng{tb:TS}{D:Ends}{σ:L2.St}(h:tl σ H λx H1=>∃a,x=.ref a/\(∃xs,SqL K H1 a xs)/\Wk (DF K a) g tb D σ H1):nW (kC K tl) g tb D σ H:=h
def tP{α:Type}{it:Hp->α->V->Prop}{l:Addr}{vs:List V}{its:List α}{g:TG}{tb:TS}{D:Ends}{σ:L2.St}{H1:Hp}(Sh:L2.St->Prop)(step:Pz.PS->α->Pz.PS)(S0:Pz.PS)(W:Pz.PS->Hp->Prop)(h0:Sh σ)(h1:W S0 H1)
 (hW:∀S H,W S H->Rd H l (.lst vs)/\fj (it H) its vs)
 (hb:∀(i:Nat)(x:α)(v:V)(σ:L2.St)(H:Hp)(D':Ends),its[i]?=some x->it H x v->Sh σ->W ((its.take i).foldl step S0) H->(∀σ' H',Sh σ'->W (step ((its.take i).foldl step S0) x) H'->D'.nx σ' H')->g v σ H λσ2 H2=>tb D' σ2 H2)
 (hd:∀σ H,Sh σ->W (its.foldl step S0) H->D.nx σ H):Wk (DF K l) g tb D σ H1:=by
 have cr:its.length=vs.length:=(hW _ _ h1).2.len;refine uq (K:=K) (a:=l) (xs:=vs) (λi σ H=>Sh σ/\W ((its.take i).foldl step S0) H) ⟨h0,h1⟩ (λi σ H _ ⟨_,w⟩=>Or.inl (hW _ _ w).1) (λi v σ H hi ⟨s,w⟩=>?_) λσ H ⟨s,w⟩=>?_
 .obtain⟨x,hx,ix⟩:=(hW _ _ w).2.get hi;have e:(its.take (i+1)).foldl step S0=step ((its.take i).foldl step S0) x:=by rw[O1,hx,Pf];rfl
  rw[e];exact hb i x v σ H _ hx ix s w λ_ _=>And.intro
 .rw[qm (by lia)]at w;exact hd σ H s w
def tQ{α:Type}{it:Hp->α->V->Prop}(hk:∀H H',KT H H'->∀x v,it H x v->it H' x v){a:Addr}{f:Str}{ys:DX (List cJ)}{d:Pz.MD (Int×Int) α}(P:bq CP CQ B H A rs S xs xl xr xp kt col)(hD:DL .dT H a ys)(hR:RepM k2 it H d ys)
 (cl:ue K CP) (nf:NoAttr K CP f) (hf:(pf A).lookup f=some (V.ref a)) {σ:L2.St} {j:Nat} {b:Addr} {k:Int×Int} (h0:σ[0]?=some (some (.ref A.o))) (hj:σ[j]?=some (some (.ref b))) (hb:H b=some (.tup [.int k.1,.int k.2])) {g:TG} {tb:TS} {D:Ends} (Sh:L2.St->Prop) (step:Pz.PS->α->Pz.PS) (W:Hp->Pz.PS->Hp->Prop) (hs:Sh σ)
 (w0:∀B1 H1,bq CP CQ B1 H1 A rs S xs xl xr xp kt col->W B1 S H1) (w1:∀B1 T H1,W B1 T H1->Same B1 H1/\DL .dT H1 a ys)
 (hy:∀B1 (i:Nat) x v σ H2 (D':Ends),KT H H2->(d.get k)[i]?=some x->it H2 x v->Sh σ->W B1 (((d.get k).take i).foldl step S) H2->(∀σ' H',Sh σ'->W B1 (step (((d.get k).take i).foldl step S) x) H'->D'.nx σ' H')->g v σ H2 λσ2 H3=>tb D' σ2 H3)
 (hd:∀B1 σ H2,Same B B1->KT H H2->Sh σ->W B1 ((d.get k).foldl step S) H2->D.nx σ H2):nW (kC K (k9 (fO K (aH 0) f) (aH j) (uu bF))) g tb D σ H:=by
 refine ng (EY hk P hD hR cl nf hf h0 hj hb λl vs B1 H1 s1 b1 w3 P1 hl1 hkk=>?_);have kt1:∀T H2,W B1 T H2->KT H H2:=λT H2 w a ws e=>(w1 B1 T H2 w).1 _ _ (w3 _ _ (s1 _ _ e));exact⟨l,rfl,⟨_,SqL.of hl1⟩,tP (it:=it) Sh step S (W B1) hs (w0 B1 H1 P1) (λT H2 w=>⟨.inl (hkk H2 (w1 B1 T H2 w).1 (w1 B1 T H2 w).2).1,(hkk H2 (w1 B1 T H2 w).1 (w1 B1 T H2 w).2).2⟩)
  (λi x v σ H2 D' e1 e2 e3 e4=>hy B1 i x v σ H2 D' (kt1 _ _ e4) e1 e2 e3 e4) λσ H2 s w=>hd B1 σ H2 b1 (kt1 _ _ w) s w⟩
def OH(ht:H b=some (.tup [x,y,z]))(k:Q (((σ.set i (some x)).set j (some y)).set l (some z)) H):jn K 3 (br (aU i) (br (aU j) (br (aU l) jm))) (.ref b) σ H Q:=⟨b,_,rfl,SqT.of ht,rfl,_,_,rfl,_,_,rfl,_,_,rfl,rfl,k⟩
def ib{α:Type}{step:Pz.PS->α->Pz.PS}(hg:∀S x,Pz.gb S (step S x)){its:List α}{S0:Pz.PS}(h:Pz.kX (its.foldl step S0)){i:Nat}{x:α}(hx:its[i]?=some x):Pz.kX (step ((its.take i).foldl step S0) x):=by
 have e:(its.take (i+1)).foldl step S0=step ((its.take i).foldl step S0) x:=by rw[O1,hx,Pf];rfl
 rw[<- e];refine Pz.gb.fit (Pz.cH step hg (its.drop (i+1)) _) ?_;rw[<- Pf,O8];exact h
def rP:R2:=xF λi j=>.int (i+j)
def Reads.add(h:Reads ta σ H (.int i))(h':Reads tb σ H (.int j)):Reads (k7 rP ta tb) σ H (.int (i+j)):=h.op h' λ_ q=>⟨i,j,rfl,rfl,q⟩
inductive mM(CP CQ:Addr):Sp
 |mk {B H:Hp} {A:PA} {rs:Pz.RS} {S:Pz.PS} {xs xl xr:DX (List cJ)} {c:Addr} {r:Pz.aV} {num mid price:Int} {Q:VK} {E:XK} (P:PAt CP CQ B H A rs S xs xl xr) (hr:IsRule H r (.ref c)) (h2:2<=r.2.2.2.length) (f:Pz.kX (Pz.first au S num r mid price))
  (k:∀H' xl',PAt CP CQ B H' A rs (Pz.first au S num r mid price) xs xl' xr->Q .bL H'):mM CP CQ [.ref A.o,.int num,.ref c,.int mid,.int price] H Q E
def KI(K:QY)(CP CQ:Addr):TS:=fJ (fR CP "offer" (fI CP CQ) [] E0 (aH 0) (aB (k8 (aB (k7 (oP K) (aH 2) (tC (.int 0))) (aB (k7 (oP K) (aH 2) (tC (.int 1))) (aB (aH 6) bF))))
 (aB (k7 rP (k7 rP (aH 4) (aH 7)) (tC (.int 1))) (aB (aH 1) (aB (aH 3) bF)))))
def Nt(K:QY)(CP CQ:Addr):TS:=nW (kC K (k9 (fO K (aH 0) "settled") (aH 5) (uu bF))) (jn K 2 (br (aU 6) (br (aU 7) jm))) (KI K CP CQ)
def KJ(K:QY)(CP CQ:Addr):TS:=fk (fJ (pR K (fO K (aH 0) "lacking") (aH 5) (k8 (aB (aH 1) (aB (aH 2) (aB (aH 4) bF)))))) (Nt K CP CQ)
def B7(K:QY)(CP CQ:Addr):TS:=fk (lM (k8 (aB (aH 3) (aB (k7 (oP K) (k7 (oP K) (aH 2) (tC (.int 3))) (tC (.int 1))) bF))) (aU 5)) (KJ K CP CQ)
def vd(h:mM CP CQ vs H Q E):vs.length=5:=by cases h;rfl
def B8(A:PA):(pf A).lookup ("offer" : Str)=none:=rfl
def EZ{l:List Int}(h:2<=l.length):(l.map V.int)[1]?=some (.int (Pz.nth1 l)):=by rcases l with _|⟨_,_|⟨_,_⟩⟩<;>first|rfl|(simp at h)
variable{D:Ends}{σ:L2.St}{b c q:Addr}{r:Pz.aV}{num mid price:Int}
abbrev MN(r:Pz.aV)(num mid price:Int)(S:Pz.PS)(x:Int×Int):Pz.PS:=Pz.bb au S (r.1,r.2.1,x.1) (price+x.2+1) (some num) (some mid)
def Nu(A:PA)(num:Int)(c:Addr)(mid price:Int)(b:Addr)(σ:L2.St):Prop:=∃u v,σ=[some (.ref A.o),some (.int num),some (.ref c),some (.int mid),some (.int price),some (.ref b),u,v]
def Ib(P:PAt CP CQ B H A rs S xs xl xr)(h:IsSet H x v)(hs:Nu A num c mid price b σ)(hr:H c=some (.tup [.int r.1,.int r.2.1,.int r.2.2.1,.ref q]))(f:Pz.kX (MN r num mid price S x))
 (k:∀σ' H',Nu A num c mid price b σ'->PAt CP CQ B H' A rs (MN r num mid price S x) xs xl xr->D.nx σ' H'):jn K 2 (br (aU 6) (br (aU 7) jm)) v σ H λσ2 H2=>KI K CP CQ D σ2 H2:=by
 obtain⟨t,rfl,ht⟩:=h;obtain⟨u,w,rfl⟩:=hs;exact HR ht (tO P f (.va rfl) (.t (.c (.ix (.va rfl) hr rfl) (.c (.ix (.va rfl) hr rfl) (.c (.va rfl) .ni))) rfl) (λ_ _=>.c (.add (.add (.va rfl) (.va rfl)) .k) (.c (.va rfl) (.c (.va rfl) .ni))) λH'=>k _ H' ⟨_,_,rfl⟩)
def Ic(TP:ku K CP)(P:bq CP CQ B H A rs S xs xl xr xp kt col)(hb:H b=some (.tup [.int mid,.int (Pz.nth1 r.2.2.2)]))(hr:H c=some (.tup [.int r.1,.int r.2.1,.int r.2.2.1,.ref q]))(hq:H q=some (.tup (r.2.2.2.map .int)))(fit:Pz.kX (Pz.first au S num r mid price))(hs:σ=[some (.ref A.o),some (.int num),some (.ref c),some (.int mid),some (.int price),some (.ref b),none,none])
 (k:∀σ' H' xl',PAt CP CQ B H' A rs (Pz.first au S num r mid price) xs xl' xr->D.nx σ' H'):KJ K CP CQ D σ H:=by
 subst hs;have fitL:Pz.kX (Pz.tF S num r mid price):=Pz.gb.fit (Pz.cH _ (λS x=>Pz.cq S _ _ _ _) _ _) fit;have f1:=fitL.l;have f2:=fitL.lf;have al:=Pz.f7 S.aE (mid,Pz.nth1 r.2.2.2) (num,r,price);have e5:(Pz.tF S num r mid price).aE=S.aE.app (mid,Pz.nth1 r.2.2.2) (num,r,price):=rfl;rw[e5]at f1 f2;unfold Pz.L at f1 f2;have lr1:RepM k2 IsLack H S.aE xl:=P.p3.r;refine tH (a:=A.la) (b:=b) (xs:=xl) (k:=k2 (mid,Pz.nth1 r.2.2.2)) (ws:=[.int num,.ref c,.int price]) P.p3.d (P.fld TP.cl TP.nl (KD A) rfl) (.va rfl) hb (λH' _=>.t (.c (.va rfl) (.c (.va rfl) (.c (.va rfl) .ni))) rfl) (by rw[<- lr1.len];lia) (lr1.low (by lia)) ?_;intro l p H2 hl hp hm hd kp;have kt2:=P.p3.d.kt (λ_ _ z=>HO.noConfusion z) kp;have P2:bq CP CQ B H2 A rs (Pz.tF S num r mid price) xs _ xr _ _ _:=P.tF hd (lr1.add (k:=(mid,Pz.nth1 r.2.2.2)) (v:=(num,r,price)) tJ (IsLack.keep kt2) ⟨p,_,rfl,hm,c,q,rfl,kt2 _ _ hr,kt2 _ _ hq⟩) (λc z=>(j9 z).imp id λz=>by rw[z];exact hl) kp;exact tQ (λH H' k=>IsSet.keep k) P2 P2.p2.d P2.p2.r TP.cl TP.ns (KC A) (j:=5) (k:=(mid,Pz.nth1 r.2.2.2)) rfl rfl (kt2 _ _ hb) (Nu A num c mid price b) (MN r num mid price) (λB1 T H4=>PAt CP CQ B1 H4 A rs T xs _ xr) ⟨none,none,rfl⟩ (λB1 H1 P=>⟨_,_,_,P⟩)
  (λB1 T H1 ⟨_,_,_,P⟩=>⟨P.same,P.p2.d⟩) (λB1 i x v σ H4 D' k4 e1 e2 e3 e4 k=>Ib e4 e2 e3 (k4 _ _ (kt2 _ _ hr)) (ib (step:=MN r num mid price) (λS x=>Pz.cq S _ _ _ _) fit e1) k) λB1 σ H4 b1 k4 s w=>k σ H4 _ (w.less b1)
def xb{vs:List V}(TP:ku K CP)(h:mM CP CQ vs H Q E):B7 K CP CQ {nx:=λ_ H'=>Q .bL H',rt:=Q} (cK ["self","number","rule","mid","price","start","state","second"] vs) H:=by
 obtain⟨⟨xp,kt,col,P⟩,⟨_,q,ec,hr,hq⟩,h2,fit,k⟩:=h;cases ec
 delta B7 fk lM
 exact HQ (.c (.va rfl) (.c (.ix (.ix (.va rfl) hr rfl) hq (xM (j:=1) (EZ h2))) .ni)) rfl λb hb=>Ic TP (P.more (aQ hb)) aw (aQ hb _ _ hr) (aQ hb _ _ hq) fit rfl λ_=>k
end
section
variable{K:QY}{xp:DX cJ}{kt:List (List cJ×V)}{col:Addr->Nat}
def ve(K:QY):List V->Hp->VK->Prop:=λxs H Q=>∃p ys,xs=[.ref p]/\(SqL K H p ys\/SqT K H p ys)/\Q (.int ys.length) H
def nh:CallR X (.builtin "len") (ve X.K):=call_len_seq
abbrev tI(K:QY)(i:Nat)(n:Int):TE:=k7 (oP K) (aH i) (tC (.int n))
def tR(rs:Pz.RS):Prop:=∀k x,x∈rs.get k->1<=x.2.2.2.2.length
inductive jZ(CP CQ:Addr):Sp
 |mk {B H:Hp} {A:PA} {rs:Pz.RS} {S:Pz.PS} {xs xl xr:DX (List cJ)} {b:Addr} {a:Pz.bz} {price:Int} {Q:VK} {E:XK} (P:PAt CP CQ B H A rs S xs xl xr) (ha:H b=some (.tup (qQ a))) (rok:tR rs) (f:Pz.kX (Pz.settle au rs S a price))
  (k:∀H' xs' xl',PAt CP CQ B H' A rs (Pz.settle au rs S a price) xs' xl' xr->Q .bL H'):jZ CP CQ [.ref A.o,.ref b,.int price] H Q E
def KL(K:QY)(CP CQ:Addr):TS:=vZ (nH (k7 JN (DR (ve K) (aB (tI K 5 3) bF)) (tC (.int 1))))
 (fJ (fR CP "offer" (fI CP CQ) [] E0 (aH 0) (aB (k8 (aB (tI K 5 0) (aB (tI K 5 1) (aB (tI K 1 2) bF)))) (aB (k7 rP (aH 2) (tC (.int 1))) (aB (aH 4) (aB (tC .bL) bF))))))
 (fJ (fR CP "settle_first" (mM CP CQ) [] E0 (aH 0) (aB (aH 4) (aB (aH 5) (aB (tI K 1 2) (aB (aH 2) bF))))))
def Nv(K:QY)(CP CQ:Addr):TS:=nW (kC K (k9 (fO K (aH 0) "rules") (aH 3) (uu bF))) (jn K 2 (br (aU 4) (br (aU 5) jm))) (KL K CP CQ)
def KM(K:QY)(CP CQ:Addr):TS:=fJ (fR CP "offer" (fI CP CQ) [] E0 (aH 0) (aB (k8 (aB (tI K 5 0) (aB (tI K 5 1) (aB (tI K 1 2) bF)))) (aB (k7 rP (k7 rP (aH 6) (aH 2)) (tC (.int 1))) (aB (aH 4) (aB (tI K 1 0) bF)))))
def Nw(K:QY)(CP CQ:Addr):TS:=fk (nW (kC K (k9 (fO K (aH 0) "lacking") (aH 3) (uu bF))) (jn K 3 (br (aU 4) (br (aU 5) (br (aU 6) jm)))) (KM K CP CQ)) (Nv K CP CQ)
def KN(K:QY)(CP CQ:Addr):TS:=fk (fJ (pR K (fO K (aH 0) "settled") (aH 3) (k8 (aB (tI K 1 2) (aB (aH 2) bF))))) (Nw K CP CQ)
def yn(K:QY)(CP CQ:Addr):TS:=fk (lM (k8 (aB (tI K 1 0) (aB (tI K 1 1) bF))) (aU 3)) (KN K CP CQ)
def tS(h:jZ CP CQ vs H Q E):vs.length=3:=by cases h;rfl
def B9(A:PA):(pf A).lookup ("settle_first" : Str)=none:=rfl
def Reads.len(h:Reads ta σ H (.ref q))(hq:H q=some (.tup ws)):Reads (DR (ve K) (aB ta bF)) σ H (.int ws.length):=λ_ k=>h _ ⟨q,ws,rfl,.inr (SqT.of hq),k⟩
def Reads.N3(h:Reads ta σ H (.int m))(h':Reads tb σ H (.int n)):Reads (k7 JN ta tb) σ H (.bl (decide (m=n))):=h.op h' λ_ q=>⟨rfl,by rw[show decide (V.int m=V.int n)=decide (m=n)from decide_eq_decide.mpr ⟨λe=>by injection e,λe=>by rw[e]⟩];exact q⟩
variable{D:Ends}{σ:L2.St}{b b0:Addr}{a:Pz.bz}{price:Int}
def JR(A:PA)(b0:Addr)(price:Int)(b:Addr)(σ:L2.St):Prop:=∃u v w,σ=[some (.ref A.o),some (.ref b0),some (.int price),some (.ref b),u,v,w]
def Nx(P:PAt CP CQ B H A rs S xs xl xr)(h:IsLack H x v)(hs:JR A b0 price b σ)(ha:H b0=some (.tup (qQ a)))(f:Pz.kX (Pz.nO au a price S x))
 (k:∀σ' H',JR A b0 price b σ'->PAt CP CQ B H' A rs (Pz.nO au a price S x) xs xl xr->D.nx σ' H'):jn K 3 (br (aU 4) (br (aU 5) (br (aU 6) jm))) v σ H λσ2 H2=>KM K CP CQ D σ2 H2:=by
 obtain⟨t,_,rfl,ht,c,q,rfl,hr,hq⟩:=h;obtain⟨u,w,z,rfl⟩:=hs;exact OH ht (tO P f (.va rfl) (.t (.c (.ix (.va rfl) hr rfl) (.c (.ix (.va rfl) hr rfl) (.c (.ix (.va rfl) ha rfl) .ni))) rfl) (λ_ s=>.c (.add (.add (.va rfl) (.va rfl)) .k) (.c (.va rfl) (.c (.ix (.va rfl) (s _ _ ha) rfl) .ni))) λH'=>k _ H' ⟨_,_,_,rfl⟩)
def Ny(P:PAt CP CQ B H A rs S xs xl xr)(h:IsNum H x v)(hs:JR A b0 price b σ)(ha:H b0=some (.tup (qQ a)))(hl:1<=x.2.2.2.2.length)(f:Pz.kX (Pz.cY au a price S x))
 (k:∀σ' H',JR A b0 price b σ'->(∃xl',PAt CP CQ B H' A rs (Pz.cY au a price S x) xs xl' xr)->D.nx σ' H'):jn K 2 (br (aU 4) (br (aU 5) jm)) v σ H λσ2 H2=>KL K CP CQ D σ2 H2:=by
 obtain⟨t,_,rfl,ht,c,q,rfl,hr,hq⟩:=h;obtain⟨u,w,z,rfl⟩:=hs;unfold Pz.cY at f k;have e1:(((x.2.2.2.2.map V.int).length:Nat):Int)=1↔x.2.2.2.2.length=1:=by rw[cG];lia
 refine HR ht (u5 (.N3 (.len (.ix (.va rfl) hr rfl) hq) .k) (λh=>?_) λh=>?_)
 .rw[b_ (e1.mp (t7 h))]at f k;exact tO P f (.va rfl) (.t (.c (.ix (.va rfl) hr rfl) (.c (.ix (.va rfl) hr rfl) (.c (.ix (.va rfl) ha rfl) .ni))) rfl) (λ_ s=>.c (.add (.va rfl) .k) (.c (.va rfl) (.c .k .ni))) λH' P'=>k _ H' ⟨_,_,_,rfl⟩ ⟨_,P'⟩
 .have h1:¬x.2.2.2.2.length=1:=λz=>h (io (e1.mpr z));have h2:2<=x.2.2.2.2.length:=by lia
  rw[cF h1]at f k;have P':=P;obtain⟨_,_,_,Q⟩:=P';exact u4 (.va rfl) Q.po.ins (B9 A) (.c (.va rfl) (.c (.va rfl) (.c (.ix (.va rfl) ha rfl) (.c (.va rfl) .ni)))) (.mk P ⟨c,q,rfl,hr,hq⟩ h2 f λH' xl' P'=>k _ H' ⟨_,_,_,rfl⟩ ⟨xl',P'⟩)
def Nz(TP:ku K CP)(P:bq CP CQ B H A rs S xs xl xr xp kt col)(ha:H b0=some (.tup (qQ a)))(hb:H b=some (.tup [.int a.1,.int a.2.1]))(rok:tR rs)(fit:Pz.kX (Pz.settle au rs S a price))(hs:σ=[some (.ref A.o),some (.ref b0),some (.int price),some (.ref b),none,none,none])
 (k:∀σ' H' xs' xl',PAt CP CQ B H' A rs (Pz.settle au rs S a price) xs' xl' xr->D.nx σ' H'):KN K CP CQ D σ H:=by
 subst hs;have g2:Pz.gb ((S.aE.get (a.1,a.2.1)).foldl (Pz.nO au a price) (Pz.note S a price)) (Pz.settle au rs S a price):=Pz.cH _ (Pz.li a price) _ _;have fit1:=g2.fit fit;have fitN:Pz.kX (Pz.note S a price):=Pz.gb.fit (Pz.cH _ (λS x=>Pz.cq S _ _ _ _) _ _) fit1;have f1:=fitN.s;have f2:=fitN.sf;have al:=Pz.f7 S.settled (a.1,a.2.1) (a.2.2,price);have e5:(Pz.note S a price).settled=S.settled.app (a.1,a.2.1) (a.2.2,price):=rfl;rw[e5]at f1 f2;unfold Pz.L at f1 f2;have sr1:RepM k2 IsSet H S.settled xs:=P.p2.r;refine tH (a:=A.sa) (b:=b) (xs:=xs) (k:=k2 (a.1,a.2.1)) (ws:=[.int a.2.2,.int price]) P.p2.d (P.fld TP.cl TP.ns (KC A) rfl) (.va rfl) hb (λH' kp=>.t (.c (.ix (.va rfl) (kp _ _ ha (λz=>by rw[z,P.p2.d.root]at ha;cases ha)) rfl) (.c (.va rfl) .ni)) rfl) (by rw[<- sr1.len];lia) (sr1.low (by lia)) ?_;intro l p H2 hl hp hm hd kp;have kt2:=P.p2.d.kt (λ_ _ z=>HO.noConfusion z) kp;have P2:bq CP CQ B H2 A rs (Pz.note S a price) _ xl xr _ _ _:=P.N2 hd (sr1.add (k:=(a.1,a.2.1)) (v:=(a.2.2,price)) tJ (IsSet.keep kt2) ⟨p,rfl,hm⟩) (λc z=>(j9 z).imp id λz=>by rw[z];exact hl) kp;generalize m8 xs (k2 (a.1,a.2.1)) l (.ref p)=xs2 at P2;refine tQ (λH H' k=>IsLack.keep k) P2 P2.p3.d P2.p3.r TP.cl TP.nl (KD A) (j:=3) (k:=(a.1,a.2.1)) rfl rfl (kt2 _ _ hb) (JR A b0 price b) (Pz.nO au a price) (λB1 T H4=>PAt CP CQ B1 H4 A rs T xs2 xl xr) ⟨none,none,none,rfl⟩ (λB1 H1 P=>⟨_,_,_,P⟩)
  (λB1 T H1 ⟨_,_,_,P⟩=>⟨P.same,P.p3.d⟩) (λB1 i x v σ H4 D' k4 e1 e2 e3 e4 k=>Nx e4 e2 e3 (k4 _ _ (kt2 _ _ ha)) (ib (step:=Pz.nO au a price) (λS x=>Pz.cq S _ _ _ _) fit1 e1) k) λB1 σ H4 b1 k4 s w=>?_
 obtain⟨u,v,z,rfl⟩:=s;obtain⟨_,_,_,Q4⟩:=w;have ha4:=k4 _ _ (kt2 _ _ ha);exact tQ (λH H' k=>IsNum.keep k) Q4 Q4.p4.d Q4.p4.r TP.cl TP.nr (Nr A) (j:=3) (k:=(a.1,a.2.1)) rfl rfl (k4 _ _ (kt2 _ _ hb)) (JR A b0 price b) (Pz.cY au a price) (λB1 T H6=>∃xl',PAt CP CQ B1 H6 A rs T xs2 xl' xr) ⟨_,_,_,rfl⟩ (λB1 H1 P=>⟨_,_,_,_,P⟩)
  (λB1 T H1 ⟨_,_,_,_,P⟩=>⟨P.same,P.p4.d⟩) (λB1 i x v σ H6 D' k6 e1 e2 e3 ⟨_,e4⟩ k=>Ny e4 e2 e3 (k6 _ _ ha4) (rok _ _ (kU e1)) (ib (step:=Pz.cY au a price) (Pz.li a price) fit e1) k) λB2 σ H6 b2 k6 s ⟨xl',w⟩=>k σ H6 _ xl' (w.less (b1.trans b2))
def vf(TP:ku K CP)(h:jZ CP CQ vs H Q E):yn K CP CQ {nx:=λ_ H'=>Q .bL H',rt:=Q} (cK ["self","arrow","price","start","number","rule","first"] vs) H:=by
 obtain⟨⟨xp,kt,col,P⟩,ha,rok,fit,k⟩:=h
 delta yn fk lM
 exact HQ (.c (.ix (.va rfl) ha rfl) (.c (.ix (.va rfl) ha rfl) .ni)) rfl λb hb=>Nz TP (P.more (aQ hb)) (aQ hb _ _ ha) aw rok fit rfl λ_=>k
end
section
variable{K:QY}
def bq.zI(h:bq CP CQ B H A rs S xs xl xr xp kt col)(h0:∃dx,H' A.aq=some (.ins CQ dx (qf A m)))(h1:DL .dK H' A.ap xp')(h2:RepM k1 IsItem H' d' xp')(hn:∀c,dC A.ap xp' c->dC A.ap xp c\/H c=none)
 (kp:∀c u,H c=some u->¬dC A.ap xp c->c≠A.aq->H' c=some u):bq CP CQ B H' A rs {S with last:=m,aA:=d'} xs xl xr xp' kt (tL col 1 H):=by
 obtain⟨dy,hq⟩:=h.po.Dz;have k:KT H H':=λc ws e=>kp c _ e (λi=>by
  rcases i with rfl|⟨x,hx,rfl⟩
  .rw[h.p1.d.root]at e;cases e
  .rw[h.p1.d.t_ x hx]at e;cases e) λz=>by rw[z,hq]at e;cases e
 have kj:∀c u,H c=some u->col c≠1->col c≠7->H' c=some u:=λc u e n n'=>kp c u e (λi=>n (h.p1.c c i).1) λz=>n' (by rw[z];exact h.po.c7.1);obtain⟨⟨dx,i1⟩,_,i3,i4,c5,c6,c7⟩:=h.po;refine⟨(λc u e=>kp c u (h.same c u e) (λi=>by rw[(h.p1.c c i).2]at e;cases e) λz=>by rw[z,c7.2]at e;cases e),h.p1.new h.same h1 h2 hn,h.p2.keep (IsSet.keep k) (λc u e z=>kj c u e (by lia) (by lia)) λc=>bt,h.p3.keep (IsLack.keep k) (λc u e z=>kj c u e (by lia) (by lia)) λc=>bt,h.p4.keep (IsNum.keep k) (λc u e z=>kj c u e (by lia) (by lia)) λc=>bt,⟨dx,kj _ _ i1 (by lia) (by lia)⟩,h0,kj _ _ i3 (by lia) (by lia),i4.keep k,?_,?_,?_⟩
 .rw[bt (by rw[i3];simp)];exact c5
 .rw[bt (by rw[i1];simp)];exact c6
 .rw[bt (by rw[hq];simp)];exact c7
inductive vH(CP CQ:Addr):Sp
 |mk {B H:Hp} {A:PA} {rs:Pz.RS} {S T:Pz.PS} {xs xl xr:DX (List cJ)} {n:Nat} {Q:VK} {E:XK} (P:PAt CP CQ B H A rs S xs xl xr) (rok:tR rs) (fit:Pz.kX S) (lp:Pz.Loop au rs n S T) (k:∀H' xs' xl',PAt CP CQ B H' A rs T xs' xl' xr->Q .bL H'):vH CP CQ [.ref A.o] H Q E
def KO(K:QY)(CP CQ:Addr):TS:=vZ (nH (k7 JN (k7 (oP K) (FI (fO K (aH 0) "told") (aH 2)) (tC (.int 0))) (aH 1))) (fJ (fR CP "settle" (jZ CP CQ) [] E0 (aH 0) (aB (aH 2) (aB (aH 1) bF)))) um
def KP(K:QY)(CP CQ:Addr):TS:=nW (kC K (fR CQ "take_lowest" (qp CQ) [] E0 (fO K (aH 0) "offers") bF)) (jn K 2 (br (aU 1) (br (aU 2) jm))) (KO K CP CQ)
def NA(K:QY)(CP CQ:Addr):TS:=AC (JY (tB (fR CQ "is_empty" (mG CQ) [] E0 (fO K (aH 0) "offers") bF))) (KP K CP CQ)
def zT(h:vH CP CQ vs H Q E):vs.length=1:=by cases h;rfl
def Ie(A:PA)(last:Int):(qf A last).lookup ("is_empty" : Str)=none:=rfl
def E1(A:PA)(last:Int):(qf A last).lookup ("take_lowest" : Str)=none:=rfl
def zU(A:PA):(pf A).lookup ("settle" : Str)=none:=rfl
variable{D:Ends}{σ:L2.St}{T:Pz.PS}{m:Nat}
def KQ(A:PA)(σ:L2.St):Prop:=∃u v,σ=[some (.ref A.o),u,v]
def wA(CP CQ:Addr)(B:Hp)(A:PA)(rs:Pz.RS)(xr:DX (List cJ))(T:Pz.PS)(m:Nat)(σ:L2.St)(H:Hp):Prop:=KQ A σ/\∃S xs xl,PAt CP CQ B H A rs S xs xl xr/\Pz.kX S/\Pz.Loop au rs m S T
def OI(TP:ku K CP)(rok:tR rs)(P:PAt CP CQ B H A rs S xs xl xr)(h:IsItem H x v)(hs:KQ A σ)(kn:Pz.bH S.told x.2≠none)(f:Pz.kX (Pz.turn au rs S x))
 (k:∀σ' H',KQ A σ'->(∃xs' xl',PAt CP CQ B H' A rs (Pz.turn au rs S x) xs' xl' xr)->D.nx σ' H'):jn K 2 (br (aU 1) (br (aU 2) jm)) v σ H λσ2 H2=>KO K CP CQ D σ2 H2:=by
 obtain⟨t,_,rfl,ht,b,rfl,hb⟩:=h;obtain⟨u,w,rfl⟩:=hs;have P':=P;obtain⟨_,_,_,Q⟩:=P';rcases Q.po.tr.find x.2 with⟨_,e2⟩|⟨_,y,e1,e2,q,rfl,hq⟩
 .exact(kn e2).elim
 unfold Pz.turn Pz.JQ at f k;rw[e2]at f k;refine HR ht (u5 (.N3 (.ix (λ_ z=>Q.fld TP.cl TP.nt (EV A) rfl _ ⟨_,rfl,A.ta,.ref q,rfl,by rw[<- e1];exact DGet.t Q.po.td hb,z⟩) hq rfl) (.va rfl)) (λh=>?_) λh=>?_)
 .rw[b_ h]at f k;exact u4 (.va rfl) Q.po.ins (zU A) (.c (.va rfl) (.c (.va rfl) .ni)) (.mk P hb rok f λH' xs' xl' P'=>k _ H' ⟨_,_,rfl⟩ ⟨xs',xl',P'⟩)
 .rw[cF h]at k;exact k _ H ⟨_,_,rfl⟩ ⟨xs,xl,P⟩
def Om(TP:ku K CP)(rok:tR rs)(P:bq CP CQ B H A rs S xs xl xr xp kt col)(fit:Pz.kX S)(hs:KQ A σ)(hne:S.aA≠[])(aZ:Pz.vY au S.last S.aA)(hkn:∀x∈Pz.eL au S.aA,Pz.bH S.told x.2≠none)(fit2:Pz.kX (Pz.batch au rs (Pz.take au S) (Pz.eL au S.aA)))
 (lp:Pz.Loop au rs m (Pz.batch au rs (Pz.take au S) (Pz.eL au S.aA)) T) (k:∀σ' H',wA CP CQ B A rs xr T m σ' H'->D.nx σ' H'):KP K CP CQ D σ H:=by
 obtain⟨u,v,rfl⟩:=hs;have pr:RepM k1 IsItem H S.aA xp:=P.p1.r;have f1:=fit.p;have f2:=fit.pf;unfold Pz.L at f1 f2;refine ng (u4 (P.fld TP.cl TP.no (HY A) rfl) P.po.Dz (E1 A _) .ni (.mk ⟨P.po.Dz,P.p1.d,by rw[<- pr.len];lia,pr.low (by lia)⟩ pr aZ hne (by lia) ?_));intro l vs' xp' H1 G1 R1 hl1 a1 nl il sub1 kp1;have P1:bq CP CQ B H1 A rs (Pz.take au S) xs xl xr xp' kt _:=P.zI (m:=Pz.lowP S.aA) (d':=Pz.left au S.aA) G1.ins G1.aA R1 sub1 kp1;obtain⟨B1,w1,w2,w3,P2⟩:=P1.wide (λc=>c=l) λc e=>by
  subst e;rcases il with il|il
  .have hc:=(P.p1.c c il).1;refine⟨nl,λi=>?_,λi=>?_,λi=>?_,λz=>?_,λz=>?_,λz=>?_⟩
   .have:=(P.p2.c c i).1;lia
   .have:=(P.p3.c c i).1;lia
   .have:=(P.p4.c c i).1;lia
   .have:=P.po.c5.1;rw[z]at hc;lia
   .have:=P.po.c6.1;rw[z]at hc;lia
   .have:=P.po.c7.1;rw[z]at hc;lia
  .exact⟨nl,(P.obj il).2⟩
 have sm:∀T' H2,(∃xs' xl',PAt CP CQ B1 H2 A rs T' xs' xl' xr)->Same B1 H2:=λT' H2 ⟨_,_,_,_,_,P⟩=>P.same;exact⟨l,rfl,⟨_,SqL.of hl1⟩,tP (it:=IsItem) (KQ A) (Pz.turn au rs) (Pz.take au S) (λT' H2=>∃xs' xl',PAt CP CQ B1 H2 A rs T' xs' xl' xr) ⟨_,_,rfl⟩ ⟨xs,xl,_,_,_,P2⟩ (λT' H2 w=>⟨.inl (sm T' H2 w _ _ (w3 l _ rfl hl1)),a1.mono (IsItem.keep λc ws e=>sm T' H2 w _ _ (w2 _ _ e))⟩)
  (λi x v σ H2 D' hx ix s ⟨_,_,w⟩ k=>OI TP rok w ix s (Pz.jK _ (λS x k=>Pz.EM k) _ _ (hkn x (kU hx))) (ib (step:=Pz.turn au rs) Pz.zK fit2 hx) k) λσ H2 s ⟨xs',xl',w⟩=>k σ H2 ⟨s,_,xs',xl',w.less w1,fit2,lp⟩⟩
def B_(TP:ku K CP)(h:vH CP CQ vs H Q E):NA K CP CQ {nx:=λ_ H'=>Q .bL H',rt:=Q} (cK ["self","price","arrow"] vs) H:=by
 obtain @⟨B,H,A,rs,S,T,xs,xl,xr,n,Q,E,P,rok,fit,lp,k⟩:=h;refine⟨wA CP CQ B A rs xr T,⟨n,⟨none,none,rfl⟩,S,xs,xl,P,fit,lp⟩,?_⟩;clear P lp fit;rintro m σ H ⟨hs,S,xs,xl,⟨xp,kt,col,P⟩,fit,lp⟩;have h0:σ[0]?=some (some (.ref A.o)):=by obtain⟨_,_,rfl⟩:=hs;rfl
 have el:xp.kv.length=S.aA.length:=by unfold DX.kv;rw[cG,<- P.p1.r.len]
 obtain⟨dy,hq⟩:=P.po.Dz;have f1:=fit.p;unfold Pz.L at f1;refine u4 (P.fld TP.cl TP.no (HY A) h0) ⟨dy,hq⟩ (Ie A _) .ni (.mk hq P.p1.d.root (by rw[el,jY];lia) ⟨_,rfl,?_⟩);rw[el];cases lp with
 |done e=>rw[e];exact AX (k H xs xl ⟨xp,kt,col,P⟩)
 |@step m _ _ hne aZ hkn _ fit2 lp=>rw[kW λz=>hne (Dp.mp z)];exact yZ ⟨wA CP CQ B A rs xr T m,λσ' H' h'=>⟨m,Ps _,h'⟩,Om TP rok P fit hs hne aZ hkn fit2 lp λ_ _=>id⟩
end
section
variable{K:QY}{H:Hp}
def yo{tb:TS}{D:Ends}{σ:L2.St}{H1:Hp}(Sh:L2.St->Prop)(W:Nat->Hp->Prop)(h0:Sh σ)(h1:W 0 H1)(hW:∀i H,W i H->SqL K H l vs)
 (hb:∀(i:Nat)(v:V)(p:Addr)(σ:L2.St)(H:Hp)(D':Ends),vs[i]?=some v->H p=none->Sh σ->W i H->(∀σ' H',Sh σ'->W (i+1) H'->D'.nx σ' H')->g (.ref p) σ (aY H p (.tup [.int (i:Nat),v])) λσ2 H2=>tb D' σ2 H2)
 (hd:∀σ H,Sh σ->W vs.length H->D.nx σ H):Wk (MH K l) g tb D σ H1:=by
 refine⟨λi m σ H=>m=vs.length-i/\i<=vs.length/\Sh σ/\W i H,⟨vs.length,by simp,jT _,h0,h1⟩,?_⟩;rintro i m σ H ⟨rfl,hi,s,w⟩;have q:=hW i H w;by_cases hlt:i<vs.length
 .refine .inr ⟨⟨vs,vs[i],q,by simp[hlt]⟩,λσ' H'=>Sh σ'/\W (i+1) H',λσ' H' p'=>⟨vs.length-(i+1),by lia,rfl,hlt,p'⟩,λx H' y=>?_⟩;obtain⟨p,v,hp,rfl,rfl,y⟩:=y;exact hb i v p σ H _ (y vs q) hp s w λ_ _=>And.intro
 .have e:i=vs.length:=by lia
  subst e;exact .inl ⟨⟨vs,q,bK _⟩,hd σ H s w⟩
def rQ{tb:TS}{D:Ends}{σ:L2.St}(h:ta σ H λvs H1=>∃a xs,vs=[.ref a]/\SqL K H1 a xs/\Wk (MH K a) g tb D σ H1):nW (yc K ta) g tb D σ H:=h
theorem xc:∀(l:List Pz.aV)(k i:Nat),(Pz.en l k)[i]?=(l[i]?).map λr=>(((k+i:Nat):Int),r)
 |[],k,i=>by simp[Pz.en]
 |r::l,k,0=>by simp[Pz.en]
 |r::l,k,i+1=>by show(Pz.en l (k+1))[i]?=(l[i]?).map _;rw[xc l];congr 1;funext r;congr 2;lia
def yp{β:Type}(f:β->Int×Pz.aV->β)(b:β){l:List Pz.aV}{i:Nat}{r:Pz.aV}(h:l[i]?=some r):((Pz.en l 0).take (i+1)).foldl f b=f (((Pz.en l 0).take i).foldl f b) ((i:Int),r):=by
 have e:(Pz.en l 0)[i]?=some ((i:Int),r):=by rw[xc,h];simp
 rw[O1,e,Pf];rfl
structure gX(H:Hp) (RL:List Pz.aV) (p l:Addr) (vs:List V):Prop where
 tup:∃w0 w1,H p=some (.tup [w0,w1,.ref l])
 lst:Rd H l (.lst vs)
 its:fj (IsRule H) RL vs
def iQ(s:Same H H')(h:Rd H a u):Rd H' a u:=h.imp (s a _) λ⟨o,e⟩=>⟨o,s a _ e⟩
def gX.same(h:gX H RL p l vs)(s:Same H H'):gX H' RL p l vs:=⟨let ⟨w0,w1,e⟩:=h.tup;⟨w0,w1,s _ _ e⟩,iQ s h.lst,h.its.mono (IsRule.keep (tM s))⟩
inductive Dq:Sp
 |mk {RL:List Pz.aV} {p l:Addr} {ws:List V} {H:Hp} {Q:VK} {E:XK} (G:gX H RL p l ws) (cr:RL.length<16000000) (k:∀(ar:Addr)(xr:DX (List cJ))(H':Hp),Same H H'->DL .dT H' ar xr->RepM k2 IsNum H' (Pz.bS RL) xr->(∀c,dC ar xr c->H c=none)->Q (.ref ar) H'):Dq [.ref p] H Q E
def OJ:R2:=xF λi j=>.bl (decide (j<i))
def KR(K:QY):TS:=vZ (nH (k7 OJ (DR (ve K) (aB (tI K 3 3) bF)) (tC (.int 0)))) (fJ (pR K (aH 1) (k8 (aB (tI K 3 2) (aB (k7 (oP K) (tI K 3 3) (tC (.int 0))) bF))) (k8 (aB (aH 2) (aB (aH 3) bF))))) um
def NB(K:QY):TS:=fk (nW (yc K (aB (tI K 0 2) bF)) (jn K 2 (br (aU 2) (br (aU 3) jm))) (KR K)) (yM (aH 1))
def OK(K:QY):TS:=fk (lM oS (aU 1)) (NB K)
def Ca(h:Dq vs H Q E):vs.length=1:=by cases h;rfl
def zV(hto:Reads to σ H (.ref a))(hr:H a=some (.dT kvs))(hk:Makes tk σ H ks)(h:∀b,H b=none->pR K (tC (.ref a)) (tC (.ref b)) te σ (aY H b (.tup ks)) Q):pR K to tk te σ H Q:=hto _ ⟨.inr (.inr (.inl ⟨rfl,.inr ⟨_,hr⟩⟩)),hk _ λb hb=>(h b hb).2⟩
def Ig{β:Type}{it:Hp->β->V->Prop}(kp:∀{H H':Hp},KT H H'->∀a v,it H a v->it H' a v){to tk te:TE}{σ:L2.St}{ar:Addr}{xr:DX (List cJ)}{d:Pz.MD (Int×Int) β}{k:Int×Int}{v:β}{ws:List V}{C:Hp->Prop}(D2:DL .dT H ar xr)(R2:RepM k2 it H d xr)(ok:d.Ok)(qD:d.flat.length<16000000)(ht:Reads to σ H (.ref ar))(hk:Makes tk σ H [.int k.1,.int k.2])(hm:∀H',KT H H'->Makes te σ H' ws)(hi:∀p H',KT H H'->H' p=some (.tup ws)->it H' v (.ref p))
 (kk:∀H' xr',DL .dT H' ar xr'->RepM k2 it H' (d.app k v) xr'->(∀c,dC ar xr' c->dC ar xr c\/H c=none)->(∀c u,H c=some u->¬dC ar xr c->H' c=some u)->C H'):pR K to tk te σ H λ_ H'=>C H':=by
 refine zV ht D2.root hk λb hb=>?_;have s4:=aQ (o:=HO.tup [.int k.1,.int k.2]) hb;refine tH (a:=ar) (b:=b) (xs:=xr) (k:=k2 k) (ws:=ws) (D2.keep λc u e _=>s4 c u e) .k .k aw (λH' kp=>hm H' λc vs e=>kp c _ (s4 _ _ e) λz=>by rw[z,D2.root]at e;cases e) (by rw[<- R2.len];have:=Pz.iN ok;lia) (R2.low qD) ?_;intro l5 p5 H5 hl5 hp5 hm5 hd5 kp5;have kp':∀c u,H c=some u->¬dC ar xr c->H5 c=some u:=λc u e=>kp5 c u (s4 _ _ e);have kt5:=D2.kt (λ_ _ z=>HO.noConfusion z) kp';exact kk H5 _ hd5 (R2.add (k:=k) (v:=v) tJ (kp kt5) (hi p5 H5 kt5 hm5)) (λc z=>(j9 z).imp id λz=>by rw[z];exact s4.free hl5) kp'
variable{D:Ends}{σ:L2.St}{p ar pp c q:Addr}{r:Pz.aV}{n:Int}{xr:DX (List cJ)}{d:Pz.RS}
def NC(p ar:Addr)(σ:L2.St):Prop:=∃u v,σ=[some (.ref p),some (.ref ar),u,v]
def OL(D2:DL .dT H ar xr)(R2:RepM k2 IsNum H d xr)(ok:d.Ok)(qD:d.flat.length<16000000)(hs:NC p ar σ)(hpp:H pp=some (.tup [.int n,.ref c]))(hc:H c=some (.tup [.int r.1,.int r.2.1,.int r.2.2.1,.ref q]))(hq:H q=some (.tup (r.2.2.2.map .int)))
 (k:∀σ' H' xr',NC p ar σ'->DL .dT H' ar xr'->RepM k2 IsNum H' (Pz.gR d (n,r)) xr'->(∀c,dC ar xr' c->dC ar xr c\/H c=none)->(∀c u,H c=some u->¬dC ar xr c->H' c=some u)->D.nx σ' H'):jn K 2 (br (aU 2) (br (aU 3) jm)) (.ref pp) σ H λσ2 H2=>KR K D σ2 H2:=by
 obtain⟨u,w,rfl⟩:=hs;have e2:(0:Int)<(((r.2.2.2.map V.int).length:Nat):Int)↔r.2.2.2.length>0:=by rw[cG];lia
 unfold Pz.gR at k;refine HR hpp (u5 (.op (.len (.ix (.va rfl) hc rfl) hq) .k λ_ q=>⟨_,_,rfl,rfl,q⟩) (λh=>?_) λh=>?_)
 .have h1:=e2.mp (t7 h);rw[b_ h1]at k;have hat:(r.2.2.2.map V.int)[0]?=some (.int (r.2.2.2[0]?.getD 0)):=by
   cases hl:r.2.2.2 with
   |nil=>rw[hl]at h1;simp at h1
   |cons x y=>rfl
  exact Ig (k:=(r.2.2.1,r.2.2.2[0]?.getD 0)) (v:=(n,r)) (λk=>IsNum.keep k) D2 R2 ok qD (.va rfl) (.t (.c (.ix (.va rfl) hc rfl) (.c (.ix (.ix (.va rfl) hc rfl) hq (xM (j:=0) hat)) .ni)) rfl) (λH' _=>.t (.c (.va rfl) (.c (.va rfl) .ni)) rfl) (λp H' kt hm=>⟨p,_,rfl,hm,c,q,rfl,kt _ _ hc,kt _ _ hq⟩) λH' xr'=>k _ H' xr' ⟨_,_,rfl⟩
 .rw[cF λz=>h (io (e2.mpr z))]at k;exact k _ H _ ⟨_,_,rfl⟩ D2 R2 (λc=>.inl) λc u e _=>e
def E2{Q:VK}{E:XK}(h:Dq vs H Q E):OK K {nx:=λ_ H'=>Q .bL H',rt:=Q} (cK ["house","rules","number","rule"] vs) H:=by
 obtain @⟨RL,p,l,ws,H,Q,E,G,cr,k⟩:=h;intro ar har;have s1:Same H (aY H ar (.dT [])):=aQ har;obtain⟨w0,w1,hp⟩:=(G.same s1).tup;have bl:∀i,(((Pz.en RL 0).take i).foldl Pz.gR []).Ok/\(((Pz.en RL 0).take i).foldl Pz.gR []).flat.length<16000000:=λi=>by obtain⟨a,b⟩:=Pz.wZ ((Pz.en RL 0).take i) [] Pz.uZ;have h1:=Qu i (Pz.en RL 0);rw[Pz.pP]at h1;have h2:(Pz.MD.flat ([]:Pz.RS)).length=0:=rfl;exact⟨a,by lia⟩
 refine rQ (ReadsA.c (.ix (.va (i:=0) rfl) hp (v:=.ref l) rfl) .ni _ ⟨l,ws,rfl,.inl (iQ s1 G.lst),?_⟩);refine yo (NC p ar) (λi H2=>∃xr,Same H H2/\DL .dT H2 ar xr/\RepM k2 IsNum H2 (((Pz.en RL 0).take i).foldl Pz.gR []) xr/\∀c,dC ar xr c->H c=none) ⟨none,none,rfl⟩ ⟨[],s1,⟨aw,λ_ h=>(du h).elim,j3,j3⟩,.nil,λc i=>?_⟩ (λi H2 ⟨xr,s2,_⟩=>.inl (iQ s2 G.lst)) (λi v pp σ H2 D' hv hpp hs ⟨xr,s2,D2,R2,n2⟩ k=>?_) λσ H2 ⟨u,w,e⟩ ⟨xr,s2,D2,R2,n2⟩=>?_
 .rcases i with rfl|⟨x,hx,_⟩
  .exact har
  .exact(du hx).elim
 .obtain⟨r,hr,c,q,rfl,hc,hq⟩:=G.its.get hv;have s3:=aQ (o:=HO.tup [.int (i:Nat),.ref c]) hpp;have s03:=s2.trans s3;rw[yp _ _ hr]at k;exact OL (D2.keep λc u e _=>s3 c u e) (R2.keep (IsNum.keep (tM s3))) (bl i).1 (bl i).2 hs aw (s03 _ _ hc) (s03 _ _ hq) λσ' H' xr' h1 h2 h3 h4 h5=>k σ' H' h1 ⟨xr',(λc u e=>h5 c u (s03 _ _ e) λz=>by rw[n2 c z]at e;cases e),h2,h3,λc z=>(h4 c z).elim (n2 c) s03.free⟩
 .subst e;rw[qm (by rw[Pz.pP,G.its.len];exact bK _)]at R2;exact⟨_,rfl,k ar xr H2 s2 D2 R2 n2⟩
end
section
variable{K:QY}{CP CQ:Addr}{H:Hp}
inductive mE(CP CQ:Addr):Sp
 |mk {B H:Hp} {RL:List Pz.aV} {o dx p l:Addr} {ws:List V} {Q:VK} {E:XK} (ho:H o=some (.ins CP dx [])) (sb:Same B H) (nb:B o=none) (G:gX H RL p l ws) (cr:RL.length<16000000) (k:∀(A:PA)(xr:DX (List cJ))(H':Hp),A.o=o->PAt CP CQ B H' A (Pz.bS RL) Pz.S0 [] [] xr->Q .bL H'):mE CP CQ [.ref o,.ref p] H Q E
def Ih(K:QY)(CQ:Addr):TS:=
 fk (sr K (aH 0) (xI Dq [] E0 (aB (aH 1) bF)) "rules")
 (fk (sr K (aH 0) oS "told")
 (fk (sr K (aH 0) (xJ CQ (mH CQ) [] E0 bF) "offers")
 (fk (sr K (aH 0) oS "settled")
 (sr K (aH 0) oS "lacking"))))
def vg(h:mE CP CQ vs H Q E):vs.length=2:=by cases h;rfl
def xf(TP:ku K CP)(h:mE CP CQ vs H Q E):Ih K CQ {nx:=λ_ H'=>Q .bL H',rt:=Q} (cK N vs) H:=by
 obtain @⟨B,H,RL,o,dx,p,l,ws,Q,E,ho,sb,nb,G,cr,k⟩:=h;refine⟨_,rfl,.mk G cr λar xr H1 s1 D1 R1 n1=>?_⟩;have ho1:=s1 _ _ ho;have nor:∀c,dC ar xr c->c≠o:=λc i z=>by grind
 refine⟨_,rfl,o,CP,dx,_,rfl,ho1,TP.cl,TP.nr,(by grind),?_⟩;generalize hH2:aY H1 o (.ins CP dx (hI "rules" (.ref ar) []))=H2;have ho2:H2 o=some (.ins CP dx [("rules",.ref ar)]):=by rw[<- hH2,aw];rfl
 have kp2:∀c u,H1 c=some u->c≠o->H2 c=some u:=λc u e n=>by rw[<- hH2,aj n];exact e
 intro ta hta;have e3:aY H2 ta (.dT []) o=some (.ins CP dx [("rules",.ref ar)]):=by rw[aj (ay ho2 hta)];exact ho2
 refine⟨_,rfl,o,CP,dx,_,rfl,e3,TP.cl,TP.nt,(by grind),?_⟩;generalize hH4:aY (aY H2 ta (.dT [])) o (.ins CP dx (hI "told" (.ref ta) [("rules",.ref ar)]))=H4;have no_ta:ta≠o:=(ay ho2 hta).symm;have ho4:H4 o=some (.ins CP dx [("rules",.ref ar),("told",.ref ta)]):=by rw[<- hH4,aw];rfl
 have ta4:H4 ta=some (.dT []):=by rw[<- hH4,aj no_ta,aw]
 have kp4:∀c u,H2 c=some u->c≠o->H4 c=some u:=λc u e n=>by rw[<- hH4,aj n,aj (ay e hta)];exact e
 intro aq dq haq hdq ndq;refine .mk aw λap H5 hap hq5 hp5 kp5=>⟨rfl,?_⟩;have kp5':∀c u,H4 c=some u->H5 c=some u:=λc u e=>kp5 c u (by rw[aj (ay e haq),aj (ay e hdq)];exact e) (ay e haq);have ap4:H4 ap=none:=by
  have h1:ap≠aq:=λz=>by grind
  have h2:ap≠dq:=λz=>by rw[z,aj ndq,aw]at hap;cases hap
  rw[aj h1,aj h2]at hap;exact hap
 have apq:ap≠aq:=λz=>by grind
 refine⟨_,rfl,o,CP,dx,_,rfl,kp5' _ _ ho4,TP.cl,TP.no,(by grind),?_⟩;generalize hH6:aY H5 o (.ins CP dx (hI "offers" (.ref aq) [("rules",.ref ar),("told",.ref ta)]))=H6;have noq:aq≠o:=λz=>by grind
 have nop:ap≠o:=λz=>by grind
 have ho6:H6 o=some (.ins CP dx [("rules",.ref ar),("told",.ref ta),("offers",.ref aq)]):=by rw[<- hH6,aw];rfl
 have kp6:∀c u,H5 c=some u->c≠o->H6 c=some u:=λc u e n=>by rw[<- hH6,aj n];exact e
 intro sa hsa;have nsa:sa≠o:=(ay ho6 hsa).symm;refine⟨_,rfl,o,CP,dx,_,rfl,(by rw[aj (ay ho6 hsa)];exact ho6),TP.cl,TP.ns,(by grind),?_⟩;generalize hH8:aY (aY H6 sa (.dT [])) o (.ins CP dx (hI "settled" (.ref sa) [("rules",.ref ar),("told",.ref ta),("offers",.ref aq)]))=H8;have ho8:H8 o=some (.ins CP dx [("rules",.ref ar),("told",.ref ta),("offers",.ref aq),("settled",.ref sa)]):=by rw[<- hH8,aw];rfl
 have sa8:H8 sa=some (.dT []):=by rw[<- hH8,aj nsa,aw]
 have kp8:∀c u,H6 c=some u->c≠o->H8 c=some u:=λc u e n=>by rw[<- hH8,aj n,aj (ay e hsa)];exact e
 intro la hla;have nla:la≠o:=(ay ho8 hla).symm;refine⟨_,rfl,o,CP,dx,_,rfl,(by rw[aj (ay ho8 hla)];exact ho8),TP.cl,TP.nl,(by grind),?_⟩;generalize hH9:aY (aY H8 la (.dT [])) o (.ins CP dx (hI "lacking" (.ref la) [("rules",.ref ar),("told",.ref ta),("offers",.ref aq),("settled",.ref sa)]))=H9;have ho9:H9 o=some (.ins CP dx (pf ⟨o,ta,aq,ap,sa,la,ar⟩)):=by rw[<- hH9,aw];rfl
 have la9:H9 la=some (.dT []):=by rw[<- hH9,aj nla,aw]
 have kp9:∀c u,H8 c=some u->c≠o->H9 c=some u:=λc u e n=>by rw[<- hH9,aj n,aj (ay e hla)];exact e
 have sa9:=kp9 _ _ sa8 nsa;have k69:∀c u,H6 c=some u->c≠o->H9 c=some u:=λc u e n=>kp9 c u (kp8 c u e n) n;have k59:∀c u,H5 c=some u->c≠o->H9 c=some u:=λc u e n=>k69 c u (kp6 c u e n) n;have k49:∀c u,H4 c=some u->c≠o->H9 c=some u:=λc u e n=>k59 c u (kp5' c u e) n;have k19:∀c u,H1 c=some u->c≠o->H9 c=some u:=λc u e n=>k49 c u (kp4 c u (kp2 c u e n) n) n;have fr:∀c,H9 c≠none->H c=none->B c=none:=λc _ e=>sb.free e;have oldR:∀c,dC ar xr c->H1 c≠none:=λc i=>D1.obj i;have n1_ta:H1 ta=none:=by
  cases e:H1 ta with
  |none=>rfl
  |some u=>rw[kp2 _ _ e no_ta]at hta;cases hta
 have n4_up:∀c,H4 c=none->c≠o->H1 c=none/\c≠ta:=λc e n=>by
  refine⟨?_,λz=>by grind⟩;cases e':H1 c with
  |none=>rfl
  |some u=>rw[kp4 _ _ (kp2 _ _ e' n) n]at e;cases e
 have n5_up:∀c,H5 c=none->c≠o->H4 c=none/\c≠aq/\c≠ap:=λc e n=>by
  refine⟨?_,(λz=>by grind),λz=>by grind⟩;cases e':H4 c with
  |none=>rfl
  |some u=>rw[kp5' _ _ e']at e;cases e
 have n6_up:∀c,H6 c=none->H5 c=none:=λc e=>by
  cases e':H5 c with
  |none=>rfl
  |some u=>
   by_cases n:c=o
   .rw[n,ho6]at e;cases e
   .rw[kp6 _ _ e' n]at e;cases e
 have n8_up:∀c,H8 c=none->H6 c=none/\c≠sa:=λc e=>by
  refine⟨?_,λz=>by grind⟩;cases e':H6 c with
  |none=>rfl
  |some u=>
   by_cases n:c=o
   .rw[n,ho8]at e;cases e
   .rw[kp8 _ _ e' n]at e;cases e
 obtain⟨la6,la_sa⟩:=n8_up la hla;obtain⟨la4,la_aq,la_ap⟩:=n5_up la (n6_up la la6) nla;obtain⟨la1,la_ta⟩:=n4_up la la4 nla;obtain⟨sa4,sa_aq,sa_ap⟩:=n5_up sa (n6_up sa hsa) nsa;obtain⟨sa1,sa_ta⟩:=n4_up sa sa4 nsa;obtain⟨aq1,aq_ta⟩:=n4_up aq haq noq;obtain⟨ap1,ap_ta⟩:=n4_up ap ap4 nop;have H0of:∀c,H1 c=none->H c=none:=λc e=>s1.free e;have same:Same B H9:=λc u e=>k19 c u (s1 c u (sb c u e)) λz=>by grind
 have inNil:∀{a c:Addr},dC a ([]:DX (List cJ)) c->c=a:=λi=>i.elim id λ⟨x,hx,_⟩=>(du hx).elim
 classical
 refine k ⟨o,ta,aq,ap,sa,la,ar⟩ xr H9 rfl ⟨[],[],λc=>if c=o then 6 else if c=ta then 5 else if c=aq then 7 else if c=ap then 1 else if c=sa then 2 else if c=la then 3 else 4,same,⟨⟨?_,λ_ h=>(du h).elim,j3,j3⟩,.nil,λc i=>?_⟩,⟨⟨sa9,λ_ h=>(du h).elim,j3,j3⟩,.nil,λc i=>?_⟩,⟨⟨la9,λ_ h=>(du h).elim,j3,j3⟩,.nil,λc i=>?_⟩,⟨D1.keep λc u e i=>k19 c u e (nor c i),R1.keep (IsNum.keep λc ws e=>k19 c _ e λz=>by grind),λc i=>?_⟩,⟨dx,ho9⟩,⟨dq,k59 _ _ hq5 noq⟩,k49 _ _ ta4 no_ta,.nil,?_,?_,?_⟩
 .exact k59 _ _ hp5 nop
 .have:c=ap:=i.elim id λ⟨x,hx,_⟩=>(du hx).elim;subst this;exact⟨by grind,sb.free (H0of _ ap1)⟩
 .have:=inNil i;dsimp only at this;subst this;exact⟨by grind,sb.free (H0of _ sa1)⟩
 .have:=inNil i;dsimp only at this;subst this;exact⟨by grind,sb.free (H0of _ la1)⟩
 .have hc:=oldR c i;refine⟨?_,sb.free (n1 c i)⟩;rw[cF (nor c i),cF (λz=>hc (by grind)),cF (λz=>hc (by grind)),cF (λz=>hc (by grind)),cF (λz=>hc (by grind)),cF (λz=>hc (by grind))]
 .exact⟨by grind,sb.free (H0of _ n1_ta)⟩
 .exact⟨b_ rfl,nb⟩
 .exact⟨by grind,sb.free (H0of _ aq1)⟩
end
noncomputable def b5(a:Pz.bz):D:=.tup [.int a.1,.int a.2.1,.int a.2.2]
noncomputable def eQ(r:Pz.aV):D:=.tup [.int r.1,.int r.2.1,.int r.2.2.1,.tup (r.2.2.2.map .int)]
noncomputable def oD:Option Int->D
 |none=>.bL
 |some i=>.int i
def KS(x:Pz.Ar):D:=.tup [.int x.1,oD x.2.1,oD x.2.2]
def vh(t:Pz.TD):D:=.nF (t.map λx=>.inr (ak x.1)) (t.map λx=>KS x.2)
def pS(ds:List D)(t:Pz.TD):Prop:=∃(RL:List Pz.aV)(M:List Pz.bz)(h0 h1 m0 m2:D)(n:Nat)(T:Pz.PS),ds=[.tup [h0,h1,.lst (RL.map eQ)],.tup [m0,.lst (M.map b5),m2]]/\RL.length<16000000/\Pz.kX (Pz.jL au RL M)/\Pz.Loop au (Pz.bS RL) n (Pz.jL au RL M) T/\t=T.told
open Classical in
def Ii(Fr:List D->Res R)(ds:List D):Res R:=match Fr ds with
 |.ok _=>if h:∃t,pS ds t then .ok (.lJ (vh (Classical.choose h)))else .stuck
 |.exc c=>.exc c
 |.stuck=>.stuck
theorem Cb:∀{ns:List Int}{vs:List V},IsAll H m (ns.map .int) vs->vs=ns.map .int
 |[],vs,h=>h
 |n::ns,vs,h=>by obtain⟨v,r,rfl,h1,h2⟩:=h;rw[Cb h2,show v=.int n from h1];rfl
def Ij(h:Is H m (eQ r) v):IsRule H r v:=by obtain⟨a,vs,rfl,ha,v0,r0,rfl,e0,v1,r1,rfl,e1,v2,r2,rfl,e2,v3,r3,rfl,⟨q,ws,rfl,hq,hw⟩,rfl⟩:=h;obtain rfl:v0=.int r.1:=e0;obtain rfl:v1=.int r.2.1:=e1;obtain rfl:v2=.int r.2.2.1:=e2;exact⟨a,q,rfl,ha,by rw[hq,Cb hw]⟩
def KU(h:Is H m (b5 r) v):IsArr H r v:=by obtain⟨a,vs,rfl,ha,v0,r0,rfl,e0,v1,r1,rfl,e1,v2,r2,rfl,e2,rfl⟩:=h;obtain rfl:v0=.int r.1:=e0;obtain rfl:v1=.int r.2.1:=e1;obtain rfl:v2=.int r.2.2:=e2;exact⟨a,rfl,ha⟩
theorem Cc{α:Type}{H:Hp}{m:Addr->Prop}{f:α->D}{it:α->V->Prop}(hf:∀x v,Is H m (f x) v->it x v):∀{xs:List α}{vs:List V},IsAll H m (xs.map f) vs->fj it xs vs
 |[],vs,h=>by cases(show vs=[]from h);exact .nil
 |x::xs,vs,h=>by obtain⟨v,r,rfl,h1,h2⟩:=h;exact .cons (hf x v h1) (Cc hf h2)
def F5(h:Is H m (.lst ds) v):∃a vs,v=.ref a/\Rd H a (.lst vs)/\IsAll H m ds vs:=by obtain⟨a,vs,rfl,h1,h2⟩:=h;exact⟨a,vs,rfl,h1.imp And.left λ⟨o,e,_⟩=>⟨o,e⟩,h2⟩
def ND(RL:List Pz.aV):tR (Pz.bS RL):=λk x hx=>by
 rcases(Pz.tG _ _ _ _).mp hx with h|⟨_,y,l,e,_⟩
 .exact(du h).elim
 .rw[e];simp
section
variable{K:QY}{CP CQ:Addr}{H:Hp}
def KW(K:QY)(CP CQ:Addr):TS:=fk (fJ (fR CP "settle_all" (vH CP CQ) [] E0 (aH 2) bF)) (yM (fO K (aH 2) "told"))
def KY(K:QY)(CP CQ:Addr):TS:=vZ (nH (k7 JN (DR (ve K) (aB (tI K 5 3) bF)) (tC (.int 0))))
 (fJ (fR CP "offer" (fI CP CQ) [] E0 (aH 2) (aB (k8 (aB (tI K 5 0) (aB (tI K 5 1) (aB (tI K 5 2) bF)))) (aB (tC (.int 1)) (aB (aH 4) (aB (tC .bL) bF)))))) um
def KZ(K:QY)(CP CQ:Addr):TS:=fk (nW (yc K (aB (tI K 0 2) bF)) (jn K 2 (br (aU 4) (br (aU 5) jm))) (KY K CP CQ)) (KW K CP CQ)
def K1(CP CQ:Addr):TS:=fJ (fR CP "offer" (fI CP CQ) [] E0 (aH 2) (aB (aH 3) (aB (tC (.int 0)) (aB (tC .bL) (aB (tC .bL) bF)))))
def K3(K:QY)(CP CQ:Addr):TS:=fk (nW (kC K (tI K 1 1)) (aU 3) (K1 CP CQ)) (KZ K CP CQ)
def E3(K:QY)(mg:Str->Option Q0)(Fr:List D->Res R)(CP CQ:Addr)(E:XK):TS:=fk (fJ (xI (lI mg 2 Fr) [] E (aB (aH 0) (aB (aH 1) bF)))) (fk (lM (xJ CP (mE CP CQ) [] E0 (aB (aH 0) bF)) (aU 2)) (K3 K CP CQ))
def Ik(A:PA):(pf A).lookup ("settle_all" : Str)=none:=rfl
def Il(h:RepT H t kt):(t.map λx=>(Sum.inr (ak x.1):DK))=kt.map (λp=>.inr p.1)/\IsAll H m (t.map λx=>KS x.2) (kt.map Prod.snd):=by
 have ho:∀o:Option Int,Is H m (oD o) (vO o):=λo=>by cases o<;>rfl
 induction h with
 |nil=>exact⟨rfl,rfl⟩
 |@cons x y _ _ q _ ih=>obtain⟨e,p,hp,hv⟩:=q;exact⟨by rw[dz,dz,e,ih.1],y.2,_,rfl,⟨p,_,hp,hv,_,_,rfl,rfl,_,_,rfl,ho _,_,_,rfl,ho _,rfl⟩,ih.2⟩
section
variable{D:Ends}{σ:L2.St}{B:Hp}{A:PA}{rs:Pz.RS}{S T:Pz.PS}{xs xl xr:DX (List cJ)}{p0 p1 l lm:Addr}{RL:List Pz.aV}{M:List Pz.bz}{ws wm:List V}{n:Nat}
def E4(p0 p1:Addr)(A:PA)(σ:L2.St):Prop:=∃u v w,σ=[some (.ref p0),some (.ref p1),some (.ref A.o),u,v,w]
def pr2(P:PAt CP CQ B H A rs S xs xl xr)(h:IsArr H a v)(hs:E4 p0 p1 A σ)(f:Pz.kX (Pz.jb au S a))(k:∀σ' H',E4 p0 p1 A σ'->PAt CP CQ B H' A rs (Pz.jb au S a) xs xl xr->D.nx σ' H'):aU 3 v σ H λσ2 H2=>K1 CP CQ D σ2 H2:=by obtain⟨b,rfl,hb⟩:=h;obtain⟨u,w,z,rfl⟩:=hs;have P':=P;obtain⟨_,_,_,Q⟩:=P';exact u4 (.va rfl) Q.po.ins (B8 A) (.c (.va rfl) (.c .k (.c .k (.c .k .ni)))) (.mk (n:=none) (m:=none) P hb f λH'=>k _ H' ⟨_,_,_,rfl⟩)
def OM(P:PAt CP CQ B H A rs S xs xl xr)(hp:H pp=some (.tup [.int i,.ref c]))(hc:H c=some (.tup [.int r.1,.int r.2.1,.int r.2.2.1,.ref q]))(hq:H q=some (.tup (r.2.2.2.map .int)))(hs:E4 p0 p1 A σ)(f:Pz.kX (Pz.fT au S (i,r)))
 (k:∀σ' H',E4 p0 p1 A σ'->PAt CP CQ B H' A rs (Pz.fT au S (i,r)) xs xl xr->D.nx σ' H'):jn K 2 (br (aU 4) (br (aU 5) jm)) (.ref pp) σ H λσ2 H2=>KY K CP CQ D σ2 H2:=by
 obtain⟨u,w,z,rfl⟩:=hs;have e2:(((r.2.2.2.map V.int).length:Nat):Int)=0↔r.2.2.2.length=0:=by rw[cG];lia
 unfold Pz.fT at f k;refine HR hp (u5 (.N3 (.len (.ix (.va rfl) hc rfl) hq) .k) (λh=>?_) λh=>?_)
 .rw[b_ (e2.mp (t7 h))]at f k;exact tO P f (.va rfl) (.t (.c (.ix (.va rfl) hc rfl) (.c (.ix (.va rfl) hc rfl) (.c (.ix (.va rfl) hc rfl) .ni))) rfl) (λ_ _=>.c .k (.c (.va rfl) (.c .k .ni))) λH'=>k _ H' ⟨_,_,_,rfl⟩
 .rw[cF λz=>h (io (e2.mpr z))]at k;exact k _ H ⟨_,_,_,rfl⟩ P
def ON(TP:ku K CP)(P:PAt CP CQ B H A rs S xs xl xr)(rok:tR rs)(fit:Pz.kX S)(lp:Pz.Loop au rs n S T)(hs:E4 p0 p1 A σ)(k:∀H' xs' xl',PAt CP CQ B H' A rs T xs' xl' xr->D.rt (.ref A.ta) H'):KW K CP CQ D σ H:=by obtain⟨u,w,z,rfl⟩:=hs;have P':=P;obtain⟨_,_,_,Q⟩:=P';exact u4 (.va rfl) Q.po.ins (Ik A) .ni (.mk P rok fit lp λH' xs' xl' P'=>by have P2:=P';obtain⟨_,_,_,Q⟩:=P2;exact Q.fld TP.cl TP.nt (EV A) rfl _ (k H' xs' xl' P'))
def OO(TP:ku K CP)(G:gX B RL p0 l ws)(P:PAt CP CQ B H A (Pz.bS RL) (M.foldl (Pz.jb au) Pz.S0) xs xl xr)(fit:Pz.kX (Pz.jL au RL M))(rok:tR (Pz.bS RL))(lp:Pz.Loop au (Pz.bS RL) n (Pz.jL au RL M) T)(hs:E4 p0 p1 A σ)
 (k:∀H' xs' xl',PAt CP CQ B H' A (Pz.bS RL) T xs' xl' xr->D.rt (.ref A.ta) H'):KZ K CP CQ D σ H:=by
 obtain⟨w0,w1,hp0⟩:=(G.same P.same).tup;have h0:σ[0]?=some (some (.ref p0)):=by obtain⟨_,_,_,rfl⟩:=hs;rfl
 refine rQ (ReadsA.c (.ix (.va h0) hp0 (v:=.ref l) rfl) .ni _ ⟨l,ws,rfl,.inl (iQ P.same G.lst),?_⟩);refine yo (E4 p0 p1 A) (λi H5=>PAt CP CQ B H5 A (Pz.bS RL) (((Pz.en RL 0).take i).foldl (Pz.fT au) (M.foldl (Pz.jb au) Pz.S0)) xs xl xr) hs P (λi H5 P5=>.inl (iQ P5.same G.lst)) (λi v pp σ H5 D' hv hpp hs P5 k=>?_) λσ H5 hs P5=>?_
 .obtain⟨r,hr,c,q,rfl,hc,hq⟩:=G.its.get hv;have P6:=P5.more (aQ (o:=.tup [.int (i:Nat),.ref c]) hpp);rw[yp (Pz.fT au) (M.foldl (Pz.jb au) Pz.S0) hr]at k;exact OM P6 aw (P6.same _ _ hc) (P6.same _ _ hq) hs (ib (step:=Pz.fT au) (λS x=>by unfold Pz.fT;split;exact Pz.cq _ _ _ _ _;exact .refl _) (its:=Pz.en RL 0) fit (by rw[xc,hr];simp)) k
 .rw[qm (by rw[Pz.pP,G.its.len];exact bK _)]at P5;exact ON TP P5 rok fit lp hs k
def OP(TP:ku K CP)(G:gX B RL p0 l ws)(hp1:B p1=some (.tup [y0,.ref lm,y2]))(hlm:Rd B lm (.lst wm))(aM:fj (IsArr B) M wm)(P:PAt CP CQ B H A (Pz.bS RL) Pz.S0 xs xl xr)(fit:Pz.kX (Pz.jL au RL M))(rok:tR (Pz.bS RL))(lp:Pz.Loop au (Pz.bS RL) n (Pz.jL au RL M) T)(hs:E4 p0 p1 A σ)
 (k:∀H' xs' xl',PAt CP CQ B H' A (Pz.bS RL) T xs' xl' xr->D.rt (.ref A.ta) H'):K3 K CP CQ D σ H:=by
 have g2:Pz.gb (M.foldl (Pz.jb au) Pz.S0) (Pz.jL au RL M):=Pz.cH _ (λS x=>by unfold Pz.fT;split;exact Pz.cq _ _ _ _ _;exact .refl _) _ _;have h1:σ[1]?=some (some (.ref p1)):=by obtain⟨_,_,_,rfl⟩:=hs;rfl
 exact ng (Reads.ix (.va h1) (P.same _ _ hp1) (v:=.ref lm) rfl _ ⟨lm,rfl,⟨wm,.inl (iQ P.same hlm)⟩,tP (it:=IsArr) (E4 p0 p1 A) (Pz.jb au) Pz.S0 (λT H4=>PAt CP CQ B H4 A (Pz.bS RL) T xs xl xr) hs P (λT' H4 P4=>⟨iQ P4.same hlm,aM.mono (IsArr.keep (tM P4.same))⟩)
  (λi a v σ H4 D' hi ia hs P4 k=>pr2 P4 ia hs (ib (step:=Pz.jb au) (λS x=>Pz.cq S _ _ _ _) (g2.fit fit) hi) k) λσ H4 hs P4=>OO TP G P4 fit rok lp hs k⟩)
end
def vi{mg:Str->Option Q0}{Fr:List D->Res R}(TP:ku K CP)(h:lI mg 2 (Ii Fr) vs H Q E):E3 K mg Fr CP CQ E {nx:=λ_ H'=>Q .bL H',rt:=Q} (cK ["house","machine","pricing","arrow","number","rule"] vs) H:=by
 obtain⟨hl,ds,Ma,is,post⟩:=h;obtain⟨v0,v1,rfl⟩ : ∃v0 v1,vs=[v0,v1]:=by rcases vs with _|⟨v0,_|⟨v1,_|⟨_,_⟩⟩⟩<;>first|(cases hl;done)|exact⟨_,_,rfl⟩
 refine⟨_,rfl,_,rfl,rfl,ds,Ma,is,?_⟩;unfold Ii at post;cases hF:Fr ds with
 |stuck=>rw[hF]at post;exact post
 |exc c=>rw[hF]at post;exact post
 |ok r=>
  rw[hF]at post;dsimp only at post;by_cases hex:∃t,pS ds t
  case neg=>rw[dif_neg hex]at post;exact post.elim
  case pos=>
  rw[dif_pos hex]at post;have hch:=Classical.choose_spec hex;generalize Classical.choose hex=t at post hch;obtain⟨RL,M,d0,d1,m0,m2,n,T,rfl,cr,fit,lp,rfl⟩:=hch;intro v H1 s1 _;obtain⟨_,_,ev,⟨p0,_,rfl,hp0,w0,_,rfl,_,w1,_,rfl,_,w2,_,rfl,iw2,rfl⟩,_,_,ev2,⟨p1,_,rfl,hp1,y0,_,rfl,_,y1,_,rfl,iy1,y2,_,rfl,_,rfl⟩,rfl⟩:=is;cases ev;cases ev2;obtain⟨l,ws,rfl,hl,iR⟩:=F5 iw2;obtain⟨lm,wm,rfl,hlm,iM⟩:=F5 iy1;have G:gX H RL p0 l ws:=⟨⟨_,_,hp0⟩,hl,Cc (λx v=>Ij) iR⟩;refine⟨_,rfl,λo dx ho hdx hne=>?_⟩;have s2:Same H (aY (aY H1 dx (.own o)) o (.ins CP dx [])):=s1.trans λb u e=>by rw[aj (ay e ho),aj (ay e hdx)];exact e
  refine .mk aw s2 (s1.free ho) (G.same s2) cr λA xr H3 eA P=>⟨rfl,?_⟩;subst eA;refine OP TP G hp1 hlm (Cc (λx v=>KU) iM) P fit (ND RL) lp ⟨none,none,none,rfl⟩ λH6 xs6 xl6 ⟨_,kt6,_,Q6⟩=>?_;obtain⟨t1,t2⟩:=Il (m:=nl H H6) Q6.po.tr;exact post _ H6 Q6.same ⟨A.ta,kt6.map Prod.snd,rfl,⟨.inr ⟨kt6,.inl Q6.po.td,t1,rfl⟩,Q6.po.c5.2,⟨_,Q6.po.td,True.intro⟩⟩,t2⟩
end
def Cd:∀{n:Nat}{S T:Pz.PS},Pz.Loop pile rs n S T->∀{m:Nat}{T':Pz.PS},Pz.Loop pile rs m S T'->T=T':=by
 intro n S T h;induction h with
 |done e=>
  intro m T' h';cases h' with
  |done _=>rfl
  |step hne=>exact(hne e).elim
 |step hne _ _ _ _ _ ih=>
  intro m T' h';cases h' with
  |done e=>exact(hne e).elim
  |step _ _ _ _ _ h'=>exact ih h'
def zW(h:eQ r=eQ s):r=s:=by
 have im:∀{l m:List Int},l.map D.int=m.map D.int->l=m:=λ{l m} e=>by
  induction l generalizing m with
  |nil=>cases m with
   |nil=>rfl
   |cons _ _=>cases e
  |cons x l ih=>cases m with
   |nil=>cases e
   |cons y m=>rw[dz,dz]at e;injection e with e1 e2;injection e1 with e1;rw[e1,ih e2]
 unfold eQ at h;injection h with h;injection h with h0 h;injection h with h1 h;injection h with h2 h;injection h with h3 h;injection h0 with h0;injection h1 with h1;injection h2 with h2;injection h3 with h3;exact QV h0 (QV h1 (QV h2 (im h3)))
def Ce(h:b5 r=b5 s):r=s:=by unfold b5 at h;injection h with h;injection h with h0 h;injection h with h1 h;injection h with h2 h;injection h0 with h0;injection h1 with h1;injection h2 with h2;exact QV h0 (QV h1 h2)
theorem tT{α:Type}{f:α->D}(hf:∀{x y},f x=f y->x=y):∀{l m:List α},l.map f=m.map f->l=m
 |[],[],_=>rfl
 |[],_::_,e=>nomatch e
 |_::_,[],e=>nomatch e
 |x::l,y::m,e=>by rw[dz,dz]at e;injection e with e1 e2;rw[hf e1,tT hf e2]
def Im{Fr:List D->Res R}{h0 h1 m0 m2:D}{r:R}(hs:Pz.Set RL M U)(hr:Fr [.tup [h0,h1,.lst (RL.map eQ)],.tup [m0,.lst (M.map b5),m2]]=.ok r) :
 ∃t,Ii Fr [.tup [h0,h1,.lst (RL.map eQ)],.tup [m0,.lst (M.map b5),m2]]=.ok (.lJ (vh t))/\Pz.Good RL M U t:=by
 obtain⟨fit,n,T,lp,good⟩:=hs.run yj;have hl:RL.length<16000000:=by have:=hs.big;unfold Pz.L at this;lia
 have hex:∃t,pS [.tup [h0,h1,.lst (RL.map eQ)],.tup [m0,.lst (M.map b5),m2]] t:=⟨T.told,RL,M,h0,h1,m0,m2,n,T,rfl,hl,fit,lp,rfl⟩;refine⟨Classical.choose hex,?_,?_⟩
 .unfold Ii;rw[hr];dsimp only;rw[dif_pos hex]
 .obtain⟨RL',M',a0,a1,a2,a3,n',T',e,_,_,lp',e2⟩:=Classical.choose_spec hex;rw[e2];injection e with e3 e;injection e3 with e3;injection e3 with _ e3;injection e3 with _ e3;injection e3 with e3 _;injection e3 with e3;injection e with e _;injection e with e;injection e with _ e;injection e with e _;injection e with e;rw[<- tT (λh=>zW h) e3,<- tT (λh=>Ce h) e]at lp';rw[<- Cd lp lp'];exact good
structure Mt(K:QY) (C:Addr) (x q:Str) (st:Stmt) (ps:List Str) (f:Addr) (fd:FuncData):Prop where
 fu:Al K x q st f fd
 bi:Binds K fd ps []
 me:Meth K C x f
def pT{K:QY}{C:Addr}{x q:Str}{st:Stmt}{ps:List Str}{f:Addr}{oc:Q0}{od an:Option Addr}{osl:Array (Option Q0)}{kV doc pm cdv ct:Q0}
 (l:K.lookup f=some ⟨oc,od,.func (fnOf x q (aF st) (aC st) (af st) .none kV doc pm an cdv ct),osl⟩) (c:codeIn K cdv q=true) (k:keepIn K (.ref f)=true) (a:PySem.W.findIn K (.ref C) x=some (some (.ref f))) (i:isFn K (.ref f)=true)
 (h:∀(kV doc pm:Q0)(an:Option Addr)(cdv ct:Q0)(us:List Q0),us.length=ps.length->bindArgs (fnOf x q (aF st) (aC st) (af st) .none kV doc pm an cdv ct) ⟨us,[]⟩=pure (ps.zip us)) :
 Mt K C x q st ps f (fnOf x q (aF st) (aC st) (af st) .none kV doc pm an cdv ct):=
 have F:Al K x q st f _:=mT l c k
 ⟨F,F.binds h,a,i,k⟩
section
variable{P:QZ}{w:World}{K:QY}{mg:Str->Option Q0}{base:Heap}
def K4{x qual:Str}{st:Stmt}{f:Addr}(F:Al K x qual st f fd)(S:aR N ps (af st))(len:∀vs H Q E,sp vs H Q E->vs.length=ps.length)
 (body:∀(cdv:Q0)(A:Q1)(outer:List Env)(s:QX)(H:Hp)(vs:List V)(Q:VK)(E:XK),dj k (A.deeper (envOfC qual (af st) s.heap.objs.size f cdv))->sp vs H Q E->
   ∃t,PSs (mP P w K mg base N qual (af st) f cdv A outer s H E) (aC st) t/\t {nx:=λ_ H'=>Q .bL H',rt:=Q} (cK N vs) H):bA P w K mg base (j6 P w) (k+1) f fd ps sp:=by
 obtain⟨oc,od,kV,doc,pm,an,cdv,ct,osl,rfl,lk,hcd⟩:=F.ex;exact xK lk hcd S len λA outer s H vs Q E hr hsp=>body cdv A outer s H vs Q E hr hsp
end
def OQ{α:Type}{l:List α}(h:l.length=2):∃a b,l=[a,b]:=by rcases l with _|⟨a,_|⟨b,_|_⟩⟩<;>first|(cases h;done)|exact⟨_,_,rfl⟩
def Cf(hc:X.calm=true)(S:fg X scope tN capN caps)(hi:PI X tg iter wi)(hs:autoParam (∀x,foldedSetIterable iter X.env x=pure x) Rb) :
 PE X (.ListComp elt [⟨tg,iter,ifs,0⟩] scope pos) (uR X scope tg tN capN caps elt ifs wi):=λaa s σ H Q I h=>uQ hc S I hi h hs
def F6(K:QY):List V->Hp->VK->Prop:=λxs H Q=>∃p ns,xs=[.ref p]/\SqL K H p (ns.map V.int)/\ns≠[]/\Q (.int (sO ns)) H
def zX(hc:X.calm=true):CallR X (.builtin "min") (F6 X.K):=zh hc
def zY(h2:tN.length=2)(hg:∀cl C s3 H3 fp,PG (cX X scope (tN++[]) cl C s3 H3 fp) tg (jn X.K 2 (br (aU 0) (br (aU 1) jm))))(he:∀cl C s3 H3 fp,PE (cX X scope (tN++[]) cl C s3 H3 fp) elt (aH 0)) :
 HX (DR (F6 X.K) (aB (uR X scope tg tN [] [] elt [] (kC X.K (aH 1))) bF)):=by
 intro σ H a vs its Q h1 hl a2 hne cr k;refine⟨_,h1,a,rfl,⟨_,SqL.of hl⟩,?_⟩;intro Dl hD cl C s3 fp;have hDa:a≠Dl:=ay hl hD;have hlv:=a2.len;refine⟨_,_,_,λi m acc H'=>m=its.length-i/\i<=its.length/\acc=((its.take i).map λx=>V.int x.1)/\Same H H'/\H' Dl=some (.lst acc),hg cl C s3 _ fp,x_,he cl C s3 _ fp,⟨its.length,by simp,jT _,by simp,aQ hD,aw⟩,?_⟩;rintro i m acc H' ⟨rfl,hi,rfl,s,hDl⟩;have hl':=s _ _ hl;refine⟨hDl,?_⟩;by_cases hlt:i<its.length
 .right;have hiv:i<vs.length:=by lia
  refine⟨⟨vs,vs[i],SqL.of hl',by simp[hiv]⟩,λxv H'' o y ho=>?_⟩;obtain⟨rfl,y⟩:=y;have hx:=y vs (SqL.of hl');obtain⟨x,ex,p,w,rfl,hp,_⟩:=a2.get hx;rw[h2]at ho;obtain⟨u0,u1,rfl⟩:=OQ ho;refine HR (s _ _ hp) ⟨λj hj=>?_,?_⟩
  .rw[h2]at hj;obtain⟨j,rfl⟩:=Nat.exists_eq_add_of_le' hj;rfl
  .refine yZ ?_;refine⟨_,rfl,hDl,?_,its.length-(i+1),by lia,rfl,hlt,?_,λc u e=>?_,aw⟩
   .rw[cG,jY];have:=Qu i its;lia
   .rw[O1,ex,Do];rfl
   .rw[aj (ay e hD)];exact s _ _ e
 .left;have ei:i=its.length:=by lia
  subst ei;refine⟨⟨vs,SqL.of hl',by lia⟩,Dl,its.map (·.1),rfl,?_,by simpa using hne,?_⟩
  .rw[List.take_length]at hDl;rw[kg];exact SqL.of hDl
  .rw[yk];exact k H' s
section
open Classical in
end
abbrev NE(x q:Str)(st:Stmt)(kV doc pm:Q0)(an:Option Addr)(cdv ct:Q0):FuncData:=fnOf x q (aF st) (aC st) (af st) .none kV doc pm an cdv ct
section
variable{K:QY}{x q:Str}{st:Stmt}{f C:Addr}{oc:Q0}{od an:Option Addr}{osl:Array (Option Q0)}{kV doc pm cdv ct:Q0}
def Lk(K:QY)(x q:Str)(st:Stmt)(f:Addr):Prop:=∃oc od an osl kV doc pm cdv ct,K.lookup f=some ⟨oc,od,.func (NE x q st kV doc pm an cdv ct),osl⟩/\codeIn K cdv q=true
def lk(l:K.lookup f=some ⟨oc,od,.func (NE x q st kV doc pm an cdv ct),osl⟩)(c:codeIn K cdv q=true):Lk K x q st f:=⟨_,_,_,_,_,_,_,_,_,l,c⟩
structure MK(K:QY) (C:Addr) (x q:Str) (st:Stmt) (f:Addr):Prop where
 a:PySem.W.findIn K (.ref C) x=some (some (.ref f))
 i:isFn K (.ref f)=true
 l:Lk K x q st f
 k:keepIn K (.ref f)=true
def mk(a:PySem.W.findIn K (.ref C) x=some (some (.ref f)))(i:isFn K (.ref f)=true)(l:K.lookup f=some ⟨oc,od,.func (NE x q st kV doc pm an cdv ct),osl⟩)(c:codeIn K cdv q=true)(k:keepIn K (.ref f)=true):MK K C x q st f:=⟨a,i,lk l c,k⟩
end
end L4
namespace L2
open PySem PySem.Spec PySem.Calls PyProof.Rows
abbrev MO:=St->Hp->(Hp->Prop)->XK->Prop
def JS(X:Cx)(st:List Stmt)(t:MO):Prop:=∀(aa:List (Addr×Obj))(s:QX)(σ:St)(H:Hp)(Q:Hp->Prop)(EX:XK),Inv X aa σ H s->t σ H Q EX->
 wpAny (model X.prog X.w) X.A (execs st X.env) (λf s'=>f=.next/\∃H',Inv X aa σ H' s'/\Q H') (λev s'=>∃H1 s1,Inv X aa σ H1 s1/\j6 X.prog X.w X.stack H1 s1 EX ev s') s
section
variable{X:Cx}{e c:Expr}{te:TX}{epos pos:Pos}{a b:List Stmt}{t u:MO}{tc:TT}
def Cg(he:Of X e te)(hsw:autoParam (swapsWith e none epos.line X.env=pure false) Rc):JS X [.Expr e epos] (λσ H Q EX=>te σ H (λ_ H1=>Q H1) EX):=by intro aa s σ H Q EX I h;exact Qm (wpAny_Expr_any (mC (he aa s σ H _ _ I h) (λv s1 ⟨y,H1,I1,r1,q1⟩=>O3 ⟨rfl,H1,I1,q1⟩) λev s' z=>z) I.quiet hsw)
def Ip(hc:PT X.GA c tc)(ha:JS X a t)(hb:JS X b u):JS X [.If c a b pos] (λσ H Q EX=>tc σ H λd H1=>if d=true then t σ H1 Q EX else u σ H1 Q EX):=by
 intro aa s σ H Q EX I h;refine Qm (wpAny_If (mC (hc aa s σ H _ (I.oa _) h) (λd s1 ⟨H1,I1,q1⟩=>?_) λ_ _ z=>False.elim z));have J:Inv X aa σ H1 s1:=I1.g_;cases d with
 |true=>exact mC (ha aa s1 σ H1 Q EX J q1) (λf s2 ⟨e,H2,I2,q2⟩=>by subst e;exact O3 ⟨rfl,H2,I2,q2⟩) λ_ _ z=>z
 |false=>exact mC (hb aa s1 σ H1 Q EX J q1) (λf s2 ⟨e,H2,I2,q2⟩=>by subst e;exact O3 ⟨rfl,H2,I2,q2⟩) λ_ _ z=>z
end
section
variable{X:Cx}{hc:Str}{Ch:Addr}{np hpos pos:Pos}{b₀:Stmt}{suite body:List Stmt}{ts:Addr->Addr->TS}{tb:MO}{i:Nat}{n:Str}
def xg(hN:X.N.Nodup)(hi:X.N[i]?=some n)(hk:X.env.scope.names.lookup n=some .local)(hst:X.stack=X.env::X.outer)(hf:X.env.frame=some X.env.locals)(hx:XC X.K X.mg hc Ch)(hg:Gl X hc)(hb:JS X body tb)
 (hs:∀C x o,o.cls=.ref C->excIn X.K C oW "ValueError.__new__"=true->PSs (X.bV x o) (b₀::suite) (ts C x))
 (hdb:autoParam (dB hc) Q_) :
 PS X (.Try body [.ExceptHandler (some (.Name hc np)) (some n) (b₀::suite) hpos] [] [] pos) (λD σ H=>tb σ H (λH1=>D.nx σ H1) (yf X Ch i ts D σ)):=by
 intro aa s σ H D I h;refine wpAny_Try_except (mC (hb aa s σ H _ _ I h) (λf s1 ⟨e,H1,I1,q1⟩=>?_) λev s' z=>?_)
 .subst e;exact O3 ⟨σ,H1,I1,q1⟩
 .exact EF hN hi hk hst hf hx hg hs z hdb
end
structure vR(K:QY) (C:Addr):Prop where
 ga:PySem.W.findIn K (.ref C) "__getattribute__"=some (some (.builtin "BaseException.__getattribute__"))
 gt:PySem.W.findIn K (.ref C) "__getattr__"=some none
 cl:PySem.W.findIn K (.ref C) "__class__"=some (some (.builtin "object.__class__"))
 sp:PySem.W.specialIn K (.builtin "object.__class__") "__get__"=some (some (.builtin "getset_descriptor.__get__"))
 tk:PySem.W.takesIn K (.builtin "object.__class__")=some true
 mo:PySem.W.mroIn K C (.type "object")=some true
 mb:PySem.W.mroIn K C (.type "BaseException")=some true
 is:(PySem.W.clsIn K C).isSome=true
section
variable{X:Cx}{x C:Addr}{o:Obj}{y:V}{c:Q0}{b:Bool}
def zZ(Z:vR X.K C)(hp:(x,o)∈X.pn)(hc:o.cls=.ref C)(ry:∀u,RelV y u->u=c)(e:kitOne X.K (.ref C) c=some b) :
 CallR X (.builtin "isinstance") (λxs H Q=>xs=[.ref x,y]/\Q (.bl b) H):=by
 intro aa s σ H xs us Q I r h;obtain⟨rfl,q⟩:=h;obtain⟨u,c',rfl,ru,rc⟩:=ur r;obtain rfl:u=Value.ref x:=ru;obtain rfl:=ry c' rc;have hx:=(I.pin (x,o) (jX _ hp)).1;exact oC (A3 Z.ga Z.gt Z.cl Z.sp Z.tk Z.mo Z.mb Z.is) I.kT ⟨o,hx,hc⟩ e (λz=>nomatch z) λtk=>⟨.bl b,H,I.tok tk,rfl,q⟩
variable{i:Nat}{n:Str}{p4 p5 p6 p7:Pos}{m:Str}
def Iq(Z:vR X.K C)(hi:X.N[i]?=some n)(hk:X.env.scope.names.lookup n=some .local)(hgi:Gl X "isinstance") (hmi:X.mg "isinstance"=none) (hc:o.cls=.ref C) (he:PE (X.bV x o) (.Name m p6) (λ_ H Q=>Q y H)) (ry:∀u,RelV y u->u=c) (k:kitOne X.K (.ref C) c=some b)
 (hdn:autoParam (dB n) Q_) (hcn:autoParam ((n==("__classdict__" : Str))=false) Q_) :
 PE (X.bV x o) (.Call (.Name "isinstance" p4) [.Name n p5,.Name m p6] [] p7) (λσ H Q=>σ[i]?=some (some (.ref x))/\Q (.bl b) H):=by
 intro aa s σ H Q I ⟨h1,h2⟩;have P:PE (X.bV x o) (.Call (.Name "isinstance" p4) [.Name n p5,.Name m p6] [] p7) _:=dG (zZ (y:=y) Z (cE ..) hc ry k) hgi hmi (by decide +kernel) (ai (Ax hi (.inl hk) hdn hcn) (ai he aG));exact P aa s σ H Q I ⟨.ref x,h1,rfl,h2⟩
end
def K5(i:Nat)(x:Addr)(bs:List Bool):TA:=λσ H Q=>σ[i]?=some (some (.ref x))/\Q (bs.map V.bl) H
section
variable{X:Cx}{x C:Addr}{o:Obj}{y:V}{c:Q0}{b:Bool}{bs:List Bool}{i iw:Nat}{n m z:Str}{p4 p5 p6 p7 py lp p15:Pos}{es:List Expr}
def E5:PA (X.bV x o) [] (K5 i x []):=λpos aa s σ H Q I h=>aG pos aa s σ H Q I h.2
def md(Z:vR X.K C)(hi:X.N[i]?=some n)(hk:X.env.scope.names.lookup n=some .local)(hgi:Gl X "isinstance") (hmi:X.mg "isinstance"=none) (hc:o.cls=.ref C) (he:PE (X.bV x o) (.Name m p6) (λ_ H Q=>Q y H)) (ry:∀u,RelV y u->u=c) (k:kitOne X.K (.ref C) c=some b)
 (ha:PA (X.bV x o) es (K5 i x bs)) (hdn:autoParam (dB n) Q_) (hcn:autoParam ((n==("__classdict__" : Str))=false) Q_) :
 PA (X.bV x o) (.Call (.Name "isinstance" p4) [.Name n p5,.Name m p6] [] p7::es) (K5 i x (b::bs)):=by
 intro pos aa s σ H Q I ⟨h1,h2⟩;have P:=ai (e:=.Call (.Name "isinstance" p4) [.Name n p5,.Name m p6] [] p7) (Iq (p4:=p4) (p5:=p5) (p7:=p7) Z hi hk hgi hmi hc he ry k hdn hcn) ha;exact P pos aa s σ H Q I ⟨h1,h1,h2⟩
def On(i iw:Nat)(bs:List Bool)(x:Addr):TS:=λD σ H=>σ[i]?=some (some (.ref x))/\bs.length<=sizeLine/\∀p,H p=none->D.nx (σ.set iw (some (.ref p))) (aY H p (.lst (bs.map V.bl)))
def Ir(hN:X.N.Nodup)(hiw:X.N[iw]?=some z)(hy:DE X.env.scope z)(ha:PA (X.bV x o) es (K5 i x bs))
 (hfy:autoParam (X.fn z=true\/X.env.scope.names.lookup z=some .local) Ra) (hw:autoParam (swapsWith (.List es lp) (some (.Name z py)) p15.line X.env=pure false) Rc) :
 PSs (X.bV x o) [.Assign [.Name z py] (.List es lp) p15] (On i iw bs x):=by
 refine a_ λaa s σ H D I h=>?_;obtain⟨e1,e2,q⟩:=h;refine iz (X:=X.bV x o) hN hiw hy (iE ha) hw hfy aa s σ H D I ?_;exact⟨e1,by simpa using e2,λp hp=>q p hp⟩
end
end L2
namespace L3
open PySem PySem.Spec PyProof.Rows L2
def K6(X:Cx)(st:List Stmt)(f:En->Res Unit):Prop:=∃t:MO,JS X st t/\∀(g:Gd)(M:Addr->Prop)(ρ:Pr)(env:En)(σ:St)(H:Hp)(Q:Hp->Prop)(EX:XK),Rep g M ρ env σ H->(match f env with
 |.stuck=>False
 |.exc c=>∀M1 H1,mL M H M1 H1->Rep g M1 ρ env σ H1->∀cls dx,X.mg c=some cls->EX cls dx H1
 |.ok _=>∀M1 H1,mL M H M1 H1->Rep g M1 ρ env σ H1->Q H1)->t σ H Q EX
def As(F:List D->Res R)(fs:En->Res (List R))(dd:List D):En->Res Unit:=λenv=>(fs env).Gz.bind λrs=>(F (rs.map R.d++dd)).bind λ_=>.ok ()
def Dx(fc:En->Res Bool)(fa fb:En->Res Unit):En->Res Unit:=λenv=>(fc env).Gz.bind λd=>if d=true then fa env else fb env
section
variable{X:Cx}{k:Nat}{f:Addr}{fd:FuncData}{ps:List Str}{F:List D->Res R}{x:Str}{p cpos epos pos:Pos}{e c:Expr}{es:List Expr}{fs:En->Res (List R)}{dd:List D}{dvs:List V}{ds:List Q0}{a b:List Stmt}{fc:En->Res Bool}{fa fb:En->Res Unit}
def mf(G:bA X.prog X.w X.K X.mg X.base (j6 X.prog X.w) k f fd ps (lI X.mg ps.length F))(hr:dj k X.A)(hg:Gl X x)(hm:X.mg x=some (.ref f))(hkf:keepIn X.K (.ref f)=true)(hb:Binds X.K fd ps ds)(hd:Vals dvs ds)(hdd:∀H M,IsAll H M dd dvs)
 (ha:zn X.GA E0 (e::es) fs) (hl:∀env rs,fs env=.ok rs->rs.length+dd.length=ps.length)
 (hsw:autoParam (swapsWith (.Call (.Name x p) (e::es) [] cpos) none epos.line X.env=pure false) Rc)
 (hdb2:autoParam (dB x) Q_) (he:autoParam (sE X e es) Rc) (hpl:autoParam (bT X cpos es) Rc) :
 K6 X [.Expr (.Call (.Name x p) (e::es) [] cpos) epos] (As F fs dd):=by
 obtain⟨ta,q1,sn1⟩:=ha;refine⟨_,Cg (A1 G hr hg hm hkf hb hd q1 hdb2 he hpl) hsw,λg M ρ env σ H Q EX rep q=>?_⟩;refine sn1 g M ρ env σ H _ rep ?_;unfold As at q;cases qf:fs env with
 |stuck=>rw[qf]at q;exact q.elim
 |exc c'=>rw[qf]at q;exact q.elim
 |ok rs=>
  rw[qf]at q;intro vs M1 H1 e1 rep1 is;have is2:=is.append (hdd H1 _);refine⟨by rw[gV,is.length,cG,<- (hdd H1 (λ_=>False)).length.symm];exact hl env rs qf,_,_,is2,?_⟩;cases qF:F (rs.map R.d++dd)with
  |stuck=>simp only[Res.Gz,Res.bind,qF]at q
  |exc c=>simp only[Res.Gz,Res.bind,qF]at q;intro cls dx H' hm s;exact q M1 H' (e1.cV.trans ⟨λ_ z=>z,λa o e _=>s a o e⟩) (rep1.grow s) cls dx hm
  |ok r=>simp only[Res.Gz,Res.bind,qF]at q;intro v H2 s2 ro;exact q M1 H2 (e1.cV.trans ⟨λ_ z=>z,λa o e _=>s2 a o e⟩) (rep1.grow s2)
def xh(hc:zp X.GA E0 c fc)(ha:K6 X a fa)(hb:K6 X b fb):K6 X [.If c a b pos] (Dx fc fa fb):=by
 obtain⟨tc,c1,c2⟩:=hc;obtain⟨ta,a1,a2⟩:=ha;obtain⟨tb,b1,b2⟩:=hb;refine⟨_,Ip c1 a1 b1,λg M ρ env σ H Q EX rep q=>?_⟩;refine c2 g M ρ env σ H _ rep ?_;unfold Dx at q;cases qf:fc env with
 |stuck=>rw[qf]at q;exact q.elim
 |exc c'=>rw[qf]at q;exact q.elim
 |ok d=>
  rw[qf]at q;simp only[Res.Gz,Res.bind]at q;intro M1 H1 e1 rep1;cases d with
  |true=>
   rw[b_ rfl]at q ⊢;refine a2 g M1 ρ env σ H1 Q EX rep1 ?_
   revert q
   cases fa env with
   |stuck=>exact id
   |exc c'=>exact λq M2 H2 e2=>q M2 H2 (e1.cV.trans e2)
   |ok _=>exact λq M2 H2 e2=>q M2 H2 (e1.cV.trans e2)
  |false=>
   rw[cF (by decide)]at q ⊢;refine b2 g M1 ρ env σ H1 Q EX rep1 ?_
   revert q
   cases fb env with
   |stuck=>exact id
   |exc c'=>exact λq M2 H2 e2=>q M2 H2 (e1.cV.trans e2)
   |ok _=>exact λq M2 H2 e2=>q M2 H2 (e1.cV.trans e2)
end
def Ci(K:QY)(mg:Str->Option Q0)(Ch:Addr)(c:Str)(vs:List Q0)(bs:List Bool):Prop:=∃C,XC K mg c C/\(sD K C).contains (.ref Ch)=true/\vR K C/\vs.map (kitOne K (.ref C))=bs.map some
def Cj(iw ie:Nat)(bs:List Bool)(c₀:Str)(env:En):Res Unit->Res Fl
 |.ok _=>.ok (.nx env)
 |.exc c=>if c=c₀ then(match env[ie]? with|some none=>(if iw<env.length then .ok (.nx (put env iw (.new (bs.map D.bl) true)))else .stuck)|_=>.stuck)else .stuck
 |.stuck=>.stuck
def vj(iw ie:Nat)(bs:List Bool)(c₀:Str)(fb:En->Res Unit):En->Res Fl:=λenv=>Cj iw ie bs c₀ env (fb env)
theorem F7{H:Hp}{m:Addr->Prop}:∀bs:List Bool,IsAll H m (bs.map D.bl) (bs.map V.bl)
 |[]=>rfl
 |b::bs=>⟨.bl b,bs.map V.bl,rfl,rfl,F7 bs⟩
section
variable{X:Cx}{E:XK}{i iw:Nat}{n z:Str}{py lp p15 np hpos pos:Pos}{es:List Expr}{body:List Stmt}{fb:En->Res Unit}{hc c₀:Str}{Ch:Addr}{vs:List Q0}{bs:List Bool}
def Ck(hN:X.N.Nodup)(hi:X.N[i]?=some n)(hk:X.env.scope.names.lookup n=some .local)(hiw:X.N[iw]?=some z)(hne:iw≠i)(hy:DE X.env.scope z)(hst:X.stack=X.env::X.outer)(hf:X.env.frame=some X.env.locals)(hx:XC X.K X.mg hc Ch)(hgh:Gl X hc)(ht:Ci X.K X.mg Ch c₀ vs bs)(hbs:bs.length<=sizeLine)
 (hb:K6 X body fb) (hes:∀C x o,o.cls=.ref C->vR X.K C->vs.map (kitOne X.K (.ref C))=bs.map some->PA (X.bV x o) es (K5 i x bs))
 (hfy:autoParam (X.fn z=true\/X.env.scope.names.lookup z=some .local) Ra) (hw:autoParam (swapsWith (.List es lp) (some (.Name z py)) p15.line X.env=pure false) Rc) (hdb:autoParam (dB hc) Q_) :
 Ap X E (.Try body [.ExceptHandler (some (.Name hc np)) (some n) [.Assign [.Name z py] (.List es lp) p15] hpos] [] [] pos) (vj iw i bs c₀ fb):=by
 obtain⟨tb,b1,b2⟩:=hb;refine⟨_,xg (ts:=λC x D σ H=>(vR X.K C/\vs.map (kitOne X.K (.ref C))=bs.map some)/\On i iw bs x D σ H) hN hi hk hst hf hx hgh b1 (λC x o hco _ aa s σ H D I h=>Ir hN hiw hy (hes C x o hco h.1.1 h.1.2) hfy hw aa s σ H D I h.2) hdb,λg M ρ env σ H D rep p=>?_⟩;refine b2 g M ρ env σ H _ _ rep ?_;unfold vj at p;cases q:fb env with
 |stuck=>rw[q]at p;exact p
 |ok _=>rw[q]at p;exact λM1 H1 e1 rep1=>p σ M1 ρ H1 e1 rep1
 |exc c=>
  rw[q]at p;unfold Cj at p;dsimp only at p;intro M1 H1 e1 rep1 cls dx hm;split at p
  .rename_i hcs;subst hcs;obtain⟨C,hX,hmr,k1,k2⟩:=ht;have ee:=hX.gl;rw[hm]at ee;cases ee;split at p
   .rename_i hei;split at p
    .rename_i hil;refine⟨C,rfl,hX.ex,hmr,λx o hco hxn=>⟨⟨k1,k2⟩,?_,hbs,λpp hpp=>?_⟩⟩
     .rw[jg];rw[<- rep1.len];exact(ci.mp hei).1
     .have r1:=rep1.forget (v:=some (.ref x)) hei;obtain⟨h0,hm0,ho⟩:=r1.free hpp;have s1:Same H1 (aY H1 pp (.lst (bs.map V.bl))):=aQ hpp;have r2:=r1.grow s1;obtain⟨M4,ρ4,f4,rep4⟩:=r2.store (i:=iw) (r:=.new (bs.map L3.D.bl) true) (v:=.ref pp) (H0:=H1) rep1.same hil ⟨pp,_,rfl,aw,hm0,hpp,ho,F7 bs⟩;refine p _ M4 ρ4 _ ((e1.trans ⟨λ_ z=>z,λa o e _=>s1 a o e⟩).trans f4) (rep4.forget ?_);show(List.set env iw _)[i]?=_;rw[ji hne];exact hei
    .exact p.elim
   .exact p.elim
  .exact p.elim
end
def mj{P:QZ}{w:World}{K:QY}{mg:Str->Option Q0}{base:Heap}{CX:Ao}{k:Nat}{f:Addr}{fd:FuncData}{ps:List Str}:bA P w K mg base CX k f fd ps (lI mg ps.length λ_=>.stuck):=⟨λ_ _ _ _ h=>h.1,λ_ _ _ _ _ _ _ _ _ _ _ _ _ h=>let ⟨_,_,_,_,z⟩:=h;z.elim⟩
structure Mx(K:QY) (x qual:Str) (st:Stmt) (f:Addr) (fd:FuncData):Prop where
 ex:∃(oc:Q0)(od:Option Addr)(dV kV doc pm:Q0)(an:Option Addr)(cdv ct:Q0)(osl:Array (Option Q0)),
  fd=fnOf x qual (aF st) (aC st) (af st) dV kV doc pm an cdv ct/\K.lookup f=some ⟨oc,od,.func fd,osl⟩/\codeIn K cdv qual=true
 kp:keepIn K (.ref f)=true
structure Ov(K:QY) (mg:Str->Option Q0) (x:Str) (st:Stmt) (ps:List Str) (v:Q0) (f:Addr) (fd:FuncData):Prop where
 fu:Mx K x x st f fd
 bi:Binds K fd ps []
 bd:Binds K fd ps [v]
 gl:mg x=some (.ref f)
def Iu{K:QY}{mg:Str->Option Q0}{x:Str}{st:Stmt}{ps:List Str}{f T:Addr}{oc tc v:Q0}{od an td:Option Addr}{osl tsl:Array (Option Q0)}{kV doc pm cdv ct:Q0}{n:Nat}
 (l:K.lookup f=some ⟨oc,od,.func (fnOf x x (aF st) (aC st) (af st) (.ref T) kV doc pm an cdv ct),osl⟩) (lT:K.lookup T=some ⟨tc,td,.seq #[v] n,tsl⟩) (c:codeIn K cdv x=true) (kp:keepIn K (.ref f)=true) (g:mg x=some (.ref f))
 (h0:∀us:List Q0,us.length=ps.length->∃k,bindArgs (fnOf x x (aF st) (aC st) (af st) (.ref T) kV doc pm an cdv ct) ⟨us,[]⟩=seqItems? (.ref T) >>= k/\k (some #[v])=pure (ps.zip us))
 (h1:∀us:List Q0,us.length+1=ps.length->∃k,bindArgs (fnOf x x (aF st) (aC st) (af st) (.ref T) kV doc pm an cdv ct) ⟨us,[]⟩=seqItems? (.ref T) >>= k/\k (some #[v])=pure (ps.zip (us++[v]))) :
 Ov K mg x st ps v f (fnOf x x (aF st) (aC st) (af st) (.ref T) kV doc pm an cdv ct) where
 fu:=⟨⟨oc,od,.ref T,kV,doc,pm,an,cdv,ct,osl,rfl,l,c⟩,kp⟩
 bi:=λs us X hl=>by rw[Jv]at hl ⊢;obtain⟨k,e1,e2⟩:=h0 us hl;exact PySem.W.binds_K X rfl lT rfl e1 e2
 bd:=λs us X hl=>by obtain⟨k,e1,e2⟩:=h1 us (by simpa using hl);exact PySem.W.binds_K X rfl lT rfl e1 e2
 gl:=g
section
variable{P:QZ}{w:World}{K:QY}{mg:Str->Option Q0}{base:Heap}
def K7{x qual:Str}{st:Stmt}{f:Addr}{fd:FuncData}{N ps:List Str}{k:Nat}{FB:En->Res Fl}(F:Mx K x qual st f fd)(S:aR N ps (af st))
 (body:∀(cdv:Q0)(A:Q1)(outer:List Env)(s:QX)(H:Hp)(E:XK),dj k (A.deeper (envOfC qual (af st) s.heap.objs.size f cdv))->sU (mP P w K mg base N qual (af st) f cdv A outer s H E) E (aC st) FB) :
 bA P w K mg base (j6 P w) (k+1) f fd ps (lI mg ps.length (hV N FB)):=by
 obtain⟨oc,od,dV,kV,doc,pm,an,cdv,ct,osl,rfl,lk,hcd⟩:=F.ex;refine xK lk hcd S (λvs H Q E h=>h.1) λA outer s H vs Q E hr hsp=>?_;obtain⟨hl,ds,Ma,is,post⟩:=hsp;obtain⟨t,p1,s1⟩:=body cdv A outer s H E hr;refine⟨t,p1,s1 (JO H Ma) _ _ (iL N ds) (L2.cK N vs) H _ (rH is) ?_⟩;unfold hV at post;cases q:FB (iL N ds)with
 |stuck=>rw[q]at post;exact post
 |exc c=>rw[q]at post;exact post
 |ok r=>
  rw[q]at post;cases r with
  |nx env=>exact λσ M' ρ' H' _ rep=>post .bL H' rep.same rfl
  |rt r=>exact λv M' H' _ s ro _=>post v H' s (ro λ_ z=>z)
  |rm r env=>exact post.elim
  |bk env=>exact post.elim
  |ct env=>exact post.elim
end
end L3
namespace L3
open PySem L2
section
variable{env bI:En}{i j:Nat}{d:D}{ds es:List D}{f g:Bool}{al bl:List Nat}{x y:Int}
noncomputable def kS(k:En->Res Fl):Fl->Res Fl
 |.nx bI=>k bI
 |r=>.ok r
def K8(f k:En->Res Fl)(env:En):bB f k env=(f env).bind (kS k):=by rfl
def NF(k:En->Res Fl)(e:En):kS k (.nx e)=k e:=(rfl)
def NG(k:En->Res Fl)(r:R):kS k (.rt r)=.ok (.rt r):=(rfl)
noncomputable def NH(a b:En->Res Fl)(env:En)(k:Bool):Res Fl:=if k then a env else b env
def NI(c:En->Res Bool)(a b:En->Res Fl)(env:En):Aq c a b env=(c env).bind (NH a b env):=(rfl)
def K9(a b:En->Res Fl)(env:En):NH a b env true=a env:=(rfl)
def K_(a b:En->Res Fl)(env:En):NH a b env false=b env:=(rfl)
def La(env:En):nZ env=.ok (.nx env):=(rfl)
def Lb(r:R):Res Fl:=.ok (.rt r)
def Lc(a:En->Res R)(env:En):g9 a env=(a env).bind Lb:=(rfl)
def Iv(r:R):Lb r=.ok (.rt r):=(rfl)
def Ld(i:Nat)(env:En)(r:R):Res Fl:=if i<env.length then .ok (.nx (put env i r))else .stuck
def Le(i:Nat)(a:En->Res R)(env:En):fq i a env=(a env).bind (Ld i env):=(rfl)
def Iw(r:R)(h:i<env.length):Ld i env r=.ok (.nx (put env i r)):=b_ h
def Iy:put env i (.val d f [])=env.set i (some (.val d f)):=(rfl)
def Iz:put env i (.new ds f)=env.set i (some (.own ds f)):=(rfl)
def MP(i:Nat):Option (Option Sl)->Res R
 |some (some (.val d fr))=>.ok (lH d fr [])
 |some (some (.own ds fr))=>.ok (.val (.lst ds) fr [i])
 |some (some (.uf d))=>.ok (.val d true [i])
 |_=>.stuck
def Lf(i:Nat)(env:En):av i env=MP i env[i]?:=by unfold av MP;rfl
def Lg:MP i (some (some (.val d f)))=.ok (lH d f []):=(rfl)
def Lh:MP i (some (some (.own ds f)))=.ok (.val (.lst ds) f [i]):=(rfl)
def OR(d:D)(env:En):vC d env=.ok (.val d true []):=(rfl)
def IA(h:d.flat=true):lH d f al=.val d true []:=by unfold lH;rw[b_ h]
def IB(h:d.flat=false):lH d f al=.val d f al:=by unfold lH;rw[cF (by rw[h];simp)]
def lr(h:D.bp ds=true):nM ds f al=.new ds true:=by unfold nM;rw[b_ h]
def E6:nM ds true []=.new ds true:=by unfold nM;split<;>rfl
def Oo(op:R->R->Res R)(fb:En->Res R)(env:En)(ra:R):Res R:=(fb env).bind (op ra)
def NJ(op:R->R->Res R)(fa fb:En->Res R)(env:En):v2 op fa fb env=(fa env).bind (Oo op fb env):=(rfl)
def Li(op:R->R->Res R)(fb:En->Res R)(env:En)(ra:R):Oo op fb env ra=(fb env).bind (op ra):=(rfl)
def Lj:gZ (.val (.int x) f al) (.val (.int y) g bl)=.ok (.val (.int (x+y)) true []):=(rfl)
def Ll:Hu (.val (.int x) f al) (.val (.int y) g bl)=.ok (.val (.int (x-y)) true []):=(rfl)
def IC(h1:-18446744073709551616<y)(h2:y<18446744073709551616):mX (.val (.int x) f al) (.val (.int y) g bl)=.ok (.val (.int (x*y)) true []):=by
 have:zq x y=true:=by unfold zq;rw[QA,jh,jh];exact .inr ⟨io (by lia),io (by lia)⟩
 show(if zq x y=true then _ else _)=_;rw[b_ this]
def Lm(h:0<y):c9 (.val (.int x) f al) (.val (.int y) g bl)=.ok (.val (.int (x%y)) true []):=by show(if decide (0<y)=true then _ else _)=_;rw[b_ (io h)]
def Ln(h:0<y)(h2:y<1073741824):jC (.val (.int x) f al) (.val (.int y) g bl)=.ok (.val (.int (x/y)) true []):=by show(if(decide (0<y)&&decide (y<1073741824))=true then _ else _)=_;rw[b_ (by rw[io h,io h2];rfl)]
def NK:Kg (.val (.int x) f al) (.val (.int y) g bl)=.ok (.val (.bl (decide (x<y))) true []):=(rfl)
def NL:MF (.val (.int x) f al) (.val (.int y) g bl)=.ok (.val (.bl (decide (y<x))) true []):=(rfl)
def NM:Ng (.val (.int x) f al) (.val (.int y) g bl)=.ok (.val (.bl (decide (y<=x))) true []):=(rfl)
def qR(h:a.d.dep<=50)(h2:b.d.dep<=50):zr a b=.ok (.val (.bl (lc a.d b.d)) true []):=by unfold zr;rw[b_ ⟨h,h2⟩]
def Lo(h:a.d.dep<=50)(h2:b.d.dep<=50):FR a b=.ok (.val (.bl (!lc a.d b.d)) true []):=by unfold FR;rw[b_ ⟨h,h2⟩]
def Lp:lc (.int x) (.int y)=(x==y):=(rfl)
def Lq(xs ys:List D)(f:Bool)(al:List Nat):Res R:=if xs.length+ys.length<=lim then .ok (nM (xs++ys) f al)else .stuck
def E7:gZ (.new ds f) (.new es g)=Lq ds es (f&&g) []:=(rfl)
def ID(h:ds.length+es.length<=1000000):Lq ds es f al=.ok (nM (ds++es) f al):=b_ h
def F8(fs:En->Res (List R))(env:En)(r:R):Res (List R):=(fs env).bind (λrs=>.ok (r::rs))
def Cm(r:R)(rs:List R):Res (List R):=.ok (r::rs)
def IE(env:En):aL env=.ok []:=(rfl)
def E8(a:En->Res R)(fs:En->Res (List R))(env:En):ag a fs env=(a env).bind (F8 fs env):=(rfl)
def E9(fs:En->Res (List R))(env:En)(r:R):F8 fs env r=(fs env).bind (Cm r):=(rfl)
def Co(r:R)(rs:List R):Cm r rs=.ok (r::rs):=(rfl)
def Lr(rs:List R):Res R:=if rs.length<=lim then .ok (lH (.tup (rs.map R.d)) (cb rs) (c_ rs))else .stuck
def Ls(fs:En->Res (List R))(env:En):ko fs env=(fs env).bind Lr:=(rfl)
def IF(rs:List R)(h:rs.length<=1000000):Lr rs=.ok (lH (.tup (rs.map R.d)) (cb rs) (c_ rs)):=b_ h
def Lu(rs:List R):Res R:=if rs.length<=lim then .ok (nM (rs.map R.d) (cb rs) (c_ rs))else .stuck
def Lw(fs:En->Res (List R))(env:En):pC fs env=(fs env).bind Lu:=(rfl)
def IG(rs:List R)(h:rs.length<=1000000):Lu rs=.ok (nM (rs.map R.d) (cb rs) (c_ rs)):=b_ h
def Cp:cb []=true:=(rfl)
def z4(r:R)(rs:List R):cb (r::rs)=(r.fr&&cb rs):=(rfl)
def Cq:c_ []=[]:=(rfl)
def z5(r:R)(rs:List R):c_ (r::rs)=r.al++c_ rs:=(rfl)
def F9(F:List D->Res R)(rs:List R):Res R:=(F (rs.map R.d)).bind (λr=>.ok (jD rs r))
def Cr(rs:List R)(r:R):Res R:=.ok (jD rs r)
def IH(F:List D->Res R)(fs:En->Res (List R))(env:En):cc F fs env=(fs env).bind (F9 F):=(rfl)
def E_(F:List D->Res R)(rs:List R):F9 F rs=(F (rs.map R.d)).bind (Cr rs):=(rfl)
def Cs(rs:List R)(r:R):Cr rs r=.ok (jD rs r):=(rfl)
def Ct(rs:List R)(h:d.flat=true):jD rs (.val d f al)=.val d true []:=b_ h
def Cu(rs:List R)(h:d.flat=false):jD rs (.val d true al)=.lJ d:=by show FV d true rs=_;unfold FV;rw[cF (by rw[h];simp),b_ rfl]
def rR(rs:List R)(h:D.bp ds=false):jD rs (.new ds true)=.lJ (.lst ds):=by show(if D.bp ds=true then _ else _)=_;rw[cF (by rw[h];simp),b_ rfl]
def NN(k:List R->Res R)(fs:En->Res (List R))(env:En):ol k fs env=(fs env).bind k:=(rfl)
def II:D->Res R
 |.lst ds=>.ok (.val (.int ds.length) true [])
 |.tup ds=>.ok (.val (.int ds.length) true [])
 |.str z=>if z.length<=lim then .ok (.val (.int z.length) true [])else .stuck
 |_=>.stuck
def Lx(r:R):BA [r]=II r.d:=by unfold BA II;rfl
def IJ:II (.lst ds)=.ok (.val (.int ds.length) true []):=(rfl)
def Cv(f:Bool)(al:List Nat):D->Res R
 |.lst ds=>.ok (nM ds f al)
 |.tup ds=>.ok (nM ds f al)
 |_=>.stuck
def IK(r:R):kF [r]=Cv r.fr r.al r.d:=by unfold kF Cv;rfl
def Fa:Cv f al (.lst ds)=.ok (nM ds f al):=(rfl)
def kB(ra:R):Res Bool:=match ra.d with
 |.bl b=>.ok b
 |_=>.stuck
def NO(a:En->Res R)(env:En):vB a env=(a env).bind kB:=(rfl)
def NP(b:Bool):kB (.val (.bl b) f al)=.ok b:=(rfl)
def Ly(ra:R):Res Bool:=FT ra.d
def IL(a:En->Res R)(env:En):Bw a env=(a env).bind Ly:=(rfl)
def IM(b:Bool):Ly (.val (.bl b) f al)=.ok b:=(rfl)
noncomputable def F_(b:Bool):Res Bool:=.ok (!b)
def IN(a:En->Res Bool)(env:En):Bx a env=(a env).bind F_:=(rfl)
def Fb(b:Bool):F_ b=.ok (!b):=(rfl)
noncomputable def Lz(b:En->Res Bool)(env:En)(k:Bool):Res Bool:=if k then .ok true else b env
def LA(a b:En->Res Bool)(env:En):Nj a b env=(a env).bind (Lz b env):=(rfl)
def LC(b:En->Res Bool)(env:En):Lz b env false=b env:=(rfl)
def JT(f:Bool)(al:List Nat):Option D->Res R
 |some d=>.ok (lH d f al)
 |none=>.stuck
def z6(a b:D)(f:Bool)(al:List Nat):Res R:=match a,b with
 |.lst xs,.int i=>JT f al (hG xs i)
 |.tup xs,.int i=>JT f al (hG xs i)
 |.str z,.int i=>if z.length<=lim then(match hG z.cps.toList i with
  |some c=>.ok (.val (.str ⟨#[c]⟩) true [])
  |none=>.stuck)else .stuck
 |_,_=>.stuck
def NQ(a b:R):Dw a b=z6 a.d b.d a.fr a.al:=by unfold Dw z6 JT;rfl
def LD:z6 (.lst ds) (.int k) f al=JT f al (hG ds k):=(rfl)
def LF:z6 (.tup ds) (.int k) f al=JT f al (hG ds k):=(rfl)
def LG:JT f al (some d)=.ok (lH d f al):=(rfl)
def NR(ds:List D)(fr:Bool)(rb:R):Res R:=match rb.d with
 |.int k=>match hG ds k with
  |some d=>.ok (lH d fr [])
  |none=>.stuck
 |_=>.stuck
def IQ(i:Nat)(fb:En->Res R)(env:En):Option (Option Sl)->Res R
 |some (some (.own ds fr))=>(fb env).bind (NR ds fr)
 |_=>v2 Dw (av i) fb env
def LH(i:Nat)(fb:En->Res R)(env:En):dE i fb env=IQ i fb env env[i]?:=by unfold dE IQ;rfl
def IR(fb:En->Res R):IQ i fb env (some (some (.val d f)))=v2 Dw (av i) fb env:=(rfl)
def dk{α:Type}(a:α)(l:List α):hG (a::l) 0=some a:=by unfold hG AM;rw[b_ (by lia),b_ (by simp)];rfl
def OS{α:Type}(a b:α)(l:List α):hG (a::b::l) 1=some b:=by unfold hG AM;rw[b_ (by lia),b_ (by simp;lia)];rfl
def OT{α:Type}(a b c:α)(l:List α):hG (a::b::c::l) 2=some c:=by unfold hG AM;rw[b_ (by lia),b_ (by simp;lia)];rfl
def LI(fl fh:En->Res (Option Int))(env:En)(r:R):Res R:=(fl env).bind λlo=>(fh env).bind λhi=>tf r lo hi
def LJ(fh:En->Res (Option Int))(env:En)(r:R)(lo:Option Int):Res R:=(fh env).bind λhi=>tf r lo hi
def Fc(fa:En->Res R)(fl fh:En->Res (Option Int))(env:En):pI fa fl fh env=(fa env).bind (LI fl fh env):=(rfl)
def IS(fl fh:En->Res (Option Int))(env:En)(r:R):LI fl fh env r=(fl env).bind (LJ fh env r):=(rfl)
def IT(fh:En->Res (Option Int))(env:En)(r:R)(lo:Option Int):LJ fh env r lo=(fh env).bind (tf r lo):=(rfl)
def kO(r:R):Res (Option Int):=match r.d with
 |.int i=>.ok (some i)
 |_=>.stuck
def Fd(env:En):BI env=.ok none:=(rfl)
def Fe(a:En->Res R)(env:En):pH a env=(a env).bind kO:=(rfl)
def NS:kO (.val (.int x) f al)=.ok (some x):=(rfl)
def IU(f:Bool)(al:List Nat)(lo hi:Option Int):D->Res R
 |.lst xs=>.ok (nM (eG xs lo hi) f al)
 |.tup xs=>.ok (lH (.tup (eG xs lo hi)) f al)
 |_=>.stuck
def LK(r:R)(lo hi:Option Int):tf r lo hi=IU r.fr r.al lo hi r.d:=by unfold tf IU;rfl
def IV(lo hi:Option Int):IU f al lo hi (.lst ds)=.ok (nM (eG ds lo hi) f al):=(rfl)
def LL(T:String)(r:R):Res R:=.ok (.val (.bl (Kt T r.d)) true [])
def LM(T:String)(a:En->Res R)(env:En):EB T a env=(a env).bind (LL T):=(rfl)
def IW(T:String)(r:R):LL T r=.ok (.val (.bl (Kt T r.d)) true []):=(rfl)
def LN(asg:D->Bool->En->Option En)(body:En->Res Fl)(env:En)(s:Src):Res Fl:=lg asg s.fr body s.xs (cV env s.al)
def LO(src:En->Res Src)(asg:D->Bool->En->Option En)(body:En->Res Fl)(env:En):zw src asg body env=(src env).bind (LN asg body env):=(rfl)
def IX(asg:D->Bool->En->Option En)(body:En->Res Fl)(env:En)(xs:List D):LN asg body env ⟨xs,f,al⟩=lg asg f body xs (cV env al):=(rfl)
def IY(r:R):Res Src:=match r.d with
 |.lst ds=>.ok ⟨ds,r.fr,r.al⟩
 |.tup ds=>.ok ⟨ds,r.fr,r.al⟩
 |_=>.stuck
def Cw(a:En->Res R)(env:En):uP a env=(a env).bind IY:=(rfl)
def Cy:IY (.val (.lst ds) f al)=.ok ⟨ds,f,al⟩:=(rfl)
def Ff:IY (.new ds f)=.ok ⟨ds,f,[]⟩:=(rfl)
def Oq(rs:List R):Res Src:=match rs.map R.d with
 |[.int j]=>if cR j then .ok ⟨fK 0 j.toNat,true,[]⟩else .stuck
 |_=>.stuck
def LP(fs:En->Res (List R))(env:En):HC fs env=(fs env).bind Oq:=(rfl)
def LQ(h1:-4611686018427387904<=x)(h2:x<4611686018427387904):cR x=true:=by unfold cR;rw[jh];exact⟨io (by lia),io (by lia)⟩
def rS(h1:-4611686018427387904<=x)(h2:x<4611686018427387904):Oq [.val (.int x) f al]=.ok ⟨fK 0 x.toNat,true,[]⟩:=b_ (LQ h1 h2)
def IZ:cV env []=env:=(rfl)
def Fg(h:i<env.length):gN i d f env=some (env.set i (some (.val d f))):=b_ h
def kH(n:Nat)(caps:List Nat)(asg:D->Bool->En->Option En)(test:En->Res Bool)(elt:En->Res R)(env:En)(s:Src):Res R:=if s.xs.length<=lim then
 (gr (λd=>asg d s.fr (iJ env n caps)) test elt s.xs).Gz.bind λrs=>.ok (nM (rs.map R.d) (cb rs) (s.al++caps.filter (gK env)))else .stuck
def tU(n:Nat)(caps:List Nat)(src:En->Res Src)(asg:D->Bool->En->Option En)(test:En->Res Bool)(elt:En->Res R)(env:En) :
 hJ n caps src asg test elt env=(src env).bind (kH n caps asg test elt env):=(rfl)
def j_(hl:xs.length<=1000000)
 (h:gr (λd=>asg d f (iJ env n caps)) test elt xs=.ok rs):kH n caps asg test elt env ⟨xs,f,al⟩=.ok (nM (rs.map R.d) (cb rs) (al++caps.filter (gK env))):=by
 unfold kH;dsimp only;rw[b_ (show xs.length<=lim from hl),h];rfl
theorem gg{α:Type}{mk:D->Option En}{test:En->Res Bool}{elt:En->Res R}(g:α->D)(k:α->R):∀(xs:List α),(∀a∈xs,∃e,mk (g a)=some e/\test e=.ok true/\elt e=.ok (k a))->gr mk test elt (xs.map g)=.ok (xs.map k)
 |[],_=>rfl
 |a::r,h=>by obtain⟨e,h1,h2,h3⟩:=h a (by simp);rw[dz,dz];unfold gr;rw[h1];dsimp only;rw[h2];dsimp only[Res.bind];rw[b_ rfl,h3,gg g k r λb hb=>h b (by simp[hb])]
theorem ml{α:Type}{mk:D->Option En}{test:En->Res Bool}{elt:En->Res R}(g:α->D)(p:α->Bool)(k:α->R):∀(xs:List α),(∀a∈xs,∃e,mk (g a)=some e/\test e=.ok (p a)/\(p a=true->elt e=.ok (k a)))->gr mk test elt (xs.map g)=.ok ((xs.filter p).map k)
 |[],_=>rfl
 |a::r,h=>by
  obtain⟨e,h1,h2,h3⟩:=h a (by simp);rw[dz];unfold gr;rw[h1];dsimp only;rw[h2];dsimp only[Res.bind];have ih:=ml g p k r λb hb=>h b (by simp[hb]);cases hp:p a with
  |true=>rw[b_ rfl,h3 hp,PY,b_ hp,ih];rfl
  |false=>rw[cF (by simp),PY,cF (by rw[hp];simp),ih]
def Cz(i:Nat)(env:En)(ds:List D)(fr:Bool)(r:R):Res Fl:=if ds.length<lim/\¬i∈r.al then .ok (.nx ((cV env r.al).set i (some (.own (ds++[r.d]) (fr&&r.fr)))))else .stuck
def CA(i:Nat)(a:En->Res R)(env:En):Option (Option Sl)->Res Fl
 |some (some (.own ds fr))=>(a env).bind (Cz i env ds fr)
 |some (some (.uf (.lst ds)))=>(a env).bind (Cz i env ds true)
 |_=>.stuck
def LR(a:En->Res R)(env:En):zt i a env=CA i a env env[i]?:=by
 unfold zt pE CA;cases env[i]? with
 |none=>rfl
 |some o=>cases o with
  |none=>rfl
  |some s=>cases s with
   |uf d=>cases d<;>rfl
   |_=>rfl
def I0(a:En->Res R):CA i a env (some (some (.own ds f)))=(a env).bind (Cz i env ds f):=(rfl)
def CB(h:ds.length<1000000)(hr:r.al=[]):Cz i env ds f r=.ok (.nx (env.set i (some (.own (ds++[r.d]) (f&&r.fr))))):=by unfold Cz;rw[hr];rw[b_ ⟨h,by simp⟩];rfl
end
def pU(x:Int):(D.int x).flat=true:=(rfl)
def Fh(x:Bool):(D.bl x).flat=true:=(rfl)
def vk(ds:List D):(D.tup ds).flat=D.bp ds:=(rfl)
def CC(ds:List D):(D.lst ds).flat=false:=(rfl)
def rT:D.bp []=true:=(rfl)
def iS(d:D)(ds:List D):D.bp (d::ds)=(d.flat&&D.bp ds):=(rfl)
def mn(x:Int):(D.int x).dep=0:=(rfl)
def I_(x:Bool):(D.bl x).dep=0:=(rfl)
def mq(ds:List D):(D.tup ds).dep=D.lE ds+1:=(rfl)
def mr(ds:List D):(D.lst ds).dep=D.lE ds+1:=(rfl)
def gv:D.lE []=0:=(rfl)
def fB(d:D)(ds:List D):D.lE (d::ds)=max d.dep (D.lE ds):=(rfl)
def Ja(r:R):yb (.ok (.rt r))=.ok r:=(rfl)
def Jb(e:En):yb (.ok (.nx e))=.ok (.val .bL true []):=(rfl)
def iT(d:D)(f:Bool)(al:List Nat):(R.val d f al).d=d:=(rfl)
def ou(ds:List D)(f:Bool):(R.new ds f).d=.lst ds:=(rfl)
def Fi(d:D):(R.lJ d).d=d:=(rfl)
def CD(d:D)(f:Bool)(al:List Nat):(R.val d f al).fr=f:=(rfl)
def CF(ds:List D)(f:Bool):(R.new ds f).fr=f:=(rfl)
def CG(d:D):(R.lJ d).fr=true:=(rfl)
def CH(d:D)(f:Bool)(al:List Nat):(R.val d f al).al=al:=(rfl)
def CJ(ds:List D)(f:Bool):(R.new ds f).al=[]:=(rfl)
def CK(d:D):(R.lJ d).al=[]:=(rfl)
def LS{α β:Type}(a:α)(k:α->Res β):(Res.ok a).bind k=k a:=(rfl)
def Jc:D->Res R
 |.lst ds=>match fw ds with
  |some bs=>.ok (.val (.bl (bs.all id)) true [])
  |none=>.stuck
 |_=>.stuck
def LU(r:R):EC [r]=Jc r.d:=by rcases r with⟨d,f,al⟩|⟨ds,f⟩|⟨d⟩<;>first|rfl|(cases d<;>rfl)
def z7{α:Type}(xs:List α):Jc (.lst (xs.map λ_=>D.bl true))=.ok (.val (.bl true) true []):=by
 have:∀xs:List α,fw (xs.map λ_=>D.bl true)=some (xs.map λ_=>true):=by
  intro xs;induction xs with
  |nil=>rfl
  |cons a r ih=>rw[dz];unfold fw;rw[ih];rfl
 show(match fw (xs.map λ_=>D.bl true)with|some bs=>Res.ok (R.val (D.bl (bs.all id)) true [])|none=>Res.stuck)=_;rw[this];dsimp only;congr 3;rw[sk];intro x hx;obtain⟨_,_,rfl⟩:=d7.mp hx;rfl
def LV{α β:Type}(c:Str)(k:α->Res β):(Res.exc c:Res α).bind k=.exc c:=(rfl)
def Fj(c:Str):yb (.exc c)=.exc c:=(rfl)
def CL(c:Str)(rs:List R):Res Fl:=if rs.length<=lim then .exc c else .stuck
def Fk(c:Str)(fs:En->Res (List R))(env:En):mZ c fs env=(fs env).bind (CL c):=(rfl)
def CM(h:rs.length<=1000000):CL c rs=.exc c:=b_ h
def CN(asg:D->Bool->En->Option En)(env:En)(r:R):Res Fl:=match asg r.d r.fr (cV env r.al)with
 |some bI=>.ok (.nx bI)
 |none=>.stuck
def LW(f:En->Res R)(asg:D->Bool->En->Option En)(env:En):pF f asg env=(f env).bind (CN asg env):=(rfl)
def CO(h:asg r.d r.fr (cV env r.al)=some bI):CN asg env r=.ok (.nx bI):=by unfold CN;rw[h]
def pV(ks:List DK)(ds:List D):(D.nF ks ds).flat=false:=(rfl)
def z8(h:d.flat=false):jD rs (.lJ d)=.lJ d:=by show FV d true rs=_;unfold FV;rw[cF (by rw[h];simp),b_ rfl]
theorem rV{α:Type}(p:α->Bool):∀xs:List α,fw (xs.map λa=>D.bl (p a))=some (xs.map p)
 |[]=>rfl
 |a::r=>by rw[dz];unfold fw;rw[rV p r];rfl
def CS{α:Type}(p:α->Bool)(xs:List α):Jc (.lst (xs.map λa=>D.bl (p a)))=.ok (.val (.bl (xs.all p)) true []):=by show(match fw (xs.map λa=>D.bl (p a))with|some bs=>Res.ok (R.val (D.bl (bs.all id)) true [])|none=>Res.stuck)=_;rw[rV];dsimp only;rw[List.all_map];rfl
def LX(h:0<=y):HJ (.val (.int x) f al) (.val (.int y) g bl)=.ok (.val (.int (x/2^y.toNat)) true []):=by show(if decide (0<=y)=true then _ else _)=_;rw[b_ (io h)]
def Jd:BN (.val (.int x) f al) (.val (.int y) g bl)=.ok (.val (.int (Builtin.bitAnd x y)) true []):=(rfl)
def NT(f:En->Res R)(env:En):MJ f env=(f env).bind EI:=(rfl)
theorem rW:∀k:List Int,pL (k.map .int)=some k
 |[]=>rfl
 |a::r=>by rw[dz];unfold pL;rw[rW r];rfl
theorem nu:∀ks:List (List Int),gO (ks.map l7)=some ks
 |[]=>rfl
 |k::r=>by rw[dz];unfold gO;rw[nu r,show HL (l7 k)=some k from rW k]
def Ga(i:Nat)(env:En)(r:R):Res Fl:=if i<env.length then .ok (.nx ((cV env r.al).set i (some (.val r.d r.fr))))else .stuck
def xj(i:Nat)(a:En->Res R)(env:En):ja i a env=(a env).bind (Ga i env):=(rfl)
def Fm(h:i<env.length):Ga i env r=.ok (.nx ((cV env r.al).set i (some (.val r.d r.fr)))):=b_ h
def CT(h0:0<=j)(h1:j<=1000):oo [.val (.int j) f al]=.ok (.new (fK 0 j.toNat) true):=b_ ⟨h0,h1⟩
def LY(f1 f2:En->Res R)(env:En)(r0:R):Res R:=(f1 env).bind λr1=>(f2 env).bind λr2=>wQ r0 r1 r2
def LZ(f2:En->Res R)(env:En)(r0 r1:R):Res R:=(f2 env).bind (wQ r0 r1)
def NU(f0 f1 f2:En->Res R)(env:En):Nl f0 f1 f2 env=(f0 env).bind (LY f1 f2 env):=(rfl)
def Je(f1 f2:En->Res R)(env:En)(r0:R):LY f1 f2 env r0=(f1 env).bind (LZ f2 env r0):=(rfl)
def Jf(f2:En->Res R)(env:En)(r0 r1:R):LZ f2 env r0 r1=(f2 env).bind (wQ r0 r1):=(rfl)
def Jg{d1 d2:List D}{g1 g2:Bool}(h0:r0.d.flat=true)(h1:D.bp d1=true)(h2:D.bp d2=true):wQ r0 (.new d1 g1) (.new d2 g2)=.ok (.lJ (.tup [r0.d,.lst d1,.lst d2])):=b_ ⟨h0,h1,h2⟩
end L3
local macro_rules|`(tactic| simp_arith[$as,*] $[$l:location]?)=>do
 let ls←("L3.hV L3.iL L3.xj L3.Fm L3.NU L3.Je L3.Jf decide_true decide_false List.map_cons List.map_nil List.length_cons List.length_nil List.replicate List.cons_append List.nil_append List.append_nil Nat.reduceAdd Nat.max_self Nat.zero_max Nat.max_zero Nat.zero_add Nat.reduceSub L3.K8 L3.Le L3.NJ L3.Li L3.Lf L3.Lg L3.Lh L3.IA L3.IB L3.pU L3.Fh L3.vk L3.CC L3.rT L3.iS L3.mn L3.I_ L3.mq L3.mr L3.gv L3.fB L3.OR L3.LS List.getElem?_cons_zero List.getElem?_cons_succ L3.Lm L3.Ln L3.Lj L3.Ll L3.IC Int.reduceLT Int.reduceLE Int.reduceNeg L3.Iw L3.Iy L3.Iz L3.NF L3.NG List.set_cons_zero List.set_cons_succ Nat.reduceLT Nat.reduceLeDiff L3.NI L3.K9 L3.K_ L3.La L3.Lc L3.Iv L3.NK L3.NL L3.NM L3.Lp L3.E7 L3.IE L3.E8 L3.E9 L3.Co L3.Ls L3.IF L3.Lw L3.IG L3.Cp L3.z4 L3.Cq L3.z5 L3.IH L3.E_ L3.Cs L3.Ct L3.Cu L3.rR L3.NN L3.Lx L3.IJ L3.IK L3.Fa L3.NO L3.NP L3.IL L3.IM L3.IN L3.Fb L3.LA L3.LC L3.NQ L3.LD L3.LF L3.LG L3.LH L3.IR L3.dk L3.OS L3.OT L3.Fc L3.IS L3.IT L3.Fd L3.Fe L3.NS L3.LK L3.IV L3.LM L3.IW L3.LO L3.IX L3.Cw L3.Cy L3.Ff L3.LP L3.IZ L3.LV L3.Fj L3.Fk L3.CM L3.LW Int.reduceBEq L3.LU Bool.not_not Nat.reduceEqDiff L3.tU L3.LR L3.I0 L3.iT L3.ou L3.Fi L3.CD L3.CF L3.CG L3.CH L3.CJ L3.CK Bool.and_true Bool.true_and Bool.and_false Bool.false_and Bool.and_self Bool.not_true Bool.not_false L3.Ja L3.Jb L3.lr L3.E6 L3.pV L3.LX L3.Jd L3.NT L3.z8".splitOn " ").toArray.mapM λs=>`(Lean.Parser.Tactic.simpLemma| $(Lean.mkIdent s.toName):ident)
 `(tactic| simp only[$[$ls:simpLemma],*,$as,*] $[$l]?)
local macro_rules|`(tactic| simp_arith $[$l:location]?)=>`(tactic| simp_arith[L3.LS] $[$l]?)
namespace L3
open PySem L2
def vm{α β:Type}(g:α->β)(xs:List α)(lo hi:Option Int):eG (xs.map g) lo hi=(eG xs lo hi).map g:=by unfold eG;rw[cG,List.map_take,List.map_drop]
def CU{α:Type}(xs:List α)(lo hi:Option Int):(eG xs lo hi).length<=xs.length:=by unfold eG;rw[N0,PX];lia
def CV{α:Type}(xs:List α)(lo hi:Option Int):∀a∈eG xs lo hi,a∈xs:=by unfold eG;intro a h;exact Qq (Dv h)
def CW:(∀d∈ds,d.flat=true)->D.bp ds=true:=by
 induction ds with
 |nil=>intro _;rfl
 |cons d r ih=>intro h;rw[iS,h d (by simp),ih λx hx=>h x (by simp[hx])];rfl
def bJ{α:Type}(g:α->D)(xs:List α)(h:∀a,(g a).flat=true):D.bp (xs.map g)=true:=CW λd hd=>by obtain⟨a,_,rfl⟩:=d7.mp hd;exact h a
def b6(xs:List Int):D.bp (xs.map D.int)=true:=bJ _ _ pU
def pW(h:d.flat=false):D.bp (d::ds)=false:=by rw[iS,h];rfl
def Fo:(∀d∈ds,d.dep<=n)->D.lE ds<=n:=by
 induction ds with
 |nil=>intro _;rw[gv];lia
 |cons d r ih=>intro h;have h1:=h d (by simp);have h2:=ih λx hx=>h x (by simp[hx]);rw[fB];lia
def pX{α:Type}{g:α->D}{xs:List α}{n:Nat}(h:∀a,(g a).dep<=n):D.lE (xs.map g)<=n:=Fo λd hd=>by obtain⟨a,_,rfl⟩:=d7.mp hd;exact h a
def nv(xs:List Int):D.lE (xs.map D.int)<=0:=pX λ_=>bK 0
def ic{α:Type}(g:α->D)(xs:List α):cb (xs.map λa=>.val (g a) true [])=true:=by unfold cb;rw[sk];intro r h;obtain⟨a,_,rfl⟩:=d7.mp h;rfl
def rX{α:Type}(g:α->D)(fr:Bool)(al:List Nat)(xs:List α):(xs.map λa=>R.val (g a) fr al).map R.d=xs.map g:=by rw[kg];rfl
def kc(n:Nat):fK 0 n=(List.range n).map λk=>.int (k:Nat):=by unfold fK;congr 1;funext k;simp
theorem vn{α:Type}(g:α->D){asg:D->Bool->En->Option En}{fr:Bool}{body:En->Res Fl}(P:List α->En->Prop):∀(xs pre:List α)(env:En),P pre env->
 (∀(pre post:List α)(a:α)(env:En),(∀b∈pre,b∈pre)->P pre env->a∈xs->∃kr env2,asg (g a) fr env=some kr/\body kr=.ok (.nx env2)/\P (pre++[a]) env2)->
 ∃bI,lg asg fr body (xs.map g) env=.ok (.nx bI)/\P (pre++xs) bI
 |[],pre,env,h,_=>⟨env,rfl,by rw[Jv];exact h⟩
 |a::r,pre,env,h,st=>by obtain⟨kr,env2,h1,h2,h3⟩:=st pre [] a env (λ_ z=>z) h (by simp);obtain⟨bI,e1,e2⟩:=vn g P r (pre++[a]) env2 h3 λp q b e z hp hb=>st p q b e z hp (by simp[hb]);refine⟨bI,?_,by rw[Pe]at e2;exact e2⟩;rw[dz];unfold lg;rw[h1];dsimp only;rw[h2];exact e1
theorem tV{α:Type}(g:α->D){asg:D->Bool->En->Option En}{fr:Bool}{body:En->Res Fl}(all:List α)(P:List α->En->Prop):∀(xs pre:List α)(env:En),all=pre++xs->P pre env->
 (∀(pre post:List α)(a:α)(env:En),all=pre++a::post->P pre env->∃kr env2,asg (g a) fr env=some kr/\body kr=.ok (.nx env2)/\P (pre++[a]) env2)->
 ∃bI,lg asg fr body (xs.map g) env=.ok (.nx bI)/\P all bI
 |[],pre,env,e,h,_=>⟨env,rfl,by rw[e,Jv];exact h⟩
 |a::r,pre,env,e,h,st=>by obtain⟨kr,env2,h1,h2,h3⟩:=st pre r a env e h;obtain⟨bI,e1,e2⟩:=tV g all P r (pre++[a]) env2 (by rw[e];simp) h3 st;refine⟨bI,?_,e2⟩;rw[dz];unfold lg;rw[h1];dsimp only;rw[h2];exact e1
def oz(f:D->Bool->En->Option En)(fs:List D->Bool->En->Option En)(d:D)(ds:List D)(fr:Bool)(env:En):bn f fs (d::ds) fr env=(f d fr env).bind λe=>fs ds fr e:=(rfl)
def Fp(hi:i<env.length)(hj:j<env.length):CN (gT 2 (bn (gN i) (bn (gN j) fS))) env (.lJ (.tup [a,b]))=.ok (.nx ((env.set i (some (.val a true))).set j (some (.val b true)))):=by refine CO ?_;show(bn (gN i) (bn (gN j) fS)) [a,b] true env=_;rw[oz,Fg hi];show(bn (gN j) fS) [b] true _=_;rw[oz,Fg (by rw[Pg];exact hj)];rfl
def Fq{α β:Type}(g:α->β)(xs:List α)(k:Int):hG (xs.map g) k=(hG xs k).map g:=by
 unfold hG;rw[cG];cases AM xs.length k with
 |none=>rfl
 |some j=>simp
def Jh{α:Type}{xs:List α}{k:Int}(h0:0<=k)(h:k<xs.length):∃a,hG xs k=some a/\xs[k.toNat]?=some a:=by
 unfold hG AM;rw[b_ h0,b_ h];have:k.toNat<xs.length:=by lia
 exact⟨xs[k.toNat],by simp[this],by simp[this]⟩
end L3
namespace W
open PySem PySem.Spec PyProof.Rows L2 L3 L4
noncomputable def top(i:Nat):Stmt:=PySem.Challenge.pw_callwalk_k20_not_plain.main.body.getD i (.Pass ⟨0,0,0,0⟩)
abbrev cz:Stmt:=top 25
noncomputable abbrev jM:List Str:=["_law_script","_law_k","_law_cell"]
noncomputable abbrev de:List Str:=["_law_script","_law_k"]
def sc__law_seed_at:aR jM de (af cz):=⟨rfl,rfl,rfl,by decide +kernel,rfl,by decide +kernel,by decide +kernel⟩
def gw:En->Res Fl:=
 (bB (fq 2 (vC (.int 0)))
 (bB (Aq (vB (v2 Kg (av 1) (ol BA (ag (av 0) aL)))) (fq 2 (dE 0 (av 1))) nZ)
 (g9 (v2 c9 (v2 mX (v2 mX (v2 gZ (v2 c9 (av 2) (vC (.int 2147483647))) (vC (.int 11))) (vC (.int 48271))) (vC (.int 69621))) (vC (.int 2147483629))))))
def bu:List D->Res R:=hV jM gw
abbrev ce:Stmt:=top 27
noncomputable abbrev jc:List Str:=["_law_cell","_law_rooms","_law_own","_law_signs","_law_number","_law_state","_law_sign"]
noncomputable abbrev cL:List Str:=["_law_cell","_law_rooms","_law_own","_law_signs"]
def sc__law_arrow_by:aR jc cL (af ce):=⟨rfl,rfl,rfl,by decide +kernel,rfl,by decide +kernel,by decide +kernel⟩
def jd:En->Res Fl:=
 (bB (fq 4 (v2 c9 (v2 mX (av 0) (vC (.int 69621))) (vC (.int 2147483629))))
 (bB (pF (ol eI (ag (av 4) (ag (vC (.int 60)) aL))) (gT 2 (bn (gN 4) (bn (gN 5) fS))))
 (bB (pF (ol eI (ag (av 4) (ag (vC (.int 60)) aL))) (gT 2 (bn (gN 4) (bn (gN 6) fS))))
 (g9 (ko (ag (v2 c9 (av 5) (v2 gZ (av 1) (av 2))) (ag (v2 c9 (av 6) (av 3)) (ag (v2 gZ (av 1) (v2 c9 (av 4) (av 2))) aL))))))))
def dP:List D->Res R:=hV jc jd
abbrev aX:Stmt:=top 30
noncomputable abbrev cj:List Str:=["_law_cell","_law_cells","_law_rooms","_law_own","_law_signs","_law_form","_law_head","_law_arrows","_law_ends"]
noncomputable abbrev ck:List Str:=["_law_cell","_law_cells","_law_rooms","_law_own","_law_signs"]
def sc__law_machine_by:aR cj ck (af aX):=⟨rfl,rfl,rfl,by decide +kernel,rfl,by decide +kernel,by decide +kernel⟩
def jo:((["_law_sign"]:List Str)++(["_law_rooms"]:List Str)).Nodup:=by decide +kernel
def jp:((["_law_one"]:List Str)++(["_law_rooms","_law_own","_law_signs"]:List Str)).Nodup:=by decide +kernel
def jq:((["_law_state"]:List Str)++(["_law_cell"]:List Str)).Nodup:=by decide +kernel
def bM:En->Res R:=λenv=>(ko (ag (av 1) (ag (av 0) (ag (av 1) aL)))) env
def bw:En->Res R:=λenv=>(cc dP (ag (av 0) (ag (av 1) (ag (av 2) (ag (av 3) aL))))) env
def bN:En->Res Bool:=λenv=>(vB (v2 zr (v2 BN (v2 HJ (v2 c9 (v2 jC (av 1) (vC (.int 10))) (vC (.int 32))) (av 0)) (vC (.int 1))) (vC (.int 1)))) env
def bO:En->Res R:=λenv=>(av 0) env
def cm:En->Res Fl:=
 (bB (fq 5 (v2 c9 (v2 jC (av 0) (vC (.int 320))) (vC (.int 4))))
 (bB (Aq (vB (v2 zr (av 5) (vC (.int 2)))) (bB (fq 6 (ko (ag (v2 c9 (v2 jC (av 0) (vC (.int 1280))) (av 2)) (ag (v2 c9 (v2 jC (av 0) (vC (.int 7680))) (av 4)) (ag (av 2) aL)))))
 (g9 (ko (ag (v2 gZ (av 2) (vC (.int 1))) (ag (ol JP (ag (v2 gZ (pC (ag (av 6) aL)) (hJ 1 [2] (HC (ag (av 4) aL)) (gN 0) (λ_=>.ok true) bM)) aL)) (ag (pC (ag (av 2) aL)) aL)))))) nZ)
 (bB (Aq (vB (v2 zr (av 5) (vC (.int 3)))) (g9 (ko (ag (av 2) (ag (pC aL) (ag (ol oo (ag (av 2) aL)) aL))))) nZ)
 (bB (fq 7 (hJ 1 [2,3,4] (uP (av 1)) (gN 0) (λ_=>.ok true) bw))
 (bB (fq 8 (hJ 1 [0] (HC (ag (v2 gZ (av 2) (av 3)) aL)) (gN 0) bN bO))
 (g9 (ko (ag (v2 gZ (av 2) (av 3)) (ag (MJ (av 7)) (ag (av 8) aL))))))))))
def bv:List D->Res R:=hV cj cm
abbrev cA:Stmt:=top 26
noncomputable abbrev jN:List Str:=["_law_cell","_law_rooms","_law_signs","_law_number","_law_kind","_law_room","_law_sign","_law_to","_law_one","_law_put"]
noncomputable abbrev df:List Str:=["_law_cell","_law_rooms","_law_signs"]
def sc__law_rule_by:aR jN df (af cA):=⟨rfl,rfl,rfl,by decide +kernel,rfl,by decide +kernel,by decide +kernel⟩
def jO:En->Res Fl:=
 (bB (fq 3 (v2 c9 (v2 mX (av 0) (vC (.int 48271))) (vC (.int 2147483647))))
 (bB (pF (ol eI (ag (av 3) (ag (vC (.int 3)) aL))) (gT 2 (bn (gN 3) (bn (gN 4) fS))))
 (bB (pF (ol eI (ag (av 3) (ag (vC (.int 6)) aL))) (gT 2 (bn (gN 3) (bn (gN 5) fS))))
 (bB (pF (ol eI (ag (av 3) (ag (vC (.int 60)) aL))) (gT 2 (bn (gN 3) (bn (gN 6) fS))))
 (bB (pF (ol eI (ag (av 3) (ag (vC (.int 6)) aL))) (gT 2 (bn (gN 3) (bn (gN 7) fS))))
 (bB (pF (ol eI (ag (av 3) (ag (vC (.int 60)) aL))) (gT 2 (bn (gN 3) (bn (gN 8) fS))))
 (bB (fq 9 (pC (ag (v2 c9 (av 8) (av 2)) (ag (v2 c9 (av 3) (av 2)) aL))))
 (g9 (ko (ag (v2 c9 (av 5) (av 1)) (ag (v2 c9 (av 6) (av 2)) (ag (v2 c9 (av 7) (av 1)) (ag (ol ti (ag (pI (av 9) BI (pH (av 4))) aL)) aL)))))))))))))
def eR:List D->Res R:=hV jN jO
abbrev b7:Stmt:=top 31
noncomputable abbrev gx:List Str:=["_law_script","_law_most","_law_shape","_law_seed","_law_rooms","_law_signs","_law_own","_law_many","_law_machine","_law_rules"]
noncomputable abbrev dg:List Str:=["_law_script","_law_most"]
def sc__law_made_by:aR gx dg (af b7):=⟨rfl,rfl,rfl,by decide +kernel,rfl,by decide +kernel,by decide +kernel⟩
def lu:((["_law_cell"]:List Str)++(["_law_rooms","_law_signs"]:List Str)).Nodup:=by decide +kernel
def bW:En->Res R:=λenv=>(cc eR (ag (av 0) (ag (av 1) (ag (av 2) aL)))) env
def jP:En->Res Fl:=
 (bB (ja 2 (cc bu (ag (av 0) (ag (vC (.int 0)) aL))))
 (bB (ja 3 (cc bu (ag (av 0) (ag (vC (.int 1)) aL))))
 (bB (fq 4 (v2 gZ (vC (.int 1)) (v2 c9 (av 2) (vC (.int 3)))))
 (bB (fq 5 (v2 gZ (vC (.int 1)) (v2 c9 (v2 jC (av 2) (vC (.int 3))) (vC (.int 5)))))
 (bB (fq 6 (v2 c9 (v2 jC (av 2) (vC (.int 15))) (vC (.int 3))))
 (bB (fq 7 (v2 mX (v2 c9 (av 3) (vC (.int 10))) (ol ED (ag (v2 MF (av 6) (vC (.int 0))) aL))))
 (bB (ja 8 (cc bv (ag (av 3) (ag (pI (av 0) (pH (vC (.int 4))) (pH (v2 gZ (vC (.int 4)) (av 7)))) (ag (av 4) (ag (av 6) (ag (av 5) aL)))))))
 (bB (fq 9 (hJ 1 [4,5] (uP (pI (av 0) (pH (v2 gZ (vC (.int 4)) (av 7))) (pH (v2 gZ (v2 gZ (vC (.int 4)) (av 7)) (av 1))))) (gN 0) (λ_=>.ok true) bW))
 (g9 (ko (ag (ko (ag (av 4) (ag (av 5) (ag (av 9) aL)))) (ag (av 8) aL))))))))))))
def eS:List D->Res R:=hV gx jP
abbrev cf:Stmt:=top 28
noncomputable abbrev je:List Str:=["_law_cell","_law_size","_law_signs","_law_found","_law_number","_law_k","_law_sign"]
noncomputable abbrev cM:List Str:=["_law_cell","_law_size","_law_signs"]
def sc__law_stack_by:aR je cM (af cf):=⟨rfl,rfl,rfl,by decide +kernel,rfl,by decide +kernel,by decide +kernel⟩
def eU:En->Res Fl:=λenv=>
 (bB (pF (ol eI (ag (av 4) (ag (av 2) aL))) (gT 2 (bn (gN 4) (bn (gN 6) fS))))
 (zt 3 (v2 c9 (v2 gZ (av 6) (v2 mX (v2 mX (av 5) (av 5)) (v2 jC (av 1) (vC (.int 30))))) (av 2)))) env
def jf:En->Res Fl:=
 (bB (fq 3 (pC aL))
 (bB (fq 4 (v2 mX (v2 c9 (av 0) (v2 BR (vC (.int 10)) (vC (.int 20)))) (v2 BR (vC (.int 1000003)) (vC (.int 4)))))
 (bB (zw (HC (ag (av 1) aL)) (gN 5) eU)
 (g9 (av 3)))))
def dQ:List D->Res R:=hV je jf
abbrev bD:Stmt:=top 29
noncomputable abbrev gy:List Str:=["_law_cell","_law_rooms","_law_signs","_law_size"]
noncomputable abbrev b8:List Str:=["_law_cell","_law_rooms","_law_signs"]
def sc__law_standing_by:aR gy b8 (af bD):=⟨rfl,rfl,rfl,by decide +kernel,rfl,by decide +kernel,by decide +kernel⟩
def dW:En->Res Fl:=
 (bB (fq 3 (v2 c9 (v2 jC (av 0) (vC (.int 6))) (vC (.int 6))))
 (bB (Aq (vB (v2 zr (v2 c9 (v2 jC (av 0) (vC (.int 36))) (vC (.int 8))) (vC (.int 5)))) (fq 3 (v2 gZ (vC (.int 30)) (v2 c9 (v2 jC (av 0) (vC (.int 288))) (vC (.int 61))))) nZ)
 (g9 (ko (ag (v2 c9 (v2 c9 (av 0) (vC (.int 6))) (av 1)) (ag (cc dQ (ag (v2 jC (av 0) (vC (.int 288))) (ag (av 3) (ag (av 2) aL)))) aL))))))
def b9:List D->Res R:=hV gy dW
abbrev cO:Stmt:=top 33
noncomputable abbrev kI:List Str:=["_law_machine","_law_cell","_law_rooms","_law_signs","_law_arrows","_law_k","_law_number","_law_first"]
noncomputable abbrev dJ:List Str:=["_law_machine","_law_cell","_law_rooms","_law_signs"]
def sc__law_spoilt:aR kI dJ (af cO):=⟨rfl,rfl,rfl,by decide +kernel,rfl,by decide +kernel,by decide +kernel⟩
def fQ:En->Res Fl:=λenv=>
 (bB (fq 6 (v2 c9 (v2 mX (v2 jC (av 1) (vC (.int 2))) (v2 gZ (vC (.int 48271)) (v2 mX (vC (.int 69621)) (av 5)))) (vC (.int 2147483647))))
 (bB (fq 7 (v2 c9 (v2 c9 (av 6) (vC (.int 60))) (dE 0 (vC (.int 0)))))
 (zt 4 (ko (ag (av 7) (ag (v2 c9 (v2 jC (av 6) (vC (.int 60))) (av 3)) (ag (v2 c9 (v2 jC (av 6) (vC (.int 3600))) (av 2)) aL))))))) env
def kJ:En->Res Fl:=
 (bB (fq 4 (ol kF (ag (dE 0 (vC (.int 1))) aL)))
 (bB (zw (HC (ag (v2 gZ (vC (.int 1)) (v2 c9 (av 1) (vC (.int 2)))) aL)) (gN 5) fQ)
 (g9 (ko (ag (dE 0 (vC (.int 0))) (ag (MJ (av 4)) (ag (ol kF (ag (dE 0 (vC (.int 2))) aL)) aL)))))))
def fF:List D->Res R:=hV kI kJ
abbrev d6:Stmt:=top 32
noncomputable abbrev nQ:List Str:=["_law_house","_law_machine"]
noncomputable abbrev fL:List Str:=["_law_house","_law_machine"]
def tW:aR nQ fL (af d6):=⟨rfl,rfl,rfl,by decide +kernel,rfl,by decide +kernel,by decide +kernel⟩
def nR:En->Res Fl:=(g9 (pC (ag (ko (ag (dE 0 (vC (.int 0))) (ag (dE 0 (vC (.int 1))) (ag (ol kF (ag (dE 0 (vC (.int 2))) aL)) aL)))) (ag (Nl (dE 1 (vC (.int 0))) (ol kF (ag (dE 1 (vC (.int 1))) aL)) (ol kF (ag (dE 1 (vC (.int 2))) aL))) aL))))
def gU:List D->Res R:=hV nQ nR
abbrev dX:Stmt:=top 6
noncomputable abbrev lw:List Str:=["house","machine"]
noncomputable abbrev gz:List Str:=["house","machine"]
def vo:aR lw gz (af dX):=⟨rfl,rfl,rfl,by decide +kernel,rfl,by decide +kernel,by decide +kernel⟩
def pY:((["arrow"]:List Str)++(["house"]:List Str)).Nodup:=by decide +kernel
def bU:En->Res R:=λenv=>(v2 Ng (dE 0 (vC (.int 2))) (dE 1 (vC (.int 0)))) env
def lz:En->Res Fl:=(g9 (ol EC (ag (hJ 1 [0] (uP (dE 1 (vC (.int 1)))) (gN 0) (λ_=>.ok true) bU) aL)))
def fC:List D->Res R:=hV lw lz
abbrev bh:Stmt:=top 7
noncomputable abbrev fA:List Str:=["house","machine"]
noncomputable abbrev bC:List Str:=["house","machine"]
def iU:aR fA bC (af bh):=⟨rfl,rfl,rfl,by decide +kernel,rfl,by decide +kernel,by decide +kernel⟩
def cW:En->Res Fl:=(Aq (Bx (Bw (cc fC (ag (av 0) (ag (av 1) aL))))) (mZ "NotPlain" (ag (vC (.str "an arrow of the machine leads to a room")) aL)) nZ)
def aW:List D->Res R:=hV fA cW
abbrev bX:Stmt:=top 11
noncomputable abbrev nw:List Str:=["house","rules","number","rule"]
noncomputable abbrev dt:List Str:=["house"]
def sc_rules_by_start:aR nw dt (af bX):=⟨rfl,rfl,rfl,by decide +kernel,rfl,by decide +kernel,by decide +kernel⟩
abbrev ii:Stmt:=top 13
noncomputable abbrev CY:List Str:=["house","machine","pricing","arrow","number","rule"]
noncomputable abbrev jQ:List Str:=["house","machine"]
def sc_prices:aR CY jQ (af ii):=⟨rfl,rfl,rfl,by decide +kernel,rfl,by decide +kernel,by decide +kernel⟩
abbrev xk:Stmt:=fX (top 9) 0
def L5:aR ["self"] ["self"] (af xk):=⟨rfl,rfl,rfl,by decide +kernel,rfl,by decide +kernel,by decide +kernel⟩
abbrev z9:Stmt:=fX (top 9) 1
def L6:aR ["self","price","thing"] ["self","price","thing"] (af z9):=⟨rfl,rfl,rfl,by decide +kernel,rfl,by decide +kernel,by decide +kernel⟩
abbrev z_:Stmt:=fX (top 9) 2
def L7:aR ["self"] ["self"] (af z_):=⟨rfl,rfl,rfl,by decide +kernel,rfl,by decide +kernel,by decide +kernel⟩
abbrev xm:Stmt:=fX (top 9) 3
def sc_QT:aR ["self","pile","price","thing"] ["self"] (af xm):=⟨rfl,rfl,rfl,by decide +kernel,rfl,by decide +kernel,by decide +kernel⟩
abbrev xn:Stmt:=fX (top 12) 0
def L8:aR ["self","house"] ["self","house"] (af xn):=⟨rfl,rfl,rfl,by decide +kernel,rfl,by decide +kernel,by decide +kernel⟩
abbrev Aa:Stmt:=fX (top 12) 1
def sc_PO:aR ["self","arrow","price","number","mid","known"] ["self","arrow","price","number","mid"] (af Aa):=⟨rfl,rfl,rfl,by decide +kernel,rfl,by decide +kernel,by decide +kernel⟩
abbrev Ab:Stmt:=fX (top 12) 2
def sc_PS:aR ["self","arrow","price","start","number","rule","first"] ["self","arrow","price"] (af Ab):=⟨rfl,rfl,rfl,by decide +kernel,rfl,by decide +kernel,by decide +kernel⟩
abbrev Ac:Stmt:=fX (top 12) 3
def sc_PF:aR ["self","number","rule","mid","price","start","state","second"] ["self","number","rule","mid","price"] (af Ac):=⟨rfl,rfl,rfl,by decide +kernel,rfl,by decide +kernel,by decide +kernel⟩
abbrev Ad:Stmt:=fX (top 12) 4
def sc_PA:aR ["self","price","arrow"] ["self"] (af Ad):=⟨rfl,rfl,rfl,by decide +kernel,rfl,by decide +kernel,by decide +kernel⟩
def dL:List D->Res R:=L4.Ii aW
abbrev eV:Stmt:=top 18
noncomputable abbrev f9:List Str:=["machine","sums"]
noncomputable def iV:List D->Res R:=λ_=>.stuck
abbrev eY:Stmt:=top 17
noncomputable abbrev f_:List Str:=["told","standing"]
noncomputable def iW:List D->Res R:=λ_=>.stuck
abbrev kd:Stmt:=top 19
noncomputable abbrev yq:List Str:=["house","machine","standing","lowest"]
noncomputable abbrev mv:List Str:=["house","machine","standing"]
def sc_least:aR yq mv (af kd):=⟨rfl,rfl,rfl,by decide +kernel,rfl,by decide +kernel,by decide +kernel⟩
def yr:En->Res Fl:=
 (bB (ja 3 (cc iV (ag (av 1) (ag (v2 Dw (cc iW (ag (cc dL (ag (av 0) (ag (av 1) aL))) (ag (av 2) aL))) (HH (vC (.int 1)))) aL))))
 (g9 (Oh (HI (av 3)) (vC .bL) (dE 3 (vC (.int 0))))))
def mw:List D->Res R:=hV yq yr
abbrev dM:Stmt:=top 22
noncomputable abbrev fG:List Str:=["house","told","arrows"]
noncomputable def kK:List D->Res R:=λ_=>.stuck
abbrev dN:Stmt:=top 20
noncomputable abbrev fH:List Str:=["rows","state"]
noncomputable def kM:List D->Res R:=λ_=>.stuck
abbrev rY:Stmt:=top 23
noncomputable abbrev Gb:List Str:=["house","machine","standing","most","told","rows","lowest"]
noncomputable abbrev rZ:List Str:=["house","machine","standing","most"]
def sc_way:aR Gb rZ (af rY):=⟨rfl,rfl,rfl,by decide +kernel,rfl,by decide +kernel,by decide +kernel⟩
def Gc:En->Res Fl:=
 (bB (ja 4 (cc dL (ag (av 0) (ag (av 1) aL))))
 (bB (ja 5 (cc iW (ag (av 4) (ag (av 2) aL))))
 (bB (ja 6 (cc iV (ag (av 1) (ag (dE 5 (HH (vC (.int 1)))) aL))))
 (bB (Aq (HI (av 6)) (mZ "NoWay" (ag (vC (.str "no run leads to a standing that the machine takes")) aL)) nZ)
 (bB (Aq (vB (v2 MF (dE 6 (vC (.int 0))) (av 3))) (mZ "TooLong" (ag (vC (.str "the shortest run has more steps than are wanted")) aL)) nZ)
 (g9 (cc kK (ag (av 0) (ag (av 4) (ag (cc kM (ag (av 5) (ag (dE 6 (vC (.int 1))) aL))) aL))))))))))
def pZ:List D->Res R:=hV Gb Gc
abbrev cB:Stmt:=top 34
noncomputable abbrev jR:List Str:=["_law_k","_law_house","_law_machine","_law_standing","_law_most","_law_kinds","e"]
noncomputable abbrev di:List Str:=["_law_k","_law_house","_law_machine","_law_standing","_law_most"]
def sc__law_refused:aR jR di (af cB):=⟨rfl,rfl,rfl,by decide +kernel,rfl,by decide +kernel,by decide +kernel⟩
def jS:En->Res Fl:=
 (bB (fq 5 (pC aL))
 (bB (vj 5 6 [true,true,false,false] "NotPlain" (Dx (vB (v2 zr (av 0) (vC (.int 0)))) (As dL (ag (av 1) (ag (av 2) aL)) []) (Dx (vB (v2 zr (av 0) (vC (.int 1)))) (As mw (ag (av 1) (ag (av 2) (ag (av 3) aL))) []) (Dx (vB (v2 Kg (av 4) (vC (.int 0)))) (As pZ (ag (av 1) (ag (av 2) (ag (av 3) aL))) [.int 60]) (As pZ (ag (av 1) (ag (av 2) (ag (av 3) (ag (av 4) aL)))) [])))))
 (g9 (v2 zr (av 5) (pC (ag (vC (.bl true)) (ag (vC (.bl true)) (ag (vC (.bl false)) (ag (vC (.bl false)) aL)))))))))
def eZ:List D->Res R:=hV jR jS
abbrev r_:Stmt:=top 35
noncomputable abbrev Ge:List Str:=["_law_script","_law_house","_law_machine","_law_standing","_law_spoilt_here","_law_most","_law_handed","_law_given","_law_k"]
noncomputable abbrev vp:List Str:=["_law_script"]
def sc_law:aR Ge vp (af r_):=⟨rfl,rfl,rfl,by decide +kernel,rfl,by decide +kernel,by decide +kernel⟩
def oA:En->Res Fl:=λenv=>(Aq (Bx (Bw (cc eZ (ag (av 8) (ag (dE 6 (vC (.int 0))) (ag (dE 6 (vC (.int 1))) (ag (av 7) (ag (av 5) aL)))))))) (g9 (vC (.bl false))) nZ) env
def vq:En->Res Fl:=λenv=>(g9 (EB "dict" (cc dL (ag (av 1) (ag (av 2) aL))))) env
def yt:En->Res Fl:=λenv=>
 (bB (Aq (Nj (vB (v2 FR (av 6) (pC (ag (av 1) (ag (av 4) aL))))) (vB (v2 FR (av 7) (av 3)))) (g9 (vC (.bl false))) nZ)
 vq) env
def yu:En->Res Fl:=λenv=>
 (bB (zw (HC (ag (vC (.int 3)) aL)) (gN 8) oA)
 yt) env
def yw:En->Res Fl:=λenv=>
 (bB (Aq (Bx (Bw (EB "dict" (cc dL (ag (av 1) (ag (av 2) aL)))))) (g9 (vC (.bl false))) nZ)
 yu) env
def yx:En->Res Fl:=λenv=>
 (bB (fq 7 (ko (ag (dE 3 (vC (.int 0))) (ag (ol kF (ag (dE 3 (vC (.int 1))) aL)) aL))))
 yw) env
def yy:En->Res Fl:=λenv=>
 (bB (ja 6 (cc gU (ag (av 1) (ag (av 4) aL))))
 yx) env
def yz:En->Res Fl:=λenv=>
 (bB (fq 5 (v2 Hu (v2 c9 (v2 jC (cc bu (ag (av 0) (ag (vC (.int 3)) aL))) (vC (.int 7))) (vC (.int 150))) (vC (.int 50))))
 yy) env
def yA:En->Res Fl:=λenv=>
 (bB (ja 4 (cc fF (ag (av 2) (ag (cc bu (ag (av 0) (ag (vC (.int 3)) aL))) (ag (dE 1 (vC (.int 0))) (ag (dE 1 (vC (.int 1))) aL))))))
 yz) env
def yB:En->Res Fl:=λenv=>
 (bB (ja 3 (cc b9 (ag (cc bu (ag (av 0) (ag (vC (.int 2)) aL))) (ag (dE 1 (vC (.int 0))) (ag (dE 1 (vC (.int 1))) aL)))))
 yA) env
def Gf:En->Res Fl:=
 (bB (pF (cc eS (ag (av 0) (ag (vC (.int 40)) aL))) (gT 2 (bn (gN 1) (bn (gN 2) fS))))
 yB)
def vt:List D->Res R:=hV Ge Gf
set_option genInjectivity false in
structure Tx(K:QY) (mg:Str->Option Q0) where
 f_a:Addr
 fd_a:FuncData
 h_a:Fn K mg "_law_seed_at" cz de f_a fd_a
 f_b:Addr
 fd_b:FuncData
 h_b:Fn K mg "_law_arrow_by" ce cL f_b fd_b
 f_c:Addr
 fd_c:FuncData
 h_c:Fn K mg "_law_machine_by" aX ck f_c fd_c
 f_d:Addr
 fd_d:FuncData
 h_d:Fn K mg "_law_rule_by" cA df f_d fd_d
 f_e:Addr
 fd_e:FuncData
 h_e:Fn K mg "_law_made_by" b7 dg f_e fd_e
 f_f:Addr
 fd_f:FuncData
 h_f:Fn K mg "_law_stack_by" cf cM f_f fd_f
 f_g:Addr
 fd_g:FuncData
 h_g:Fn K mg "_law_standing_by" bD b8 f_g fd_g
 f_h:Addr
 fd_h:FuncData
 h_h:Fn K mg "_law_spoilt" cO dJ f_h fd_h
 f_i:Addr
 fd_i:FuncData
 h_i:Fn K mg "_law_copy" d6 fL f_i fd_i
 f_j:Addr
 fd_j:FuncData
 h_j:Fn K mg "is_plain" dX gz f_j fd_j
 f_k:Addr
 fd_k:FuncData
 h_k:Fn K mg "refuse_unless_plain" bh bC f_k fd_k
 f_l:Addr
 fd_l:FuncData
 h_l:Fn K mg "rules_by_start" bX dt f_l fd_l
 f_m:Addr
 fd_m:FuncData
 h_m:Fn K mg "prices" ii jQ f_m fd_m
 f_n:Addr
 fd_n:FuncData
 h_n:Fn K mg "lowest_end" eV f9 f_n fd_n
 f_o:Addr
 fd_o:FuncData
 h_o:Fn K mg "sums_along" eY f_ f_o fd_o
 f_p:Addr
 fd_p:FuncData
 h_p:Fn K mg "least" kd mv f_p fd_p
 f_q:Addr
 fd_q:FuncData
 h_q:Fn K mg "rules_along" dM fG f_q fd_q
 f_r:Addr
 fd_r:FuncData
 h_r:Fn K mg "arrows_back" dN fH f_r fd_r
 f_s:Addr
 fd_s:FuncData
 lF:Tok
 h_s:Ov K mg "way" rY rZ (.int 60 lF) f_s fd_s
 f_t:Addr
 fd_t:FuncData
 h_t:Fn K mg "_law_refused" cB di f_t fd_t
 f_u:Addr
 fd_u:FuncData
 h_u:Fn K mg "law" r_ vp f_u fd_u
 qT:mg "ValueError"=none
 JE:mg "all"=none
 yI:mg "dict"=none
 d8:mg "divmod"=none
 mF:mg "enumerate"=none
 JB:mg "int"=none
 cT:mg "isinstance"=none
 qy:mg "len"=none
 i9:mg "list"=none
 Dj:mg "min"=none
 ik:mg "range"=none
 Dm:mg "set"=none
 nE:mg "sorted"=none
 Dk:mg "tuple"=none
 aN:Addr
 lD:XC K mg "NotPlain" aN
 cn:Addr
 vI:XC K mg "WalkError" cn
 gc:Addr
 yH:XC K mg "NoWay" gc
 dw:Addr
 sh:XC K mg "TooLong" dw
 vM:(sD K aN).contains (.ref aN)=true
 vK:vR K aN
 qw:kitOne K (.ref aN) (.ref cn)=some true
 qC:kitOne K (.ref aN) (.type "ValueError")=some true
 qq:kitOne K (.ref aN) (.ref gc)=some false
 qo:kitOne K (.ref aN) (.ref dw)=some false
 CQ:Addr
 kQ:t9 K CQ
 gQ:mg "Queue"=some (.ref CQ)
 CP:Addr
 kP:ku K CP
 gP:mg "Pricing"=some (.ref CP)
 f_v:Addr
 fd_v:FuncData
 h_v:Al K "__init__" "Queue.__init__" xk f_v fd_v
 N7:Binds K fd_v ["self"] []
 k_v:Mk K CQ f_v
 f_w:Addr
 fd_w:FuncData
 h_w:Mt K CQ "add" "Queue.add" z9 ["self","price","thing"] f_w fd_w
 f_x:Addr
 fd_x:FuncData
 h_x:Mt K CQ "is_empty" "Queue.is_empty" z_ ["self"] f_x fd_x
 f_y:Addr
 fd_y:FuncData
 h_y:Mt K CQ "take_lowest" "Queue.take_lowest" xm ["self"] f_y fd_y
 f_z:Addr
 fd_z:FuncData
 h_z:Al K "__init__" "Pricing.__init__" xn f_z fd_z
 Oa:Binds K fd_z ["self","house"] []
 k_z:Mk K CP f_z
 f_A:Addr
 fd_A:FuncData
 h_A:Mt K CP "offer" "Pricing.offer" Aa ["self","arrow","price","number","mid"] f_A fd_A
 f_B:Addr
 fd_B:FuncData
 h_B:Mt K CP "settle" "Pricing.settle" Ab ["self","arrow","price"] f_B fd_B
 f_C:Addr
 fd_C:FuncData
 h_C:Mt K CP "settle_first" "Pricing.settle_first" Ac ["self","number","rule","mid","price"] f_C fd_C
 f_D:Addr
 fd_D:FuncData
 h_D:Mt K CP "settle_all" "Pricing.settle_all" Ad ["self"] f_D fd_D
section
variable{P:QZ}{w:World}{K:QY}{mg:Str->Option Q0}{base:Heap}
def CZ(t:Tx K mg):Ci K mg t.aN "NotPlain" [.ref t.cn,.type "ValueError",.ref t.gc,.ref t.dw] [true,true,false,false]:=⟨t.aN,t.lD,t.vM,t.vK,by simp only[dz,Pk,t.qw,t.qC,t.qq,t.qo]⟩
def cN(t:Tx K mg):bA P w K mg base (j6 P w) 1 t.f_a t.fd_a de (lI mg 2 bu):=
 gM t.h_a.fu sc__law_seed_at λcdv A outer s H E hr=>
  have hu:=hr.units
  (ax (bG sc__law_seed_at.nd rfl (.inl rfl) az)
    (ax (g8 (eh (FP) (qv 1) (dc Hz (by rfl) t.qy (by decide +kernel) (ac (qv 0) ao)) (cp _)) (aO (bG sc__law_seed_at.nd rfl (.inl rfl) (wL (pv 0) (qv 1) (λ_ _=>rfl)))) dH)
    (aO (bQ (aD bc (aD gY (aD gY (aD db (aD bc (qv 2) az) az) az) az) az)))))
def nz(t:Tx K mg):bA P w K mg base (j6 P w) 1 t.f_b t.fd_b cL (lI mg 4 dP):=
 gM t.h_b.fu sc__law_arrow_by λcdv A outer s H E hr=>
  have hu:=hr.units
  (ax (bG sc__law_arrow_by.nd rfl (.inl rfl) (aD bc (aD gY (qv 0) az) az))
    (ax (f6 (dc d4 (by rfl) t.d8 (by decide +kernel) (ac (qv 4) (ac az ao))) (fZ rfl (be (aS sc__law_arrow_by.nd rfl (.inl rfl)) (be (aS sc__law_arrow_by.nd rfl (.inl rfl)) eF (λ_ a _ b=>aI a b)) (λ_ a _ b=>aI a b))))
    (ax (f6 (dc d4 (by rfl) t.d8 (by decide +kernel) (ac (qv 4) (ac az ao))) (fZ rfl (be (aS sc__law_arrow_by.nd rfl (.inl rfl)) (be (aS sc__law_arrow_by.nd rfl (.inl rfl)) eF (λ_ a _ b=>aI a b)) (λ_ a _ b=>aI a b))))
    (aO (bQ (eB (ac (aD bc (qv 5) (aD db (qv 1) (qv 2))) (ac (aD bc (qv 6) (qv 3)) (ac (aD db (qv 1) (aD bc (qv 4) (qv 2))) ao)))))))))
def lA(t:Tx K mg):bA P w K mg base (j6 P w) 2 t.f_c t.fd_c ck (lI mg 5 bv):=
 gM t.h_c.fu sc__law_machine_by λcdv A outer s H E hr=>
  have hu:=hr.units
  (ax (bG sc__law_machine_by.nd rfl (.inl rfl) (aD bc (aD dU (qv 0) az) az))
    (ax (g8 (eh (pB hu) (qv 5) az (cp _)) (ax (bG sc__law_machine_by.nd rfl (.inl rfl) (eB (ac (aD bc (aD dU (qv 0) az) (qv 2)) (ac (aD bc (aD dU (qv 0) az) (qv 4)) (ac (qv 2) ao)))))
    (aO (bQ (eB (ac (aD db (qv 2) az) (ac (dc wR (by rfl) t.nE (by decide +kernel) (ac (aD db (iH (ac (qv 6) ao)) (ya rfl (fg.of (osc:=af aX) (N:=cj) (tN:=["_law_sign"]) (capN:=["_law_rooms"]) (caps:=[2]) rfl rfl (by decide +kernel)) (gq (by rfl) t.ik (ac (qv 4) ao)) (by decide) (λcl C s3 H3 fp=>(aS jo rfl (.inl rfl))) (λcl C s3 H3 fp=>lZ) (λcl C s3 H3 fp=>(eB (ac (qv 1) (ac (qv 0) (ac (qv 1) ao))))))) ao)) (ac (iH (ac (qv 2) ao)) ao))))))) dH)
    (ax (g8 (eh (pB hu) (qv 5) az (cp _)) (aO (bQ (eB (ac (qv 2) (ac (iH ao) (ac (zE (by rfl) (by rfl) t.i9 (by decide +kernel) (by rfl) t.ik (ac (qv 2) ao)) ao)))))) dH)
    (ax (pG rfl (fg.of (osc:=af aX) (N:=cj) (tN:=["_law_one"]) (capN:=["_law_rooms","_law_own","_law_signs"]) (caps:=[2,3,4]) rfl rfl (by decide +kernel)) sc__law_machine_by.nd rfl rfl (sY (qv 1)) (by decide) (λcl C s3 H3 fp=>(aS jp rfl (.inl rfl))) (λcl C s3 H3 fp=>lZ) (λcl C s3 H3 fp=>(aT (nz t) (hr.mono (by decide)) (by rfl) t.h_b FX (ac (qv 0) (ac (qv 1) (ac (qv 2) (ac (qv 3) ao)))) (ah (ah (ah (ah aK)))))))
    (ax (pG rfl (fg.of (osc:=af aX) (N:=cj) (tN:=["_law_state"]) (capN:=["_law_cell"]) (caps:=[0]) rfl rfl (by decide +kernel)) sc__law_machine_by.nd rfl rfl (gq (by rfl) t.ik (ac (aD db (qv 2) (qv 3)) ao)) (by decide) (λcl C s3 H3 fp=>(aS jq rfl (.inl rfl))) (λcl C s3 H3 fp=>(BH (eh (pB hu) (aD EG (aD HK (aD bc (aD dU (qv 1) az) az) (qv 0)) az) az (cp _)))) (λcl C s3 H3 fp=>(qv 0)))
    (aO (bQ (eB (ac (aD db (qv 2) (qv 3)) (ac (l9 (by rfl) hu (qv 7) (by rfl) t.nE (by decide +kernel) (by rfl) t.Dm (by decide +kernel)) (ac (qv 8) ao)))))))))))
def n5(t:Tx K mg):bA P w K mg base (j6 P w) 1 t.f_d t.fd_d df (lI mg 3 eR):=
 gM t.h_d.fu sc__law_rule_by λcdv A outer s H E hr=>
  have hu:=hr.units
  (ax (bG sc__law_rule_by.nd rfl (.inl rfl) (aD bc (aD gY (qv 0) az) az))
    (ax (f6 (dc d4 (by rfl) t.d8 (by decide +kernel) (ac (qv 3) (ac az ao))) (fZ rfl (be (aS sc__law_rule_by.nd rfl (.inl rfl)) (be (aS sc__law_rule_by.nd rfl (.inl rfl)) eF (λ_ a _ b=>aI a b)) (λ_ a _ b=>aI a b))))
    (ax (f6 (dc d4 (by rfl) t.d8 (by decide +kernel) (ac (qv 3) (ac az ao))) (fZ rfl (be (aS sc__law_rule_by.nd rfl (.inl rfl)) (be (aS sc__law_rule_by.nd rfl (.inl rfl)) eF (λ_ a _ b=>aI a b)) (λ_ a _ b=>aI a b))))
    (ax (f6 (dc d4 (by rfl) t.d8 (by decide +kernel) (ac (qv 3) (ac az ao))) (fZ rfl (be (aS sc__law_rule_by.nd rfl (.inl rfl)) (be (aS sc__law_rule_by.nd rfl (.inl rfl)) eF (λ_ a _ b=>aI a b)) (λ_ a _ b=>aI a b))))
    (ax (f6 (dc d4 (by rfl) t.d8 (by decide +kernel) (ac (qv 3) (ac az ao))) (fZ rfl (be (aS sc__law_rule_by.nd rfl (.inl rfl)) (be (aS sc__law_rule_by.nd rfl (.inl rfl)) eF (λ_ a _ b=>aI a b)) (λ_ a _ b=>aI a b))))
    (ax (f6 (dc d4 (by rfl) t.d8 (by decide +kernel) (ac (qv 3) (ac az ao))) (fZ rfl (be (aS sc__law_rule_by.nd rfl (.inl rfl)) (be (aS sc__law_rule_by.nd rfl (.inl rfl)) eF (λ_ a _ b=>aI a b)) (λ_ a _ b=>aI a b))))
    (ax (bG sc__law_rule_by.nd rfl (.inl rfl) (iH (ac (aD bc (qv 8) (qv 2)) (ac (aD bc (qv 3) (qv 2)) ao))))
    (aO (bQ (eB (ac (aD bc (qv 5) (qv 1)) (ac (aD bc (qv 6) (qv 2)) (ac (aD bc (qv 7) (qv 1)) (ac (dZ BO (by rfl) t.Dk (by decide +kernel) (ac (pJ (qv 9) BJ (jG (qv 4))) ao)) ao))))))))))))))
def n8(t:Tx K mg):bA P w K mg base (j6 P w) 3 t.f_e t.fd_e dg (lI mg 2 eS):=
 gM t.h_e.fu sc__law_made_by λcdv A outer s H E hr=>
  have hu:=hr.units
  (ax (dI sc__law_made_by.nd rfl (.inl rfl) (aT (cN t) (hr.mono (by decide)) (by rfl) t.h_a bo (ac (qv 0) (ac az ao)) (ah (ah aK))))
    (ax (dI sc__law_made_by.nd rfl (.inl rfl) (aT (cN t) (hr.mono (by decide)) (by rfl) t.h_a bo (ac (qv 0) (ac az ao)) (ah (ah aK))))
    (ax (bG sc__law_made_by.nd rfl (.inr rfl) (aD db az (aD bc (qv 2) az)))
    (ax (bG sc__law_made_by.nd rfl (.inr rfl) (aD db az (aD bc (aD dU (qv 2) az) az)))
    (ax (bG sc__law_made_by.nd rfl (.inl rfl) (aD bc (aD dU (qv 2) az) az))
    (ax (bG sc__law_made_by.nd rfl (.inl rfl) (aD gY (aD bc (qv 3) az) (dZ HG (by rfl) t.JB (by decide +kernel) (ac (wJ (FQ) (qv 6) az (cp _)) ao))))
    (ax (dI sc__law_made_by.nd rfl (.inl rfl) (aT (lA t) (hr.mono (by decide)) (by rfl) t.h_c bo (ac (qv 3) (ac (pJ (qv 0) (jG az) (jG (aD db az (qv 7)))) (ac (qv 4) (ac (qv 6) (ac (qv 5) ao))))) (ah (ah (ah (ah (ah aK)))))))
    (ax (pG rfl (fg.of (osc:=af b7) (N:=gx) (tN:=["_law_cell"]) (capN:=["_law_rooms","_law_signs"]) (caps:=[4,5]) rfl rfl (by decide +kernel)) sc__law_made_by.nd rfl rfl (sY (pJ (qv 0) (jG (aD db az (qv 7))) (jG (aD db (aD db az (qv 7)) (qv 1))))) (by decide) (λcl C s3 H3 fp=>(aS lu rfl (.inl rfl))) (λcl C s3 H3 fp=>lZ) (λcl C s3 H3 fp=>(aT (n5 t) (hr.mono (by decide)) (by rfl) t.h_d FX (ac (qv 0) (ac (qv 1) (ac (qv 2) ao))) (ah (ah (ah aK))))))
    (aO (bQ (eB (ac (eB (ac (qv 4) (ac (qv 5) (ac (qv 9) ao)))) (ac (qv 8) ao)))))))))))))
def nA(t:Tx K mg):bA P w K mg base (j6 P w) 1 t.f_f t.fd_f cM (lI mg 3 dQ):=
 gM t.h_f.fu sc__law_stack_by λcdv A outer s H E hr=>
  have hu:=hr.units
  (ax (bG sc__law_stack_by.nd rfl (.inl rfl) (iH ao))
    (ax (bG sc__law_stack_by.nd rfl (.inl rfl) (aD gY (aD bc (qv 0) (aD BS az az)) (aD BS az az)))
    (ax (sZ AY rfl (gq (by rfl) t.ik (ac (qv 1) ao)) (aS sc__law_stack_by.nd rfl (.inl rfl)) (ax (f6 (dc d4 (by rfl) t.d8 (by decide +kernel) (ac (qv 4) (ac (qv 2) ao))) (fZ rfl (be (aS sc__law_stack_by.nd rfl (.inl rfl)) (be (aS sc__law_stack_by.nd rfl (.inl rfl)) eF (λ_ a _ b=>aI a b)) (λ_ a _ b=>aI a b))))
    (aO (x8 (pv 3) (aD bc (aD db (qv 6) (aD gY (aD gY (qv 5) (qv 5)) (aD dU (qv 1) az))) (qv 2))))))
    (aO (bQ (qv 3))))))
def kq(t:Tx K mg):bA P w K mg base (j6 P w) 2 t.f_g t.fd_g b8 (lI mg 3 b9):=
 gM t.h_g.fu sc__law_standing_by λcdv A outer s H E hr=>
  have hu:=hr.units
  (ax (bG sc__law_standing_by.nd rfl (.inl rfl) (aD bc (aD dU (qv 0) az) az))
    (ax (g8 (eh (pB hu) (aD bc (aD dU (qv 0) az) az) az (cp _)) (aO (bG sc__law_standing_by.nd rfl (.inl rfl) (aD db az (aD bc (aD dU (qv 0) az) az)))) dH)
    (aO (bQ (eB (ac (aD bc (aD bc (qv 0) az) (qv 1)) (ac (aT (nA t) (hr.mono (by decide)) (by rfl) t.h_f bo (ac (aD dU (qv 0) az) (ac (qv 3) (ac (qv 2) ao))) (ah (ah (ah aK)))) ao)))))))
def p8(t:Tx K mg):bA P w K mg base (j6 P w) 1 t.f_h t.fd_h dJ (lI mg 4 fF):=
 gM t.h_h.fu sc__law_spoilt λcdv A outer s H E hr=>
  have hu:=hr.units
  (ax (bG sc__law_spoilt.nd rfl (.inl rfl) (dZ j7 (by rfl) t.i9 (by decide +kernel) (ac (bR (pv 0)) ao)))
    (ax (sZ AY rfl (gq (by rfl) t.ik (ac (aD db az (aD bc (qv 1) az)) ao)) (aS sc__law_spoilt.nd rfl (.inl rfl)) (ax (bG sc__law_spoilt.nd rfl (.inl rfl) (aD bc (aD gY (aD dU (qv 1) az) (aD db az (aD gY az (qv 5)))) az))
    (ax (bG sc__law_spoilt.nd rfl (.inl rfl) (aD bc (aD bc (qv 6) az) (bR (pv 0))))
    (aO (x8 (pv 4) (eB (ac (qv 7) (ac (aD bc (aD dU (qv 6) az) (qv 3)) (ac (aD bc (aD dU (qv 6) az) (qv 2)) ao)))))))))
    (aO (bQ (eB (ac (bR (pv 0)) (ac (l9 (by rfl) hu (qv 4) (by rfl) t.nE (by decide +kernel) (by rfl) t.Dm (by decide +kernel)) (ac (dZ j7 (by rfl) t.i9 (by decide +kernel) (ac (bR (pv 0)) ao)) ao))))))))
def tX(t:Tx K mg):bA P w K mg base (j6 P w) 1 t.f_i t.fd_i fL (lI mg 2 gU):=
 gM t.h_i.fu tW λcdv A outer s H E hr=>
  have hu:=hr.units
  (aO (bQ (iH (ac (eB (ac (bR (pv 0)) (ac (bR (pv 0)) (ac (dZ j7 (by rfl) t.i9 (by decide +kernel) (ac (bR (pv 0)) ao)) ao)))) (ac (Kw (bR (pv 1)) (dZ j7 (by rfl) t.i9 (by decide +kernel) (ac (bR (pv 1)) ao)) (dZ j7 (by rfl) t.i9 (by decide +kernel) (ac (bR (pv 1)) ao))) ao)))))
def vw(t:Tx K mg):bA P w K mg base (j6 P w) 1 t.f_j t.fd_j gz (lI mg 2 fC):=
 gM t.h_j.fu vo λcdv A outer s H E hr=>
  have hu:=hr.units
  (aO (bQ (dc (HD (by rfl)) (by rfl) t.JE (by decide +kernel) (ac (ya rfl (fg.of (osc:=af dX) (N:=lw) (tN:=["arrow"]) (capN:=["house"]) (caps:=[0]) rfl rfl (by decide +kernel)) (sY (bR (pv 1))) (by decide) (λcl C s3 H3 fp=>(aS pY rfl (.inl rfl))) (λcl C s3 H3 fp=>lZ) (λcl C s3 H3 fp=>(wJ (Kh) (bR (pv 0)) (bR (pv 1)) (cp _)))) ao))))
def iX(t:Tx K mg):bA P w K mg base (j6 P w) 2 t.f_k t.fd_k bC (lI mg 2 aW):=
 gM t.h_k.fu iU λcdv A outer s H E hr=>
  have hu:=hr.units
  (aO (g8 (sS (wK (aT (vw t) (hr.mono (by decide)) (by rfl) t.h_j bo (ac (qv 0) (ac (qv 1) ao)) (ah (ah aK))))) (aO (m5 t.lD (by rfl) (ac wI ao))) dH))
def L9(t:Tx K mg):bA P w K mg base yY 1 t.f_v t.fd_v ["self"] (mH t.CQ):=t.h_v.ok L5 (λ_ _ _ _ h=>u7 h) λcdv A outer s H vs Q E hr h=>⟨_,ba (jt (pv 0) aP rfl) (a_ (jt (pv 0) AV rfl)),w6 t.kQ h⟩
def Gg(t:Tx K mg):bA P w K mg base yY 1 t.f_w t.fd_w ["self","price","thing"] (sj t.CQ):=
 t.h_w.fu.ok L6 (λ_ _ _ _ h=>zP h) λcdv A outer s H vs Q E hr h=>
  ⟨_,a_ (cv (lN N8 JI KE gf (lN nV qz OZ D7 (cU (pv 0) rfl)
    (ai (AO PySem.F.plainAttrs_int PySem.F.slot_int_bit_length PySem.F.type_int_bit_length ER (oJ GU (pv 1) (cU (pv 0) rfl))) (ai (iE aG) aG))) (ai (d9 (ai (pv 1) (ai (pv 2) aG))) aG))),BZ t.kQ h rfl⟩
def L_(t:Tx K mg):bA P w K mg base yY 1 t.f_x t.fd_x ["self"] (mG t.CQ):=t.h_x.fu.ok L7 (λ_ _ _ _ h=>u9 h) λcdv A outer s H vs Q E hr h=>⟨_,a_ (oG (xH xG (dG zR (by rfl) t.qy QI (ai (cU (pv 0) rfl) aG)) aP (cp _))),w8 t.kQ h⟩
def vx(t:Tx K mg):bA P w K mg base yY 2 t.f_A t.fd_A ["self","arrow","price","number","mid"] (fI t.CP t.CQ):=
 t.h_A.fu.ok sc_PO (λ_ _ _ _ h=>u_ h) λcdv A outer s H vs Q E hr h=>
  ⟨_,ba (iz (i:=5) sc_PO.nd rfl (Or.inl rfl) (AW (ri hr) (cU (pv 0) rfl) (pv 1) ⟨rfl,rfl,rfl,rfl⟩))
    (a_ (qX (PW.pt (FC (iD H_ (pv 5) mQ (cp _)) (Az (iD FD (pv 2) (bZ ix_tup (pv 5) aP (λ_ _=>rfl)) (cp _)))))
      (ba (DZ (ri hr) (cU (pv 0) rfl) (pv 1) (d9 (ai (pv 2) (ai (pv 3) (ai (pv 4) aG)))) rfl)
        (a_ (cv (fW (cU (pv 0) rfl) t.kQ.cl t.h_w.me (Gg t) hr t.h_w.bi .nil gk (ai (pv 2) (ai (pv 1) aG))))))
      lL)),xa t.kP t.kQ h⟩
def C1:((["price","thing"]:List Str)++([]:List Str)).Nodup:=by decide +kernel
def Mb(t:Tx K mg):bA P w K mg base yY 2 t.f_y t.fd_y ["self"] (qp t.CQ):=
 t.h_y.fu.ok sc_QT (λ_ _ _ _ h=>w_ h) λcdv A outer s H vs Q E hr h=>
  ⟨_,ba (iz (i:=1) sc_QT.nd rfl (Or.inl rfl) (uA (cU (pv 0) rfl) (dG (zQ rfl) (by rfl) t.Dj (by decide +kernel) (ai (AO nV PySem.F.slot_dict_keys PySem.F.type_dict_keys ES (cU (pv 0) rfl)) aG)) ⟨rfl,rfl,rfl,rfl⟩))
    (ba (jt (pv 0) (dG (zX rfl) (by rfl) t.Dj (by decide +kernel) (ai (Cf (tN:=["price","thing"]) (capN:=[]) (caps:=[]) rfl (fg.of (osc:=af xm) (N:=["self","pile","price","thing"]) rfl rfl (by decide +kernel)) (iA (pv 1))) aG)) rfl)
    (ba (iC Pi rfl (iA (pv 1)) (iu rfl (aI (bP (i:=2) sc_QT.nd rfl (Or.inl rfl)) (aI (bP (i:=3) sc_QT.nd rfl (Or.inl rfl)) fV)))
      (a_ (cv (fW (pv 0) t.kQ.cl t.h_w.me (Gg t) hr t.h_w.bi .nil gk (ai (pv 2) (ai (pv 3) aG))))))
    (a_ (oG (uA (cU (pv 0) rfl) aP ⟨rfl,rfl,rfl,rfl⟩))))),
    zS t.kQ (λ_ _=>rfl) (zY rfl (λ_ _ _ _ _=>iu rfl (aI (bP (i:=0) C1 rfl (Or.inl rfl)) (aI (bP (i:=1) C1 rfl (Or.inl rfl)) fV))) λ_ _ _ _ _=>pv 0) h⟩
def Md(t:Tx K mg):bA P w K mg base yY 3 t.f_C t.fd_C ["self","number","rule","mid","price"] (mM t.CP t.CQ):=
 t.h_C.fu.ok sc_PF (λ_ _ _ _ h=>vd h) λcdv A outer s H vs Q E hr h=>
  ⟨_,ba (iz (i:=5) sc_PF.nd rfl (Or.inl rfl) (d9 (ai (pv 3) (ai (bZ ix_tup (bZ ix_tup (pv 2) aP (λ_ _=>rfl)) aP (λ_ _=>rfl)) aG))))
    (ba (cv (lN N8 JI KE gf (lN nV qz OZ (pd hr.units) (cU (pv 0) rfl) (ai (pv 5) (ai (iE aG) aG))) (ai (d9 (ai (pv 1) (ai (pv 2) (ai (pv 4) aG)))) aG)))
    (a_ (iC Pi rfl (iA (oU (ri hr) (cU (pv 0) rfl) (pv 5) (iE aG) ⟨rfl,rfl,rfl,rfl⟩)) (iu rfl (aI (bP (i:=6) sc_PF.nd rfl (Or.inl rfl)) (aI (bP (i:=7) sc_PF.nd rfl (Or.inl rfl)) fV)))
      (a_ (cv (fW (pv 0) t.kP.cl t.h_A.me (vx t) hr t.h_A.bi .nil gk (ai (d9 (ai (bZ ix_tup (pv 2) aP (λ_ _=>rfl)) (ai (bZ ix_tup (pv 2) aP (λ_ _=>rfl)) (ai (pv 6) aG))))
        (ai (oJ op_add (oJ op_add (pv 4) (pv 7)) aP) (ai (pv 1) (ai (pv 3) aG)))))))))),xb t.kP h⟩
def Me(t:Tx K mg):bA P w K mg base yY 4 t.f_B t.fd_B ["self","arrow","price"] (jZ t.CP t.CQ):=
 t.h_B.fu.ok sc_PS (λ_ _ _ _ h=>tS h) λcdv A outer s H vs Q E hr h=>
  have hr2:dj 2 _:=hr.mono (by decide)
  ⟨_,ba (iz (i:=3) sc_PS.nd rfl (Or.inl rfl) (d9 (ai (bZ ix_tup (pv 1) aP (λ_ _=>rfl)) (ai (bZ ix_tup (pv 1) aP (λ_ _=>rfl)) aG))))
    (ba (cv (lN N8 JI KE gf (lN nV qz OZ (pd hr.units) (cU (pv 0) rfl) (ai (pv 3) (ai (iE aG) aG))) (ai (d9 (ai (bZ ix_tup (pv 1) aP (λ_ _=>rfl)) (ai (pv 2) aG))) aG)))
    (ba (iC Pi rfl (iA (oU (ri hr) (cU (pv 0) rfl) (pv 3) (iE aG) ⟨rfl,rfl,rfl,rfl⟩)) (iu rfl (aI (bP (i:=4) sc_PS.nd rfl (Or.inl rfl)) (aI (bP (i:=5) sc_PS.nd rfl (Or.inl rfl)) (aI (bP (i:=6) sc_PS.nd rfl (Or.inl rfl)) fV))))
      (a_ (cv (fW (pv 0) t.kP.cl t.h_A.me (vx t) hr2 t.h_A.bi .nil gk (ai (d9 (ai (bZ ix_tup (pv 5) aP (λ_ _=>rfl)) (ai (bZ ix_tup (pv 5) aP (λ_ _=>rfl)) (ai (bZ ix_tup (pv 1) aP (λ_ _=>rfl)) aG))))
        (ai (oJ op_add (oJ op_add (pv 6) (pv 2)) aP) (ai (pv 4) (ai (bZ ix_tup (pv 1) aP (λ_ _=>rfl)) aG))))))))
    (a_ (iC Pi rfl (iA (oU (ri hr) (cU (pv 0) rfl) (pv 3) (iE aG) ⟨rfl,rfl,rfl,rfl⟩)) (iu rfl (aI (bP (i:=4) sc_PS.nd rfl (Or.inl rfl)) (aI (bP (i:=5) sc_PS.nd rfl (Or.inl rfl)) fV)))
      (a_ (qX (iD xG (dG nh (by rfl) t.qy QI (ai (bZ ix_tup (pv 5) aP (λ_ _=>rfl)) aG)) aP (cp _))
        (a_ (cv (fW (pv 0) t.kP.cl t.h_A.me (vx t) hr2 t.h_A.bi .nil gk (ai (d9 (ai (bZ ix_tup (pv 5) aP (λ_ _=>rfl)) (ai (bZ ix_tup (pv 5) aP (λ_ _=>rfl)) (ai (bZ ix_tup (pv 1) aP (λ_ _=>rfl)) aG))))
          (ai (oJ op_add (pv 2) aP) (ai (pv 4) (ai mQ aG)))))))
        (a_ (cv (fW (pv 0) t.kP.cl t.h_C.me (Md t) hr t.h_C.bi .nil gk (ai (pv 4) (ai (pv 5) (ai (bZ ix_tup (pv 1) aP (λ_ _=>rfl)) (ai (pv 2) aG))))))))))))),vf t.kP h⟩
def Mf(t:Tx K mg):bA P w K mg base yY 5 t.f_D t.fd_D ["self"] (vH t.CP t.CQ):=
 t.h_D.fu.ok sc_PA (λ_ _ _ _ h=>zT h) λcdv A outer s H vs Q E hr h=>
  ⟨_,a_ (AD Pi (AA (GJ (oN (cU (pv 0) rfl) t.kQ.cl t.h_x.me (L_ t) (hr.mono (by decide)) t.h_x.bi .nil gk)))
    (a_ (iC Pi rfl (iA (oN (cU (pv 0) rfl) t.kQ.cl t.h_y.me (Mb t) (hr.mono (by decide)) t.h_y.bi .nil gk)) (iu rfl (aI (bP (i:=1) sc_PA.nd rfl (Or.inl rfl)) (aI (bP (i:=2) sc_PA.nd rfl (Or.inl rfl)) fV)))
      (a_ (qX (iD xG (bZ ix_tup (DY (ri hr) (cU (pv 0) rfl) (pv 2) (λ_ _=>rfl)) aP (λ_ _=>rfl)) (pv 1) (cp _))
        (a_ (cv (fW (pv 0) t.kP.cl t.h_B.me (Me t) hr t.h_B.bi .nil gk (ai (pv 2) (ai (pv 1) aG))))) lL))))),B_ t.kP h⟩
def mB(t:Tx K mg):bA P w K mg base yY 1 t.f_l t.fd_l ["house"] Dq:=
 t.h_l.fu.ok sc_rules_by_start (λ_ _ _ _ h=>Ca h) λcdv A outer s H vs Q E hr h=>
  ⟨_,ba (iz (i:=1) sc_rules_by_start.nd rfl (Or.inl rfl) lR)
    (ba (iC Pi rfl (yd rfl t.mF (ai (bZ ix_tup (pv 0) aP (λ_ _=>rfl)) aG)) (iu rfl (aI (bP (i:=2) sc_rules_by_start.nd rfl (Or.inl rfl)) (aI (bP (i:=3) sc_rules_by_start.nd rfl (Or.inl rfl)) fV)))
      (a_ (qX (iD FE (dG nh (by rfl) t.qy QI (ai (bZ ix_tup (pv 3) aP (λ_ _=>rfl)) aG)) aP (cp _))
        (a_ (cv (lN N8 JI KE gf (lN nV qz OZ (pd hr.units) (pv 1)
          (ai (d9 (ai (bZ ix_tup (pv 3) aP (λ_ _=>rfl)) (ai (bZ ix_tup (bZ ix_tup (pv 3) aP (λ_ _=>rfl)) aP (λ_ _=>rfl)) aG))) (ai (iE aG) aG))) (ai (d9 (ai (pv 2) (ai (pv 3) aG))) aG)))) lL)))
    (a_ (oG (pv 1)))),E2 h⟩
def Mg(t:Tx K mg):bA P w K mg base yY 3 t.f_z t.fd_z ["self","house"] (mE t.CP t.CQ):=
 t.h_z.ok L8 (λ_ _ _ _ h=>vg h) λcdv A outer s H vs Q E hr h=>
  ⟨_,ba (jt (pv 0) (ss (mB t) (hr.mono (by decide)) rfl t.h_l.gl t.h_l.fu.kp t.h_l.bi .nil gk (ai (pv 1) aG)) rfl)
    (ba (jt (pv 0) lR rfl) (ba (jt (pv 0) (AJ t.k_v (L9 t) hr rfl t.gQ t.N7 .nil gk) rfl) (ba (jt (pv 0) lR rfl) (a_ (jt (pv 0) lR rfl))))),xf t.kP h⟩
def ij(t:Tx K mg):bA P w K mg base (j6 P w) 6 t.f_m t.fd_m jQ (lI mg 2 dL):=
 K4 t.h_m.fu sc_prices (λ_ _ _ _ h=>h.1) λcdv A outer s H vs Q E hr h=>
  have hr2:dj 2 _:=hr.mono (by decide)
  ⟨_,ba (cv (ss (iX t) (hr.mono (by decide)) rfl t.h_k.gl t.h_k.fu.kp t.h_k.bi .nil bo (ai (pv 0) (ai (pv 1) aG))))
    (ba (iz (i:=2) sc_prices.nd rfl (Or.inl rfl) (DQ t.k_z (Mg t) (hr.mono (by decide)) rfl t.gP t.Oa .nil gk (ai (pv 0) aG)))
    (ba (iC AY rfl (iA (bZ ix_tup (pv 1) aP (λ_ _=>rfl))) (bP (i:=3) sc_prices.nd rfl (Or.inl rfl)) (a_ (cv (fW (pv 2) t.kP.cl t.h_A.me (vx t) hr2 t.h_A.bi .nil gk (ai (pv 3) (ai aP (ai mQ (ai mQ aG))))))))
    (ba (iC AY rfl (yd rfl t.mF (ai (bZ ix_tup (pv 0) aP (λ_ _=>rfl)) aG)) (iu rfl (aI (bP (i:=4) sc_prices.nd rfl (Or.inl rfl)) (aI (bP (i:=5) sc_prices.nd rfl (Or.inl rfl)) fV)))
      (a_ (qX (iD xG (dG nh (by rfl) t.qy QI (ai (bZ ix_tup (pv 5) aP (λ_ _=>rfl)) aG)) aP (cp _))
        (a_ (cv (fW (pv 2) t.kP.cl t.h_A.me (vx t) hr2 t.h_A.bi .nil gk (ai (d9 (ai (bZ ix_tup (pv 5) aP (λ_ _=>rfl)) (ai (bZ ix_tup (pv 5) aP (λ_ _=>rfl)) (ai (bZ ix_tup (pv 5) aP (λ_ _=>rfl)) aG))))
          (ai aP (ai (pv 4) (ai mQ aG))))))) lL)))
    (ba (cv (oN (pv 2) t.kP.cl t.h_D.me (Mf t) hr t.h_D.bi .nil gk))
    (a_ (oG (cU (pv 2) rfl))))))),vi t.kP h⟩
def kN(t:Tx K mg):bA P w K mg base (j6 P w) 1 t.f_n t.fd_n f9 (lI mg 2 iV):=mj
def kR(t:Tx K mg):bA P w K mg base (j6 P w) 1 t.f_o t.fd_o f_ (lI mg 2 iW):=mj
def C2(t:Tx K mg):bA P w K mg base (j6 P w) 7 t.f_p t.fd_p mv (lI mg 3 mw):=
 gM t.h_p.fu sc_least λcdv A outer s H E hr=>
  have hu:=hr.units
  (ax (dI sc_least.nd rfl (.inl rfl) (aT (kN t) (hr.mono (by decide)) (by rfl) t.h_n bo (ac (qv 1) (ac (Kk (aT (kR t) (hr.mono (by decide)) (by rfl) t.h_o bo (ac (aT (ij t) (hr.mono (by decide)) (by rfl) t.h_m bo (ac (qv 0) (ac (qv 1) ao)) (ah (ah aK))) (ac (qv 2) ao)) (ah (ah aK))) (BM az) (λ_ _=>rfl)) ao)) (ah (ah aK))))
    (aO (bQ (Kj (ye (qv 3)) Hr (bR (pv 3))))))
def p9(t:Tx K mg):bA P w K mg base (j6 P w) 1 t.f_q t.fd_q fG (lI mg 3 kK):=mj
def p_(t:Tx K mg):bA P w K mg base (j6 P w) 1 t.f_r t.fd_r fH (lI mg 2 kM):=mj
def C3(t:Tx K mg):bA P w K mg base (j6 P w) 7 t.f_s t.fd_s rZ (lI mg 4 pZ):=
 K7 t.h_s.fu sc_way λcdv A outer s H E hr=>
  have hu:=hr.units
  (ax (dI sc_way.nd rfl (.inl rfl) (aT (ij t) (hr.mono (by decide)) (by rfl) t.h_m bo (ac (qv 0) (ac (qv 1) ao)) (ah (ah aK))))
    (ax (dI sc_way.nd rfl (.inl rfl) (aT (kR t) (hr.mono (by decide)) (by rfl) t.h_o bo (ac (qv 4) (ac (qv 2) ao)) (ah (ah aK))))
    (ax (dI sc_way.nd rfl (.inl rfl) (aT (kN t) (hr.mono (by decide)) (by rfl) t.h_n bo (ac (qv 1) (ac (wL (pv 5) (BM az) (λ_ _=>rfl)) ao)) (ah (ah aK))))
    (ax (g8 (ye (qv 6)) (aO (m5 t.yH (by rfl) (ac wI ao))) dH)
    (ax (g8 (eh (FQ) (bR (pv 6)) (qv 3) (cp _)) (aO (m5 t.sh (by rfl) (ac wI ao))) dH)
    (aO (bQ (aT (p9 t) (hr.mono (by decide)) (by rfl) t.h_q bo (ac (qv 0) (ac (qv 4) (ac (aT (p_ t) (hr.mono (by decide)) (by rfl) t.h_r bo (ac (qv 5) (ac (bR (pv 6)) ao)) (ah (ah aK))) ao))) (ah (ah (ah aK)))))))))))
def n9(t:Tx K mg):bA P w K mg base (j6 P w) 8 t.f_t t.fd_t di (lI mg 5 eZ):=
 gM t.h_t.fu sc__law_refused λcdv A outer s H E hr=>
  have hu:=hr.units
  (ax (bG sc__law_refused.nd rfl (.inl rfl) (iH ao))
    (ax (Ck sc__law_refused.nd rfl rfl rfl (by decide) (.inl rfl) rfl rfl t.lD (by rfl) (CZ t) (by decide) (xh (eh (pB hu) (qv 0) az (cp _)) (mf (dd:=[]) (dvs:=[]) (ij t) (hr.mono (by decide)) (by rfl) t.h_m.gl t.h_m.fu.kp t.h_m.bi .nil (λ_ _=>rfl) (ac (qv 1) (ac (qv 2) ao)) (λenv rs e=>by rw[(ah (ah aK)) env rs e];rfl)) (xh (eh (pB hu) (qv 0) az (cp _)) (mf (dd:=[]) (dvs:=[]) (C2 t) (hr.mono (by decide)) (by rfl) t.h_p.gl t.h_p.fu.kp t.h_p.bi .nil (λ_ _=>rfl) (ac (qv 1) (ac (qv 2) (ac (qv 3) ao))) (λenv rs e=>by rw[(ah (ah (ah aK))) env rs e];rfl)) (xh (eh (FP) (qv 4) az (cp _)) (mf (dd:=[.int 60]) (dvs:=[.int 60]) (C3 t) (hr.mono (by decide)) (by rfl) t.h_s.gl t.h_s.fu.kp t.h_s.bd (.cons ⟨_,rfl⟩ .nil) (λ_ _=>⟨_,_,rfl,rfl,rfl⟩) (ac (qv 1) (ac (qv 2) (ac (qv 3) ao))) (λenv rs e=>by rw[(ah (ah (ah aK))) env rs e];rfl)) (mf (dd:=[]) (dvs:=[]) (C3 t) (hr.mono (by decide)) (by rfl) t.h_s.gl t.h_s.fu.kp t.h_s.bi .nil (λ_ _=>rfl) (ac (qv 1) (ac (qv 2) (ac (qv 3) (ac (qv 4) ao)))) (λenv rs e=>by rw[(ah (ah (ah (ah aK)))) env rs e];rfl))))) (λC x o hco Z q=>by simp only[dz,Pk,List.cons.injEq]at q;exact(md Z rfl rfl (by rfl) t.cT hco (sq (by rfl) t.vI.gl (v:=.ref t.cn) rfl) (λu z=>z) q.1 (md Z rfl rfl (by rfl) t.cT hco (xE (by rfl) t.qT (by decide +kernel) (v:=.ty "ValueError") rfl (by decide)) (λu z=>z) q.2.1 (md Z rfl rfl (by rfl) t.cT hco (sq (by rfl) t.yH.gl (v:=.ref t.gc) rfl) (λu z=>z) q.2.2.1 (md Z rfl rfl (by rfl) t.cT hco (sq (by rfl) t.sh.gl (v:=.ref t.dw) rfl) (λu z=>z) q.2.2.2.1 E5))))))
    (aO (bQ (wJ (pB hu) (qv 5) (iH (ac pz (ac pz (ac pz (ac pz ao))))) (cp _))))))
def Ji(t:Tx K mg):bA P w K mg base (j6 P w) 9 t.f_u t.fd_u vp (lI mg 1 vt):=
 gM t.h_u.fu sc_law λcdv A outer s H E hr=>
  have hu:=hr.units
  (ax (f6 (aT (n8 t) (hr.mono (by decide)) (by rfl) t.h_e bo (ac (qv 0) (ac az ao)) (ah (ah aK))) (fZ rfl (be (aS sc_law.nd rfl (.inl rfl)) (be (aS sc_law.nd rfl (.inl rfl)) eF (λ_ a _ b=>aI a b)) (λ_ a _ b=>aI a b))))
    (ax (dI sc_law.nd rfl (.inl rfl) (aT (kq t) (hr.mono (by decide)) (by rfl) t.h_g bo (ac (aT (cN t) (hr.mono (by decide)) (by rfl) t.h_a bo (ac (qv 0) (ac az ao)) (ah (ah aK))) (ac (bR (pv 1)) (ac (bR (pv 1)) ao))) (ah (ah (ah aK)))))
    (ax (dI sc_law.nd rfl (.inl rfl) (aT (p8 t) (hr.mono (by decide)) (by rfl) t.h_h bo (ac (qv 2) (ac (aT (cN t) (hr.mono (by decide)) (by rfl) t.h_a bo (ac (qv 0) (ac az ao)) (ah (ah aK))) (ac (bR (pv 1)) (ac (bR (pv 1)) ao)))) (ah (ah (ah (ah aK))))))
    (ax (bG sc_law.nd rfl (.inl rfl) (aD Hv (aD bc (aD dU (aT (cN t) (hr.mono (by decide)) (by rfl) t.h_a bo (ac (qv 0) (ac az ao)) (ah (ah aK))) az) az) az))
    (ax (dI sc_law.nd rfl (.inl rfl) (aT (tX t) (hr.mono (by decide)) (by rfl) t.h_i bo (ac (qv 1) (ac (qv 4) ao)) (ah (ah aK))))
    (ax (bG sc_law.nd rfl (.inl rfl) (eB (ac (bR (pv 3)) (ac (dZ j7 (by rfl) t.i9 (by decide +kernel) (ac (bR (pv 3)) ao)) ao))))
    (ax (g8 (sS (wK (BL rJ (by rfl) t.cT (by rfl) t.yI (by decide +kernel) (aT (ij t) (hr.mono (by decide)) (by rfl) t.h_m bo (ac (qv 1) (ac (qv 2) ao)) (ah (ah aK)))))) (aO (bQ pz)) dH)
    (ax (sZ AY rfl (gq (by rfl) t.ik (ac az ao)) (aS sc_law.nd rfl (.inl rfl)) (aO (g8 (sS (wK (aT (n9 t) (hr.mono (by decide)) (by rfl) t.h_t bo (ac (qv 8) (ac (bR (pv 6)) (ac (bR (pv 6)) (ac (qv 7) (ac (qv 5) ao))))) (ah (ah (ah (ah (ah aK)))))))) (aO (bQ pz)) dH)))
    (ax (g8 (PWD.pt (Hy (eh (FS hu) (qv 6) (iH (ac (qv 1) (ac (qv 4) ao))) (cp _)) (Er (eh (FS hu) (qv 7) (qv 3) (cp _))))) (aO (bQ pz)) dH)
    (aO (bQ (BL rJ (by rfl) t.cT (by rfl) t.yI (by decide +kernel) (aT (ij t) (hr.mono (by decide)) (by rfl) t.h_m bo (ac (qv 1) (ac (qv 2) ao)) (ah (ah aK)))))))))))))))
end
def NV{Q:List Q0->Prop}{us:List Q0}(hl:us.length=0)(h:Q []):Q us:=by
 cases us with
 |nil=>exact h
 |cons a r=>cases hl
def C4{Q:List Q0->Prop}{us:List Q0}{n:Nat}(hl:us.length=n+1)(h:∀(a:Q0)(r:List Q0),r.length=n->Q (a::r)):Q us:=by
 cases us with
 |nil=>cases hl
 |cons a r=>exact h a r (Nat.succ.inj hl)
def xo{Q:List Q0->Prop}{us:List Q0}(hl:us.length=1)(h:∀a0:Q0,Q [a0]):Q us:=C4 hl λa r q=>NV (Q:=λr=>Q (a::r)) q (h a)
def qg{Q:List Q0->Prop}{us:List Q0}(hl:us.length=2)(h:∀a0 a1:Q0,Q [a0,a1]):Q us:=C4 hl λa r q=>xo (Q:=λr=>Q (a::r)) q (h a)
def tY{Q:List Q0->Prop}{us:List Q0}(hl:us.length=3)(h:∀a0 a1 a2:Q0,Q [a0,a1,a2]):Q us:=C4 hl λa r q=>qg (Q:=λr=>Q (a::r)) q (h a)
def Fs{Q:List Q0->Prop}{us:List Q0}(hl:us.length=4)(h:∀a0 a1 a2 a3:Q0,Q [a0,a1,a2,a3]):Q us:=C4 hl λa r q=>tY (Q:=λr=>Q (a::r)) q (h a)
def Ft{Q:List Q0->Prop}{us:List Q0}(hl:us.length=5)(h:∀a0 a1 a2 a3 a4:Q0,Q [a0,a1,a2,a3,a4]):Q us:=C4 hl λa r q=>Fs (Q:=λr=>Q (a::r)) q (h a)
def Mh{K KK:QY}{mg:Str->Option Q0}{h:Heap}(X:K.In h)(G:h.Ns mainGlobals mg)(U:lG K KK)
 {f_a:Addr} {od_a an_a:Option Addr} {sl_a:Array (Option Q0)} {oc_a kV_a dc_a pm_a cd_a ct_a:Q0}
 (a_a:nsIn K mainGlobals "_law_seed_at"=some (some (.ref f_a))) (l_a:K.lookup f_a=some ⟨oc_a,od_a,.func (fnOf "_law_seed_at" "_law_seed_at" (aF cz) (aC cz) (af cz) .none kV_a dc_a pm_a an_a cd_a ct_a),sl_a⟩) (c_a:codeIn K cd_a "_law_seed_at"=true)
 {f_b:Addr} {od_b an_b:Option Addr} {sl_b:Array (Option Q0)} {oc_b kV_b dc_b pm_b cd_b ct_b:Q0}
 (a_b:nsIn K mainGlobals "_law_arrow_by"=some (some (.ref f_b))) (l_b:K.lookup f_b=some ⟨oc_b,od_b,.func (fnOf "_law_arrow_by" "_law_arrow_by" (aF ce) (aC ce) (af ce) .none kV_b dc_b pm_b an_b cd_b ct_b),sl_b⟩) (c_b:codeIn K cd_b "_law_arrow_by"=true)
 {f_c:Addr} {od_c an_c:Option Addr} {sl_c:Array (Option Q0)} {oc_c kV_c dc_c pm_c cd_c ct_c:Q0}
 (a_c:nsIn K mainGlobals "_law_machine_by"=some (some (.ref f_c))) (l_c:K.lookup f_c=some ⟨oc_c,od_c,.func (fnOf "_law_machine_by" "_law_machine_by" (aF aX) (aC aX) (af aX) .none kV_c dc_c pm_c an_c cd_c ct_c),sl_c⟩) (c_c:codeIn K cd_c "_law_machine_by"=true)
 {f_d:Addr} {od_d an_d:Option Addr} {sl_d:Array (Option Q0)} {oc_d kV_d dc_d pm_d cd_d ct_d:Q0}
 (a_d:nsIn K mainGlobals "_law_rule_by"=some (some (.ref f_d))) (l_d:K.lookup f_d=some ⟨oc_d,od_d,.func (fnOf "_law_rule_by" "_law_rule_by" (aF cA) (aC cA) (af cA) .none kV_d dc_d pm_d an_d cd_d ct_d),sl_d⟩) (c_d:codeIn K cd_d "_law_rule_by"=true)
 {f_e:Addr} {od_e an_e:Option Addr} {sl_e:Array (Option Q0)} {oc_e kV_e dc_e pm_e cd_e ct_e:Q0}
 (a_e:nsIn K mainGlobals "_law_made_by"=some (some (.ref f_e))) (l_e:K.lookup f_e=some ⟨oc_e,od_e,.func (fnOf "_law_made_by" "_law_made_by" (aF b7) (aC b7) (af b7) .none kV_e dc_e pm_e an_e cd_e ct_e),sl_e⟩) (c_e:codeIn K cd_e "_law_made_by"=true)
 {f_f:Addr} {od_f an_f:Option Addr} {sl_f:Array (Option Q0)} {oc_f kV_f dc_f pm_f cd_f ct_f:Q0}
 (a_f:nsIn K mainGlobals "_law_stack_by"=some (some (.ref f_f))) (l_f:K.lookup f_f=some ⟨oc_f,od_f,.func (fnOf "_law_stack_by" "_law_stack_by" (aF cf) (aC cf) (af cf) .none kV_f dc_f pm_f an_f cd_f ct_f),sl_f⟩) (c_f:codeIn K cd_f "_law_stack_by"=true)
 {f_g:Addr} {od_g an_g:Option Addr} {sl_g:Array (Option Q0)} {oc_g kV_g dc_g pm_g cd_g ct_g:Q0}
 (a_g:nsIn K mainGlobals "_law_standing_by"=some (some (.ref f_g))) (l_g:K.lookup f_g=some ⟨oc_g,od_g,.func (fnOf "_law_standing_by" "_law_standing_by" (aF bD) (aC bD) (af bD) .none kV_g dc_g pm_g an_g cd_g ct_g),sl_g⟩) (c_g:codeIn K cd_g "_law_standing_by"=true)
 {f_h:Addr} {od_h an_h:Option Addr} {sl_h:Array (Option Q0)} {oc_h kV_h dc_h pm_h cd_h ct_h:Q0}
 (a_h:nsIn K mainGlobals "_law_spoilt"=some (some (.ref f_h))) (l_h:K.lookup f_h=some ⟨oc_h,od_h,.func (fnOf "_law_spoilt" "_law_spoilt" (aF cO) (aC cO) (af cO) .none kV_h dc_h pm_h an_h cd_h ct_h),sl_h⟩) (c_h:codeIn K cd_h "_law_spoilt"=true)
 {f_i:Addr} {od_i an_i:Option Addr} {sl_i:Array (Option Q0)} {oc_i kV_i dc_i pm_i cd_i ct_i:Q0}
 (a_i:nsIn K mainGlobals "_law_copy"=some (some (.ref f_i))) (l_i:K.lookup f_i=some ⟨oc_i,od_i,.func (fnOf "_law_copy" "_law_copy" (aF d6) (aC d6) (af d6) .none kV_i dc_i pm_i an_i cd_i ct_i),sl_i⟩) (c_i:codeIn K cd_i "_law_copy"=true)
 {f_j:Addr} {od_j an_j:Option Addr} {sl_j:Array (Option Q0)} {oc_j kV_j dc_j pm_j cd_j ct_j:Q0}
 (a_j:nsIn K mainGlobals "is_plain"=some (some (.ref f_j))) (l_j:K.lookup f_j=some ⟨oc_j,od_j,.func (fnOf "is_plain" "is_plain" (aF dX) (aC dX) (af dX) .none kV_j dc_j pm_j an_j cd_j ct_j),sl_j⟩) (c_j:codeIn K cd_j "is_plain"=true)
 {f_k:Addr} {od_k an_k:Option Addr} {sl_k:Array (Option Q0)} {oc_k kV_k dc_k pm_k cd_k ct_k:Q0}
 (a_k:nsIn K mainGlobals "refuse_unless_plain"=some (some (.ref f_k))) (l_k:K.lookup f_k=some ⟨oc_k,od_k,.func (fnOf "refuse_unless_plain" "refuse_unless_plain" (aF bh) (aC bh) (af bh) .none kV_k dc_k pm_k an_k cd_k ct_k),sl_k⟩) (c_k:codeIn K cd_k "refuse_unless_plain"=true)
 {f_l:Addr} {od_l an_l:Option Addr} {sl_l:Array (Option Q0)} {oc_l kV_l dc_l pm_l cd_l ct_l:Q0}
 (a_l:nsIn K mainGlobals "rules_by_start"=some (some (.ref f_l))) (l_l:K.lookup f_l=some ⟨oc_l,od_l,.func (fnOf "rules_by_start" "rules_by_start" (aF bX) (aC bX) (af bX) .none kV_l dc_l pm_l an_l cd_l ct_l),sl_l⟩) (c_l:codeIn K cd_l "rules_by_start"=true)
 {f_m:Addr} {od_m an_m:Option Addr} {sl_m:Array (Option Q0)} {oc_m kV_m dc_m pm_m cd_m ct_m:Q0}
 (a_m:nsIn K mainGlobals "prices"=some (some (.ref f_m))) (l_m:K.lookup f_m=some ⟨oc_m,od_m,.func (fnOf "prices" "prices" (aF ii) (aC ii) (af ii) .none kV_m dc_m pm_m an_m cd_m ct_m),sl_m⟩) (c_m:codeIn K cd_m "prices"=true)
 {f_n:Addr} {od_n an_n:Option Addr} {sl_n:Array (Option Q0)} {oc_n kV_n dc_n pm_n cd_n ct_n:Q0}
 (a_n:nsIn K mainGlobals "lowest_end"=some (some (.ref f_n))) (l_n:K.lookup f_n=some ⟨oc_n,od_n,.func (fnOf "lowest_end" "lowest_end" (aF eV) (aC eV) (af eV) .none kV_n dc_n pm_n an_n cd_n ct_n),sl_n⟩) (c_n:codeIn K cd_n "lowest_end"=true)
 {f_o:Addr} {od_o an_o:Option Addr} {sl_o:Array (Option Q0)} {oc_o kV_o dc_o pm_o cd_o ct_o:Q0}
 (a_o:nsIn K mainGlobals "sums_along"=some (some (.ref f_o))) (l_o:K.lookup f_o=some ⟨oc_o,od_o,.func (fnOf "sums_along" "sums_along" (aF eY) (aC eY) (af eY) .none kV_o dc_o pm_o an_o cd_o ct_o),sl_o⟩) (c_o:codeIn K cd_o "sums_along"=true)
 {f_p:Addr} {od_p an_p:Option Addr} {sl_p:Array (Option Q0)} {oc_p kV_p dc_p pm_p cd_p ct_p:Q0}
 (a_p:nsIn K mainGlobals "least"=some (some (.ref f_p))) (l_p:K.lookup f_p=some ⟨oc_p,od_p,.func (fnOf "least" "least" (aF kd) (aC kd) (af kd) .none kV_p dc_p pm_p an_p cd_p ct_p),sl_p⟩) (c_p:codeIn K cd_p "least"=true)
 {f_q:Addr} {od_q an_q:Option Addr} {sl_q:Array (Option Q0)} {oc_q kV_q dc_q pm_q cd_q ct_q:Q0}
 (a_q:nsIn K mainGlobals "rules_along"=some (some (.ref f_q))) (l_q:K.lookup f_q=some ⟨oc_q,od_q,.func (fnOf "rules_along" "rules_along" (aF dM) (aC dM) (af dM) .none kV_q dc_q pm_q an_q cd_q ct_q),sl_q⟩) (c_q:codeIn K cd_q "rules_along"=true)
 {f_r:Addr} {od_r an_r:Option Addr} {sl_r:Array (Option Q0)} {oc_r kV_r dc_r pm_r cd_r ct_r:Q0}
 (a_r:nsIn K mainGlobals "arrows_back"=some (some (.ref f_r))) (l_r:K.lookup f_r=some ⟨oc_r,od_r,.func (fnOf "arrows_back" "arrows_back" (aF dN) (aC dN) (af dN) .none kV_r dc_r pm_r an_r cd_r ct_r),sl_r⟩) (c_r:codeIn K cd_r "arrows_back"=true)
 {f_s T_way:Addr} {od_s an_s td_way:Option Addr} {sl_s tsl_way:Array (Option Q0)} {oc_s kV_s dc_s pm_s cd_s ct_s tc_way:Q0} {lF:Tok} {tn_way:Nat}
 (a_s:nsIn K mainGlobals "way"=some (some (.ref f_s))) (l_s:KK.lookup f_s=some ⟨oc_s,od_s,.func (fnOf "way" "way" (aF rY) (aC rY) (af rY) (.ref T_way) kV_s dc_s pm_s an_s cd_s ct_s),sl_s⟩) (lT_way:KK.lookup T_way=some ⟨tc_way,td_way,.seq #[.int 60 lF] tn_way,tsl_way⟩) (c_s:codeIn KK cd_s "way"=true) (kp_way:keepIn KK (.ref f_s)=true)
 {f_t:Addr} {od_t an_t:Option Addr} {sl_t:Array (Option Q0)} {oc_t kV_t dc_t pm_t cd_t ct_t:Q0}
 (a_t:nsIn K mainGlobals "_law_refused"=some (some (.ref f_t))) (l_t:K.lookup f_t=some ⟨oc_t,od_t,.func (fnOf "_law_refused" "_law_refused" (aF cB) (aC cB) (af cB) .none kV_t dc_t pm_t an_t cd_t ct_t),sl_t⟩) (c_t:codeIn K cd_t "_law_refused"=true)
 {f_u:Addr} {od_u an_u:Option Addr} {sl_u:Array (Option Q0)} {oc_u kV_u dc_u pm_u cd_u ct_u:Q0}
 (a_u:nsIn K mainGlobals "law"=some (some (.ref f_u))) (l_u:K.lookup f_u=some ⟨oc_u,od_u,.func (fnOf "law" "law" (aF r_) (aC r_) (af r_) .none kV_u dc_u pm_u an_u cd_u ct_u),sl_u⟩) (c_u:codeIn K cd_u "law"=true)
 (z_ValueError:nsIn K mainGlobals "ValueError"=some none)
 (z_all:nsIn K mainGlobals "all"=some none)
 (z_dict:nsIn K mainGlobals "dict"=some none)
 (z_divmod:nsIn K mainGlobals "divmod"=some none)
 (z_enumerate:nsIn K mainGlobals "enumerate"=some none)
 (z_int:nsIn K mainGlobals "int"=some none)
 (z_isinstance:nsIn K mainGlobals "isinstance"=some none)
 (z_len:nsIn K mainGlobals "len"=some none)
 (z_list:nsIn K mainGlobals "list"=some none)
 (z_min:nsIn K mainGlobals "min"=some none)
 (z_range:nsIn K mainGlobals "range"=some none)
 (z_set:nsIn K mainGlobals "set"=some none)
 (z_sorted:nsIn K mainGlobals "sorted"=some none)
 (z_tuple:nsIn K mainGlobals "tuple"=some none)
 {aN:Addr} (b_NotPlain:nsIn K mainGlobals "NotPlain"=some (some (.ref aN))) (e_NotPlain:excIn K aN oW "ValueError.__new__"=true)
 {cn:Addr} (b_WalkError:nsIn K mainGlobals "WalkError"=some (some (.ref cn))) (e_WalkError:excIn K cn oW "ValueError.__new__"=true)
 {gc:Addr} (b_NoWay:nsIn K mainGlobals "NoWay"=some (some (.ref gc))) (e_NoWay:excIn K gc oW "ValueError.__new__"=true)
 {dw:Addr} (b_TooLong:nsIn K mainGlobals "TooLong"=some (some (.ref dw))) (e_TooLong:excIn K dw oW "ValueError.__new__"=true)
 (vM:(sD KK aN).contains (.ref aN)=true)
 (vK:vR KK aN)
 (qw:kitOne KK (.ref aN) (.ref cn)=some true)
 (qC:kitOne KK (.ref aN) (.type "ValueError")=some true)
 (qq:kitOne KK (.ref aN) (.ref gc)=some false)
 (qo:kitOne KK (.ref aN) (.ref dw)=some false)
 {CQ:Addr} (b_Queue:nsIn K mainGlobals "Queue"=some (some (.ref CQ))) (pgQ:plainGet KK CQ Str.empty=true) (hdQ:hasDictIn KK CQ=true) (poQ:plainOver KK CQ=true) (saQ:PySem.W.findIn KK (.ref CQ) "__setattr__"=some (some (.builtin "object.__setattr__"))) (mkQ:makesIn KK CQ=true) (kcQ:keepIn KK (.ref CQ)=true)
 (naQ_last:PySem.W.findIn KK (.ref CQ) "last"=some none)
 (naQ_piles:PySem.W.findIn KK (.ref CQ) "piles"=some none)
 {CP:Addr} (b_Pricing:nsIn K mainGlobals "Pricing"=some (some (.ref CP))) (pgP:plainGet KK CP Str.empty=true) (hdP:hasDictIn KK CP=true) (poP:plainOver KK CP=true) (saP:PySem.W.findIn KK (.ref CP) "__setattr__"=some (some (.builtin "object.__setattr__"))) (mkP:makesIn KK CP=true) (kcP:keepIn KK (.ref CP)=true)
 (naP_rules:PySem.W.findIn KK (.ref CP) "rules"=some none)
 (naP_told:PySem.W.findIn KK (.ref CP) "told"=some none)
 (naP_offers:PySem.W.findIn KK (.ref CP) "offers"=some none)
 (naP_settled:PySem.W.findIn KK (.ref CP) "settled"=some none)
 (naP_lacking:PySem.W.findIn KK (.ref CP) "lacking"=some none)
 {f_v:Addr} {od_v an_v:Option Addr} {sl_v:Array (Option Q0)} {oc_v kV_v dc_v pm_v cd_v ct_v:Q0}
 (aM_QI:PySem.W.findIn KK (.ref CQ) "__init__"=some (some (.ref f_v))) (iM_QI:isFn KK (.ref f_v)=true) (l_v:KK.lookup f_v=some ⟨oc_v,od_v,.func (fnOf "__init__" "Queue.__init__" (aF xk) (aC xk) (af xk) .none kV_v dc_v pm_v an_v cd_v ct_v),sl_v⟩) (c_v:codeIn KK cd_v "Queue.__init__"=true) (kp_QI:keepIn KK (.ref f_v)=true)
 {f_w:Addr} {od_w an_w:Option Addr} {sl_w:Array (Option Q0)} {oc_w kV_w dc_w pm_w cd_w ct_w:Q0}
 (aM_QA:PySem.W.findIn KK (.ref CQ) "add"=some (some (.ref f_w))) (iM_QA:isFn KK (.ref f_w)=true) (l_w:KK.lookup f_w=some ⟨oc_w,od_w,.func (fnOf "add" "Queue.add" (aF z9) (aC z9) (af z9) .none kV_w dc_w pm_w an_w cd_w ct_w),sl_w⟩) (c_w:codeIn KK cd_w "Queue.add"=true) (kp_QA:keepIn KK (.ref f_w)=true)
 {f_x:Addr} {od_x an_x:Option Addr} {sl_x:Array (Option Q0)} {oc_x kV_x dc_x pm_x cd_x ct_x:Q0}
 (aM_QE:PySem.W.findIn KK (.ref CQ) "is_empty"=some (some (.ref f_x))) (iM_QE:isFn KK (.ref f_x)=true) (l_x:KK.lookup f_x=some ⟨oc_x,od_x,.func (fnOf "is_empty" "Queue.is_empty" (aF z_) (aC z_) (af z_) .none kV_x dc_x pm_x an_x cd_x ct_x),sl_x⟩) (c_x:codeIn KK cd_x "Queue.is_empty"=true) (kp_QE:keepIn KK (.ref f_x)=true)
 {f_y:Addr} {od_y an_y:Option Addr} {sl_y:Array (Option Q0)} {oc_y kV_y dc_y pm_y cd_y ct_y:Q0}
 (aM_QT:PySem.W.findIn KK (.ref CQ) "take_lowest"=some (some (.ref f_y))) (iM_QT:isFn KK (.ref f_y)=true) (l_y:KK.lookup f_y=some ⟨oc_y,od_y,.func (fnOf "take_lowest" "Queue.take_lowest" (aF xm) (aC xm) (af xm) .none kV_y dc_y pm_y an_y cd_y ct_y),sl_y⟩) (c_y:codeIn KK cd_y "Queue.take_lowest"=true) (kp_QT:keepIn KK (.ref f_y)=true)
 {f_z:Addr} {od_z an_z:Option Addr} {sl_z:Array (Option Q0)} {oc_z kV_z dc_z pm_z cd_z ct_z:Q0}
 (aM_PI:PySem.W.findIn KK (.ref CP) "__init__"=some (some (.ref f_z))) (iM_PI:isFn KK (.ref f_z)=true) (l_z:KK.lookup f_z=some ⟨oc_z,od_z,.func (fnOf "__init__" "Pricing.__init__" (aF xn) (aC xn) (af xn) .none kV_z dc_z pm_z an_z cd_z ct_z),sl_z⟩) (c_z:codeIn KK cd_z "Pricing.__init__"=true) (kp_PI:keepIn KK (.ref f_z)=true)
 {f_A:Addr} {od_A an_A:Option Addr} {sl_A:Array (Option Q0)} {oc_A kV_A dc_A pm_A cd_A ct_A:Q0}
 (aM_PO:PySem.W.findIn KK (.ref CP) "offer"=some (some (.ref f_A))) (iM_PO:isFn KK (.ref f_A)=true) (l_A:KK.lookup f_A=some ⟨oc_A,od_A,.func (fnOf "offer" "Pricing.offer" (aF Aa) (aC Aa) (af Aa) .none kV_A dc_A pm_A an_A cd_A ct_A),sl_A⟩) (c_A:codeIn KK cd_A "Pricing.offer"=true) (kp_PO:keepIn KK (.ref f_A)=true)
 {f_B:Addr} {od_B an_B:Option Addr} {sl_B:Array (Option Q0)} {oc_B kV_B dc_B pm_B cd_B ct_B:Q0}
 (aM_PS:PySem.W.findIn KK (.ref CP) "settle"=some (some (.ref f_B))) (iM_PS:isFn KK (.ref f_B)=true) (l_B:KK.lookup f_B=some ⟨oc_B,od_B,.func (fnOf "settle" "Pricing.settle" (aF Ab) (aC Ab) (af Ab) .none kV_B dc_B pm_B an_B cd_B ct_B),sl_B⟩) (c_B:codeIn KK cd_B "Pricing.settle"=true) (kp_PS:keepIn KK (.ref f_B)=true)
 {f_C:Addr} {od_C an_C:Option Addr} {sl_C:Array (Option Q0)} {oc_C kV_C dc_C pm_C cd_C ct_C:Q0}
 (aM_PF:PySem.W.findIn KK (.ref CP) "settle_first"=some (some (.ref f_C))) (iM_PF:isFn KK (.ref f_C)=true) (l_C:KK.lookup f_C=some ⟨oc_C,od_C,.func (fnOf "settle_first" "Pricing.settle_first" (aF Ac) (aC Ac) (af Ac) .none kV_C dc_C pm_C an_C cd_C ct_C),sl_C⟩) (c_C:codeIn KK cd_C "Pricing.settle_first"=true) (kp_PF:keepIn KK (.ref f_C)=true)
 {f_D:Addr} {od_D an_D:Option Addr} {sl_D:Array (Option Q0)} {oc_D kV_D dc_D pm_D cd_D ct_D:Q0}
 (aM_PA:PySem.W.findIn KK (.ref CP) "settle_all"=some (some (.ref f_D))) (iM_PA:isFn KK (.ref f_D)=true) (l_D:KK.lookup f_D=some ⟨oc_D,od_D,.func (fnOf "settle_all" "Pricing.settle_all" (aF Ad) (aC Ad) (af Ad) .none kV_D dc_D pm_D an_D cd_D ct_D),sl_D⟩) (c_D:codeIn KK cd_D "Pricing.settle_all"=true) (kp_PA:keepIn KK (.ref f_D)=true)
 : ∃t:Tx KK mg,t.f_u=f_u:=
 ⟨⟨f_a,_,cw (st:=cz) (ps:=de) U l_a c_a (gW X G a_a) λ_ _ _ _ _ _ us hl=>qg (Q:=λus=>bindArgs _ ⟨us,[]⟩=pure (List.zip de us)) hl λ_ _=>rfl,
   f_b,_,cw (st:=ce) (ps:=cL) U l_b c_b (gW X G a_b) λ_ _ _ _ _ _ us hl=>Fs (Q:=λus=>bindArgs _ ⟨us,[]⟩=pure (List.zip cL us)) hl λ_ _ _ _=>rfl,
   f_c,_,cw (st:=aX) (ps:=ck) U l_c c_c (gW X G a_c) λ_ _ _ _ _ _ us hl=>Ft (Q:=λus=>bindArgs _ ⟨us,[]⟩=pure (List.zip ck us)) hl λ_ _ _ _ _=>rfl,
   f_d,_,cw (st:=cA) (ps:=df) U l_d c_d (gW X G a_d) λ_ _ _ _ _ _ us hl=>tY (Q:=λus=>bindArgs _ ⟨us,[]⟩=pure (List.zip df us)) hl λ_ _ _=>rfl,
   f_e,_,cw (st:=b7) (ps:=dg) U l_e c_e (gW X G a_e) λ_ _ _ _ _ _ us hl=>qg (Q:=λus=>bindArgs _ ⟨us,[]⟩=pure (List.zip dg us)) hl λ_ _=>rfl,
   f_f,_,cw (st:=cf) (ps:=cM) U l_f c_f (gW X G a_f) λ_ _ _ _ _ _ us hl=>tY (Q:=λus=>bindArgs _ ⟨us,[]⟩=pure (List.zip cM us)) hl λ_ _ _=>rfl,
   f_g,_,cw (st:=bD) (ps:=b8) U l_g c_g (gW X G a_g) λ_ _ _ _ _ _ us hl=>tY (Q:=λus=>bindArgs _ ⟨us,[]⟩=pure (List.zip b8 us)) hl λ_ _ _=>rfl,
   f_h,_,cw (st:=cO) (ps:=dJ) U l_h c_h (gW X G a_h) λ_ _ _ _ _ _ us hl=>Fs (Q:=λus=>bindArgs _ ⟨us,[]⟩=pure (List.zip dJ us)) hl λ_ _ _ _=>rfl,
   f_i,_,cw (st:=d6) (ps:=fL) U l_i c_i (gW X G a_i) λ_ _ _ _ _ _ us hl=>qg (Q:=λus=>bindArgs _ ⟨us,[]⟩=pure (List.zip fL us)) hl λ_ _=>rfl,
   f_j,_,cw (st:=dX) (ps:=gz) U l_j c_j (gW X G a_j) λ_ _ _ _ _ _ us hl=>qg (Q:=λus=>bindArgs _ ⟨us,[]⟩=pure (List.zip gz us)) hl λ_ _=>rfl,
   f_k,_,cw (st:=bh) (ps:=bC) U l_k c_k (gW X G a_k) λ_ _ _ _ _ _ us hl=>qg (Q:=λus=>bindArgs _ ⟨us,[]⟩=pure (List.zip bC us)) hl λ_ _=>rfl,
   f_l,_,cw (st:=bX) (ps:=dt) U l_l c_l (gW X G a_l) λ_ _ _ _ _ _ us hl=>xo (Q:=λus=>bindArgs _ ⟨us,[]⟩=pure (List.zip dt us)) hl λ_=>rfl,
   f_m,_,cw (st:=ii) (ps:=jQ) U l_m c_m (gW X G a_m) λ_ _ _ _ _ _ us hl=>qg (Q:=λus=>bindArgs _ ⟨us,[]⟩=pure (List.zip jQ us)) hl λ_ _=>rfl,
   f_n,_,cw (st:=eV) (ps:=f9) U l_n c_n (gW X G a_n) λ_ _ _ _ _ _ us hl=>qg (Q:=λus=>bindArgs _ ⟨us,[]⟩=pure (List.zip f9 us)) hl λ_ _=>rfl,
   f_o,_,cw (st:=eY) (ps:=f_) U l_o c_o (gW X G a_o) λ_ _ _ _ _ _ us hl=>qg (Q:=λus=>bindArgs _ ⟨us,[]⟩=pure (List.zip f_ us)) hl λ_ _=>rfl,
   f_p,_,cw (st:=kd) (ps:=mv) U l_p c_p (gW X G a_p) λ_ _ _ _ _ _ us hl=>tY (Q:=λus=>bindArgs _ ⟨us,[]⟩=pure (List.zip mv us)) hl λ_ _ _=>rfl,
   f_q,_,cw (st:=dM) (ps:=fG) U l_q c_q (gW X G a_q) λ_ _ _ _ _ _ us hl=>tY (Q:=λus=>bindArgs _ ⟨us,[]⟩=pure (List.zip fG us)) hl λ_ _ _=>rfl,
   f_r,_,cw (st:=dN) (ps:=fH) U l_r c_r (gW X G a_r) λ_ _ _ _ _ _ us hl=>qg (Q:=λus=>bindArgs _ ⟨us,[]⟩=pure (List.zip fH us)) hl λ_ _=>rfl,
   f_s,_,lF,Iu (st:=rY) (ps:=rZ) l_s lT_way c_s kp_way (gW X G a_s) (λus hl=>Fs (Q:=λus=>∃k,bindArgs _ ⟨us,[]⟩=seqItems? (.ref T_way) >>= k/\k (some #[.int 60 lF])=pure (List.zip rZ us)) hl λ_ _ _ _=>⟨_,rfl,rfl⟩) (λus hl=>tY (Q:=λus=>∃k,bindArgs _ ⟨us,[]⟩=seqItems? (.ref T_way) >>= k/\k (some #[.int 60 lF])=pure (List.zip rZ (us++[.int 60 lF]))) (Nat.succ.inj hl) λ_ _ _=>⟨_,rfl,rfl⟩),
   f_t,_,cw (st:=cB) (ps:=di) U l_t c_t (gW X G a_t) λ_ _ _ _ _ _ us hl=>Ft (Q:=λus=>bindArgs _ ⟨us,[]⟩=pure (List.zip di us)) hl λ_ _ _ _ _=>rfl,
   f_u,_,cw (st:=r_) (ps:=vp) U l_u c_u (gW X G a_u) λ_ _ _ _ _ _ us hl=>xo (Q:=λus=>bindArgs _ ⟨us,[]⟩=pure (List.zip vp us)) hl λ_=>rfl,
   jV X G z_ValueError,
   jV X G z_all,
   jV X G z_dict,
   jV X G z_divmod,
   jV X G z_enumerate,
   jV X G z_int,
   jV X G z_isinstance,
   jV X G z_len,
   jV X G z_list,
   jV X G z_min,
   jV X G z_range,
   jV X G z_set,
   jV X G z_sorted,
   jV X G z_tuple,
   aN,⟨gW X G b_NotPlain,(U.exc e_NotPlain).1⟩,
   cn,⟨gW X G b_WalkError,(U.exc e_WalkError).1⟩,
   gc,⟨gW X G b_NoWay,(U.exc e_NoWay).1⟩,
   dw,⟨gW X G b_TooLong,(U.exc e_TooLong).1⟩,
   vM,
   vK,
   qw,
   qC,
   qq,
   qo,
   CQ,⟨⟨pgQ,hdQ,poQ,saQ⟩,naQ_last,naQ_piles⟩,gW X G b_Queue,
   CP,⟨⟨pgP,hdP,poP,saP⟩,naP_rules,naP_told,naP_offers,naP_settled,naP_lacking⟩,gW X G b_Pricing,
   f_v,_,mT (st:=xk) l_v c_v kp_QI,(mT (st:=xk) l_v c_v kp_QI).binds (ps:=["self"]) (λ_ _ _ _ _ _ us hl=>xo (Q:=λus=>bindArgs _ ⟨us,[]⟩=pure (List.zip (["self"]:List Str) us)) hl λ_=>rfl),⟨mkQ,aM_QI,iM_QI,kcQ⟩,
   f_w,_,pT (st:=z9) (ps:=["self","price","thing"]) l_w c_w kp_QA aM_QA iM_QA (λ_ _ _ _ _ _ us hl=>tY (Q:=λus=>bindArgs _ ⟨us,[]⟩=pure (List.zip (["self","price","thing"]:List Str) us)) hl λ_ _ _=>rfl),
   f_x,_,pT (st:=z_) (ps:=["self"]) l_x c_x kp_QE aM_QE iM_QE (λ_ _ _ _ _ _ us hl=>xo (Q:=λus=>bindArgs _ ⟨us,[]⟩=pure (List.zip (["self"]:List Str) us)) hl λ_=>rfl),
   f_y,_,pT (st:=xm) (ps:=["self"]) l_y c_y kp_QT aM_QT iM_QT (λ_ _ _ _ _ _ us hl=>xo (Q:=λus=>bindArgs _ ⟨us,[]⟩=pure (List.zip (["self"]:List Str) us)) hl λ_=>rfl),
   f_z,_,mT (st:=xn) l_z c_z kp_PI,(mT (st:=xn) l_z c_z kp_PI).binds (ps:=["self","house"]) (λ_ _ _ _ _ _ us hl=>qg (Q:=λus=>bindArgs _ ⟨us,[]⟩=pure (List.zip (["self","house"]:List Str) us)) hl λ_ _=>rfl),⟨mkP,aM_PI,iM_PI,kcP⟩,
   f_A,_,pT (st:=Aa) (ps:=["self","arrow","price","number","mid"]) l_A c_A kp_PO aM_PO iM_PO (λ_ _ _ _ _ _ us hl=>Ft (Q:=λus=>bindArgs _ ⟨us,[]⟩=pure (List.zip (["self","arrow","price","number","mid"]:List Str) us)) hl λ_ _ _ _ _=>rfl),
   f_B,_,pT (st:=Ab) (ps:=["self","arrow","price"]) l_B c_B kp_PS aM_PS iM_PS (λ_ _ _ _ _ _ us hl=>tY (Q:=λus=>bindArgs _ ⟨us,[]⟩=pure (List.zip (["self","arrow","price"]:List Str) us)) hl λ_ _ _=>rfl),
   f_C,_,pT (st:=Ac) (ps:=["self","number","rule","mid","price"]) l_C c_C kp_PF aM_PF iM_PF (λ_ _ _ _ _ _ us hl=>Ft (Q:=λus=>bindArgs _ ⟨us,[]⟩=pure (List.zip (["self","number","rule","mid","price"]:List Str) us)) hl λ_ _ _ _ _=>rfl),
   f_D,_,pT (st:=Ad) (ps:=["self"]) l_D c_D kp_PA aM_PA iM_PA (λ_ _ _ _ _ _ us hl=>xo (Q:=λus=>bindArgs _ ⟨us,[]⟩=pure (List.zip (["self"]:List Str) us)) hl λ_=>rfl)⟩,rfl⟩
def Jj{l:PySem.W.OpenLaw}{w:World}{K:QY}{mg:Str->Option Q0}{fa:Addr}(hfa:mg "law"=some (.ref fa)) (T:∃t:Tx K mg,True) :
 ∃fd:FuncData,(∀(s:QX)(v:Q0),BindsTo s fd ⟨[v],[]⟩ [("_law_script",v)])/\∀base:Heap,bA l.prog w K mg base (j6 l.prog w) 9 fa fd ["_law_script"] (MI vt):=by
 obtain⟨t,_⟩:=T;have e:=hfa.symm.trans t.h_u.gl;cases e;obtain⟨oc,od,kV,doc,pm,an,cdv,ct,osl,efd,lk,hcd⟩:=t.h_u.fu.ex;exact⟨t.fd_u,λs v=>by rw[efd];exact .of_eq rfl,λbase=>bA.top (Ji t)⟩
end W
namespace W
open PySem L2 L3 L4
def qh{x y:Int}{f g:Bool}{al bl:List Nat}(h:0<y)(h2:y<1073741824):eI [.val (.int x) f al,.val (.int y) g bl]=.ok (.val (.tup [.int (x/y),.int (x%y)]) true []):=b_ ⟨h,h2⟩
def C5{ds:List D}{f:Bool}:ti [.new ds f]=.ok (lH (.tup ds) f []):=(rfl)
def Jk{b:Bool}{f:Bool}{al:List Nat}:ED [.val (.bl b) f al]=.ok (.val (.int (if b then 1 else 0)) true []):=(rfl)
def tZ{i j:Nat}{env:En}{a b:D}{f:Bool}(hi:i<env.length)(hj:j<env.length):CN (gT 2 (bn (gN i) (bn (gN j) fS))) env (.val (.tup [a,b]) f [])=.ok (.nx ((env.set i (some (.val a f))).set j (some (.val b f)))):=by refine CO ?_;show(bn (gN i) (bn (gN j) fS)) [a,b] f env=_;rw[oz,Fg hi];show(bn (gN j) fS) [b] f _=_;rw[oz,Fg (by grind)];rfl
theorem yC(k:List Int):∀l,(qN k l).length<=l.length+1
 |[]=>by simp[qN]
 |h::t=>by
  have:=yC k t;unfold qN;split
  .simp
  .split<;>simp<;>lia
theorem vy:∀ks,(fy ks).length<=ks.length
 |[]=>bK _
 |k::r=>by have h1:=yC k (fy r);have h2:=vy r;unfold fy;simp only[fU];lia
def Mi{r:R}{ks:List (List Int)}(hr:r.d=.lst (ks.map l7))(h:ks.length<=63)(hn:ks.all (λk=>!k.isEmpty)=true)(nd:ks.Nodup):JP [r]=.ok (.new ((fy ks).map l7) true):=by
 simp_all [R,l7,JP,fy,EJ,nu]
abbrev vv(d:D)(f:Bool):Option Sl:=some (.val d f)
abbrev ow(d:List D)(f:Bool):Option Sl:=some (.own d f)
def sd(ns:List Int)(k:Int):Int:=((if k<ns.length then(hG ns k).getD 0 else 0)%2147483647+11)*48271*69621%2147483629
def yD(ns:List Int)(k:Int):0<=sd ns k:=by unfold sd;lia
def oB(ns:List Int)(k:Int)(h0:0<=k):bu [.lst (ns.map .int),.int k]=.ok (.val (.int (sd ns k)) true []):=by
 by_cases h:k<ns.length
 .have hd:decide (k<(ns.length:Int))=true:=io h;obtain⟨a,ea,_⟩:=Jh h0 h;have ha:hG (ns.map D.int) k=some (.int a):=by rw[Fq,ea];rfl
  simp_arith[bu,gw,cG,hd,ha];unfold sd;rw[b_ h,ea];rfl
 .have hd:decide (k<(ns.length:Int))=false:=kW h;simp_arith[bu,gw,cG,hd];unfold sd;rw[cF h]
def gh(t:Pz.bz):(b5 t).flat=true:=(rfl)
def C6(t:Pz.bz):(b5 t).dep<=1:=bK _
def iY(r:Pz.aV):(eQ r).flat=true:=by unfold eQ;simp only[vk,iS,pU,b6,rT,QP]
def Ae(r:Pz.aV):(eQ r).dep<=2:=by have:=nv r.2.2.2;unfold eQ;simp only[mq,fB,mn,gv];lia
structure RR(ro sg:Int) (r:Pz.aV):Prop where
 a:0<=r.1/\r.1<ro
 s:0<=r.2.1/\r.2.1<sg
 t:0<=r.2.2.1/\r.2.2.1<ro
 p:r.2.2.2.length<=2
 q:∀x∈r.2.2.2,0<=x/\x<sg
def Mc(n:Int)(ts:List Pz.bz)(es:List Int):D:=.tup [.int n,.lst (ts.map b5),.lst (es.map .int)]
def ke(n:Int)(ts:List Pz.bz)(es:List Int):(Mc n ts es).flat=false:=by constructor<;>grind
structure PM(ro sg n:Int) (ts:List Pz.bz) (es:List Int):Prop where
 rn:ro<=n
 Os:n<=ro+22
 arr:∀t∈ts,0<=t.1/\t.1<n/\0<=t.2.1/\t.2.1<sg/\ro<=t.2.2/\t.2.2<n
 lt:ts.length<=29
 nd:ts.Nodup
 ends:∀e∈es,0<=e/\e<n
 le:es.length<=6
def Hs(ro sg:Int)(RL:List Pz.aV):D:=.tup [.int ro,.int sg,.lst (RL.map eQ)]
def C7{n:Nat}{caps:List Nat}{f:En->Res R}{asg:D->Bool->En->Option En}{ft:En->Res Bool}{fe:En->Res R}{env:En}{ds:List D}{fr:Bool}{al:List Nat}(h:f env=.ok (.val (.lst ds) fr al)):hJ n caps (uP f) asg ft fe env=kH n caps asg ft fe env ⟨ds,fr,al⟩:=by rw[tU,Cw,h];rfl
def iZ(ro sg:Int)(RL:List Pz.aV):(Hs ro sg RL).flat=false:=by constructor<;>grind
def Jl(ro sg:Int)(RL:List Pz.aV):(Hs ro sg RL).dep<=4:=by have:=pX (g:=eQ) (xs:=RL) Ae;unfold Hs;simp only[mq,fB,mn,gv,mr];lia
def Jm(n:Int)(ts:List Pz.bz)(es:List Int):(Mc n ts es).dep<=3:=by have:=pX (g:=b5) (xs:=ts) C6;have:=nv es;unfold Mc;simp only[mq,fB,mn,gv,mr];lia
def C8{ro sg n:Int}{RL:List Pz.aV}{ts:List Pz.bz}{es:List Int}(P:PM ro sg n ts es):aW [Hs ro sg RL,Mc n ts es]=.ok (.val .bL true []):=by
 have hp:fC [Hs ro sg RL,Mc n ts es]=.ok (.val (.bl true) true []):=by
  have cr:=P.lt;have h:=gg (mk:=λd=>gN 0 d false (iJ [vv (Hs ro sg RL) false,vv (Mc n ts es) false] 1 [0])) (test:=λ_=>.ok true) (elt:=bU) b5 (λ_=>.val (.bl true) true []) ts λt ht=>⟨_,rfl,rfl,by show bU [vv (b5 t) false,vv (Hs ro sg RL) false]=_;have:=P.arr t ht;have hd:decide (ro<=t.2.2)=true:=io (by lia);unfold b5 Hs;simp_arith[bU,hd]⟩;have hc:hJ 1 [0] (uP (dE 1 (vC (.int 1)))) (gN 0) (λ_=>.ok true) bU [vv (Hs ro sg RL) false,vv (Mc n ts es) false]=.ok (.new (ts.map λ_=>D.bl true) true):=by have f2:D.bp (ts.map b5)=true:=bJ _ _ gh;rw[C7 (ds:=ts.map b5) (fr:=false) (al:=[]) (by unfold Mc;simp_arith)];rw[j_ (by grind) h,rX,ic,lr (bJ _ _ λc=>rfl)]
  simp_arith[-tU,fC,lz,hc,z7]
 simp_arith[aW,cW,iZ,ke,hp]
noncomputable def nB(ro sg n:Int):List Pz.bz:=(List.range ro.toNat).flatMap λa=>(List.range sg.toNat).flatMap λs=>(List.range n.toNat).map λt=>(((a:Nat):Int),((s:Nat):Int),((t:Nat):Int))
def univ_mem{ro sg n a s t:Int}:((a,s,t):Pz.bz)∈nB ro sg n↔(0<=a/\a<ro)/\(0<=s/\s<sg)/\0<=t/\t<n:=by
 unfold nB;simp only[List.mem_flatMap,d7,jl,Prod.mk.injEq];constructor
 .rintro⟨x,hx,y,hy,z,hz,rfl,rfl,rfl⟩;lia
 .rintro⟨h1,h2,h3⟩;exact⟨a.toNat,by lia,s.toNat,by lia,t.toNat,by lia,by lia,by lia,by lia⟩
def Af{α:Type}(c:Nat):∀l:List α,(l.map λ_=>c).sum=l.length*c:=by intro l;induction l<;>grind
def C9(ro sg n:Int):(nB ro sg n).length=ro.toNat*(sg.toNat*n.toNat):=by
 simp_all [nB,Af]
def xq(t:Pz.TD):(vh t).flat=false:=pV _ _
def Gh(c ro sg:Int):Pz.aV:=
 let n:=c*48271%2147483647
 (n/3%6%ro,n/3/6%60%sg,n/3/6/60%6%ro,eG [n/3/6/60/6%60%sg,n/3/6/60/6/60%sg] none (some (n%3)))
def Fu(c ro sg:Int)(h1:0<ro)(h3:0<sg):eR [.int c,.int ro,.int sg]=.ok (.val (eQ (Gh c ro sg)) true []):=by have hc:∀a b:Int,∀k:Option Int,eG [D.int a,D.int b] none k=(eG [a,b] none k).map D.int:=λa b k=>vm D.int [a,b] none k;simp_arith[eR,jO,h1,h3,qh,tZ,hc,b6,C5];rfl
def Jn(c ro sg:Int)(h1:0<ro)(h3:0<sg):RR ro sg (Gh c ro sg):=
 have e:∀a b:Int,0<b->0<=a%b/\a%b<b:=λa b h=>⟨Pj _ (by lia),NZ _ h⟩
 ⟨e _ _ h1,e _ _ h3,e _ _ h1,CU _ _ _,λx hx=>by
   have:=CV _ _ _ x hx;rcases cC.mp this with h|h
   .rw[h];exact e _ _ h3
   .rw[ip.mp h];exact e _ _ h3⟩
noncomputable def Ag(c ro own sg:Int):Pz.bz:=
 let n:=c*69621%2147483629
 (n%60%(ro+own),n/60%60%sg,ro+n/60/60%own)
def C_(c ro own sg:Int)(h1:0<ro)(h2:0<own)(h3:0<sg):dP [.int c,.int ro,.int own,.int sg]=.ok (.val (b5 (Ag c ro own sg)) true []):=by
 have a1:0<ro+own:=by lia
 simp_arith[dP,jd,a1,h2,h3,qh,tZ];rfl
def Jo(c ro own sg:Int)(h1:0<ro)(h2:0<own)(h3:0<sg):0<=(Ag c ro own sg).1/\(Ag c ro own sg).1<ro+own/\0<=(Ag c ro own sg).2.1/\(Ag c ro own sg).2.1<sg/\ro<=(Ag c ro own sg).2.2/\(Ag c ro own sg).2.2<ro+own:=by unfold Ag;have a:=Pj (c*69621%2147483629/60/60) (show own≠0 by lia);have b:=NZ (c*69621%2147483629/60/60) h2;refine⟨Pj _ (by lia),NZ _ (by lia),Pj _ (by lia),NZ _ h3,?_,?_⟩<;>(simp only[];lia)
def Mj{r:R}{ks:List (List Int)}(hr:r.d=.lst (ks.map l7))(h:ks.length<=63)(hn:ks.all (λk=>!k.isEmpty)=true):EI r=.ok (.new ((fy ks).map l7) true):=by grind [EI,EH,nu,l7]
noncomputable def Gi:List Int->Pz.bz
 |[a,b,c]=>(a,b,c)
 |_=>(0,0,0)
noncomputable def vz(t:Pz.bz):List Int:=[t.1,t.2.1,t.2.2]
def dY(ts:List Pz.bz):List Pz.bz:=(fy (ts.map vz)).map Gi
def qi(ts:List Pz.bz):(dY ts).length<=ts.length:=by grind [vy,vz,dY]
def yE(ts:List Pz.bz):(fy (ts.map vz)).map l7=(dY ts).map b5:=by unfold dY;rw[kg];refine vV λk hk=>?_;obtain⟨t,_,rfl⟩:=d7.mp ((hZ k _).mp hk);rfl
theorem i6(t:Pz.bz):Gi (vz t)=t:=(rfl)
def qj(ts:List Pz.bz)(t:Pz.bz):t∈dY ts↔t∈ts:=by induction ts<;>grind [dY,vz,hZ,i6]
theorem kf{α β:Type}(f:α->β):∀{l:List α},l.Nodup->(∀a∈l,∀b∈l,f a=f b->a=b)->(l.map f).Nodup
 |[],_,_=>by simp
 |a::r,h,hi=>by
  have h':=j5.mp h;rw[dz,j5];refine⟨λhm=>?_,kf f h'.2 λx hx y hy=>hi x (by simp[hx]) y (by simp[hy])⟩
  grind
def ql(ts:List Pz.bz):(dY ts).Nodup:=by
 unfold dY;refine kf _ ((om _).imp λ{a b} h e=>?_) λa ha b hb e=>?_
 .subst e;rw[lW]at h;cases h
 .grind [hZ,i6]
def t3(ts:List Pz.bz)(h:ts.length<=63){r:R}(hr:r.d=.lst (ts.map b5)):EI r=.ok (.new ((dY ts).map b5) true):=by
 have e:r.d=.lst ((ts.map vz).map l7):=by rw[hr,kg];rfl
 rw[Mj e (by grind) (by rw[List.all_map,sk];intro t _;rfl),yE]
def Jp(ts:List Pz.bz)(h:ts.length<=63)(nd:ts.Nodup){r:R}(hr:r.d=.lst (ts.map b5)):JP [r]=.ok (.new ((dY ts).map b5) true):=by
 have e:r.d=.lst ((ts.map vz).map l7):=by rw[hr,kg];rfl
 rw[Mi e (by grind) (by rw[List.all_map,sk];intro t _;rfl) (kf vz nd λa _ b _ e=>by rw[<- i6 a,e,i6]),yE]
noncomputable def rl(ro:Int)(k:Nat):Pz.bz:=(ro,(k:Int),ro)
noncomputable def Gj(bits:Int)(k:Nat):Bool:=Builtin.bitAnd (bits/2^((k:Int)).toNat) 1==1
def i7(bits:Int)(n:Nat):List Int:=((List.range n).filter (Gj bits)).map λk=>((k:Nat):Int)
def Da(bits:Int)(n:Nat):(i7 bits n).length<=n:=by grind [i7]
def Fv(bits:Int)(n:Nat):∀e∈i7 bits n,0<=e/\e<n:=λe he=>by grind [i7]
section
variable{e0 e1 e2 e3 e4 e5 e6 e7 e8:Option Sl}{g1 g2 g3 fr:Bool}
def NW{ro:Int}(n:Nat)(hn:n<=1000000):kH 1 [2] (gN 0) (λ_=>.ok true) bM [e0,e1,vv (.int ro) g1,e3,e4,e5,e6,e7,e8] ⟨fK 0 n,fr,[]⟩=.ok (.new (((List.range n).map (rl ro)).map b5) true):=by have h:=gg (mk:=λd=>gN 0 d fr (iJ [e0,e1,vv (.int ro) g1,e3,e4,e5,e6,e7,e8] 1 [2])) (test:=λ_=>.ok true) (elt:=bM) (λk:Nat=>D.int k) (λk:Nat=>.val (b5 (rl ro k)) true []) (List.range n) λk hk=>⟨_,rfl,rfl,by show bM [vv (.int (k:Nat)) fr,vv (.int ro) g1]=_;simp_arith[bM];rfl⟩;rw[kc,j_ (by grind) h,rX,ic,lr (bJ _ _ λc=>rfl),kg];rfl
def NY{ro own sg:Int}(h1:0<ro)(h2:0<own)(h3:0<sg)(xs:List Int)(hl:xs.length<=1000000):kH 1 [2,3,4] (gN 0) (λ_=>.ok true) bw [e0,e1,vv (.int ro) g1,vv (.int own) g2,vv (.int sg) g3,e5,e6,e7,e8] ⟨xs.map .int,fr,[]⟩=.ok (.new ((xs.map λc=>Ag c ro own sg).map b5) true):=by have h:=gg (mk:=λd=>gN 0 d fr (iJ [e0,e1,vv (.int ro) g1,vv (.int own) g2,vv (.int sg) g3,e5,e6,e7,e8] 1 [2,3,4])) (test:=λ_=>.ok true) (elt:=bw) D.int (λc=>.val (b5 (Ag c ro own sg)) true []) xs λc hc=>⟨_,rfl,rfl,by show bw [vv (.int c) fr,vv (.int ro) g1,vv (.int own) g2,vv (.int sg) g3]=_;simp_arith[bw,C_ c ro own sg h1 h2 h3,gh]⟩;rw[j_ (by grind) h,rX,ic,lr (bJ _ _ λc=>rfl),kg];rfl
def Ml{c:Int}(n:Nat)(hn:n<=1000000):kH 1 [0] (gN 0) bN bO [vv (.int c) g1,e1,e2,e3,e4,e5,e6,e7,e8] ⟨fK 0 n,fr,[]⟩=.ok (.new ((i7 (c/10%32) n).map .int) true):=by
 have h:=ml (mk:=λd=>gN 0 d fr (iJ [vv (.int c) g1,e1,e2,e3,e4,e5,e6,e7,e8] 1 [0])) (test:=bN) (elt:=bO) (λk:Nat=>D.int k) (Gj (c/10%32)) (λk=>.val (.int k) true []) (List.range n) λk hk=>⟨_,rfl,by
  show bN [vv (.int (k:Nat)) fr,vv (.int c) g1]=_;have hp:(0:Int)<=((k:Nat):Int):=by lia
  simp_arith[bN,hp,qR];rfl,λ_=>by
  show bO [vv (.int (k:Nat)) fr,vv (.int c) g1]=_;simp_arith[bO]⟩
 rw[kc,j_ (by grind) h,rX,ic,lr (bJ _ _ λc=>rfl)];unfold i7;rw[kg];rfl
end
def Fw{ro sg a b:Int}(r1:0<ro)(s1:0<sg)(s2:sg<=5)(ha:0<=a/\a<ro)(hb:0<=b/\b<sg):PM ro sg (ro+1) (dY ((a,b,ro)::(List.range sg.toNat).map (rl ro))) [ro]/\∀f,JP [.new (D.tup [.int a,.int b,.int ro]::((List.range sg.toNat).map (rl ro)).map b5) f]=.ok (.new ((dY ((a,b,ro)::(List.range sg.toNat).map (rl ro))).map b5) true):=by
 have nd:((a,b,ro)::(List.range sg.toNat).map (rl ro)).Nodup:=by
  rw[j5];refine⟨λh=>?_,kf _ Pt λx _ y _ e=>?_⟩
  .obtain⟨k,_,e⟩:=d7.mp h;have:ro=a:=Pp (λt:Pz.bz=>t.1) e;lia
  .have:(x:Int)=(y:Int):=Pp (λt:Pz.bz=>t.2.1) e;lia
 have hl:((a,b,ro)::(List.range sg.toNat).map (rl ro)).length<=6:=by simp;lia
 have al:=qi ((a,b,ro)::(List.range sg.toNat).map (rl ro));refine⟨⟨by lia,by lia,λt ht=>?_,by lia,ql _,λe he=>?_,by simp⟩,λf=>Jp ((a,b,ro)::(List.range sg.toNat).map (rl ro)) (by lia) nd (ou _ f)⟩
 .clear al hl nd;rcases cC.mp ((qj _ t).mp ht)with rfl|h
  .simp only[];lia
  .obtain⟨k,hk,rfl⟩:=d7.mp h;have:=jl.mp hk;simp only[rl];lia
 .rw[ip]at he;lia
def Mm(c:Int)(hc:0<=c)(xs:List Int)(hx:xs.length<=9)(ro own sg:Int)(h1:0<ro)(h1b:ro<=3)(h2:0<=own)(h2b:own<=2)(h0:own=0->xs=[])(h3:0<sg)(h3b:sg<=5) :
 ∃n ts es al,PM ro sg n ts es/\(c/320%4<2->ts.length<=9/\es.length<=5/\n<=ro+2)/\bv [.int c,.lst (xs.map .int),.int ro,.int own,.int sg]=.ok (.val (Mc n ts es) true al):=by
 have hfl:D.bp (List.map D.int xs)=true:=b6 _;generalize hf:c/320%4=fo;have em:∀a b:Int,0<b->0<=a%b/\a%b<b:=λa b h=>⟨Pj _ (by lia),NZ _ h⟩;have s1:-4611686018427387904<=sg:=by lia
 have s2:sg<4611686018427387904:=by lia
 have m1:-4611686018427387904<=ro+own:=by lia
 have m2:ro+own<4611686018427387904:=by lia
 by_cases f2:fo=2
 .have d2:(fo==2)=true:=Pw.mpr f2;generalize hA:c/1280%ro=a;generalize hB:c/7680%sg=b;have ha:0<=a/\a<ro:=by rw[<- hA];exact em _ _ h1
  have hb:0<=b/\b<sg:=by rw[<- hB];exact em _ _ h3
  obtain⟨pm,hk2⟩:=Fw h1 h3 h3b ha hb;refine⟨ro+1,_,[ro],?_,pm,λh=>by lia,?_⟩
  rotate_left
  .have fl:D.bp (((List.range sg.toNat).map (rl ro)).map b5)=true:=bJ _ _ gh;have hln:[D.tup [.int a,.int b,.int ro]].length+(((List.range sg.toNat).map (rl ro)).map b5).length<=1000000:=by simp;lia
   simp_arith[bv,cm,hf,qR,d2,h1,h3,hA,hB,rS,s1,s2,NW sg.toNat (show sg.toNat<=1000000 by lia),ID hln,fl,hk2];rfl
 .have d2:(fo==2)=false:=P0.mpr f2;by_cases f3:fo=3
  .have d3:(fo==3)=true:=Pw.mpr f3;refine⟨ro,[],(List.range ro.toNat).map λk=>((k:Nat):Int),?_,⟨by lia,by lia,λt ht=>(nomatch ht),by simp,j3,λe he=>?_,by simp;lia⟩,λh=>by lia,?_⟩
   rotate_left
   .grind
   .have h0:0<=ro:=by lia
    have hr:ro<=1000:=by lia
    simp_arith[bv,cm,hf,qR,d2,d3,CT h0 hr,kc];unfold Mc;rw[kg];rfl
  .have d3:(fo==3)=false:=P0.mpr f3;have hel:=Da (c/10%32) (ro+own).toNat;have ends:∀e∈i7 (c/10%32) (ro+own).toNat,0<=e/\e<ro+own:=λe he=>by have:=Fv _ _ e he;lia
   have hn:(ro+own).toNat<=1000000:=by lia
   by_cases ho:own=0
   .have hk:∀f al,EI (.val (.lst []) f al)=.ok (.new [] true):=λf al=>t3 [] (by simp) (iT _ f al);have hk2:∀f,EI (.new [] f)=.ok (.new [] true):=λf=>t3 [] (by simp) (ou _ f);refine⟨ro+own,[],i7 (c/10%32) (ro+own).toNat,?_,⟨by lia,by lia,λt ht=>(nomatch ht),by simp,j3,ends,by lia⟩,λ_=>⟨by simp,by lia,by lia⟩,?_⟩
    rotate_left
    .have hcm:∀(env:En)(fr:Bool),kH 1 [2,3,4] (gN 0) (λ_=>.ok true) bw env ⟨[],fr,[]⟩=.ok (.new [] true):=λ_ _=>rfl;rw[h0 ho];simp_arith[bv,cm,hf,qR,d2,d3,hcm,hk,hk2,Ml (c:=c) (ro+own).toNat hn,rS,m1,m2,b6];rfl
   .have ho':0<own:=by lia
    have al:=qi (xs.map λc=>Ag c ro own sg);rw[cG]at al;refine⟨ro+own,dY (xs.map λc=>Ag c ro own sg),i7 (c/10%32) (ro+own).toNat,?_,⟨by lia,by lia,λt ht=>?_,by lia,ql _,ends,by lia⟩,λ_=>⟨by lia,by lia,by lia⟩,?_⟩
    rotate_left
    .obtain⟨x,_,rfl⟩:=d7.mp ((qj _ t).mp ht);exact Jo x ro own sg h1 ho' h3
    .have hk:∀f al,EI (.val (.lst ((xs.map λc=>Ag c ro own sg).map b5)) f al)=_:=λf al=>t3 _ (by grind) (iT _ f al);simp_arith[bv,cm,hf,qR,d2,d3,hfl,NY h1 ho' h3 xs (show xs.length<=1000000 by lia),hk,Ml (c:=c) (ro+own).toNat hn,rS,m1,m2,b6];rfl
def Fx{ro sg n:Int}{RL:List Pz.aV}{ts:List Pz.bz}{es:List Int}:gU [Hs ro sg RL,Mc n ts es]=.ok (.new [Hs ro sg RL,Mc n ts es] true):=by have f1:D.bp (RL.map eQ)=true:=bJ _ _ iY;have f2:D.bp (ts.map b5)=true:=bJ _ _ gh;have f3:D.bp (es.map D.int)=true:=b6 _;unfold Hs Mc;simp_arith[gU,nR,f1,f2,f3,Jg]
def vA{ro sg n:Int}(r2:ro<=3)(s2:sg<=5)(hn:n<=25):(nB ro sg n).length<=375:=by
 rw[C9];have a:ro.toNat<=3:=by lia
 have b:sg.toNat<=5:=by lia
 have c:n.toNat<=25:=by lia
 exact gC (PV a (PV b c)) (by decide)
def Jq{ro sg n:Int}{RL:List Pz.aV}{ts:List Pz.bz}{es:List Int}(r1:0<ro)(r2:ro<=3)(s1:0<sg)(s2:sg<=5)(hr:∀r∈RL,RR ro sg r)(hl:RL.length<=60)(P:PM ro sg n ts es):Pz.Set RL ts (ts++nB ro sg n):=by
 have hn:=P.Os;have hrn:=P.rn;have hlt:=P.lt;have u:=vA (n:=n) r2 s2 (by lia);have ul:(ts++nB ro sg n).length<=404:=by rw[gV];lia
 have tgt:∀s x t:Int,((s,x,t):Pz.bz)∈ts++nB ro sg n->0<=t/\t<n:=λs x t h=>by
  rcases fD.mp h with h|h
  .have:=P.arr _ h;simp only[]at this;lia
  .exact(univ_mem.mp h).2.2
 refine⟨λr h=>(hr r h).p,λa h=>fD.mpr (.inl h),λr h=>fD.mpr (.inr (univ_mem.mpr ⟨(hr r h).a,(hr r h).s,?_⟩)),λr h s x t k=>fD.mpr (.inr (univ_mem.mpr ⟨(hr r h).a,(hr r h).s,tgt s x t k⟩)),?_,?_,?_⟩
 .have:=(hr r h).t;lia
 .have:RL.length*((ts++nB ro sg n).length*(ts++nB ro sg n).length)<=60*(404*404):=PV hl (PV ul ul);unfold Pz.L;lia
 .have:RL.length*(ts++nB ro sg n).length<=60*404:=PV hl ul;unfold Pz.L;lia
 .unfold Pz.L;lia
def Ah{ro sg n:Int}{RL:List Pz.aV}{ts:List Pz.bz}{es:List Int}(r1:0<ro)(r2:ro<=3)(s1:0<sg)(s2:sg<=5)(hr:∀r∈RL,RR ro sg r)(hl:RL.length<=60)(P:PM ro sg n ts es) :
 ∃t,dL [Hs ro sg RL,Mc n ts es]=.ok (.lJ (vh t))/\Pz.Good RL ts (ts++nB ro sg n) t/\t.length<=404:=by
 obtain⟨t,h,G⟩:=Im (Jq r1 r2 s1 s2 hr hl P) (C8 P);refine⟨t,h,G,?_⟩;have hn:=P.Os;have hlt:=P.lt;have u:=vA (n:=n) r2 s2 (by lia);have:=Pz.ot _ (ts++nB ro sg n) G.nd λa ha=>by obtain⟨x,hx,rfl⟩:=d7.mp ha;exact G.u x.1 x.2 (Pz.uV G.nd (by obtain⟨a,v⟩:=x;exact hx))
 rw[cG,gV]at this;lia
def Dc{ro sg:Int}{e0 e1 e2 e3 e6 e7 e8 e9:Option Sl}{g4 g5 fr:Bool}(h1:0<ro)(h3:0<sg)(xs:List Int)(hl:xs.length<=1000000):kH 1 [4,5] (gN 0) (λ_=>.ok true) bW [e0,e1,e2,e3,vv (.int ro) g4,vv (.int sg) g5,e6,e7,e8,e9] ⟨xs.map .int,fr,[]⟩=.ok (.new ((xs.map λc=>Gh c ro sg).map eQ) true):=by have h:=gg (mk:=λd=>gN 0 d fr (iJ [e0,e1,e2,e3,vv (.int ro) g4,vv (.int sg) g5,e6,e7,e8,e9] 1 [4,5])) (test:=λ_=>.ok true) (elt:=bW) D.int (λc=>.val (eQ (Gh c ro sg)) true []) xs λc hc=>⟨_,rfl,rfl,by show bW [vv (.int c) fr,vv (.int ro) g4,vv (.int sg) g5]=_;simp_arith[bW,Fu c ro sg h1 h3,iY]⟩;rw[j_ (by grind) h,rX,ic,lr (bJ _ _ λc=>iY _),kg];rfl
def yF{α:Type}(xs:List α)(a b:Int)(ha:0<=a)(hb:0<=b):(eG xs (some a) (some (a+b))).length<=b.toNat:=by
 unfold eG;rw[N0,PX];have e1:HT.sIx xs.length 0 (some a)=min a.toNat xs.length:=by have:=HT.sIx_nat xs.length 0 a.toNat;rw[Int.toNat_of_nonneg ha]at this;exact this
 have e2:HT.sIx xs.length xs.length (some (a+b))=min (a+b).toNat xs.length:=by have:=HT.sIx_nat xs.length xs.length (a+b).toNat;rw[Int.toNat_of_nonneg (by lia)]at this;exact this
 rw[e1,e2];refine gC (Nat.min_le_left _ _) ?_;generalize xs.length=n;lia
def Fy(ns:List Int)(hl:ns.length<=63)(most:Int)(hm:0<=most)(hm2:most<=60) :
 ∃ro sg RL n ts es al,0<ro/\ro<=3/\0<sg/\sg<=5/\(∀r∈RL,RR ro sg r)/\RL.length<=most.toNat/\PM ro sg n ts es/\eS [.lst (ns.map .int),.int most]=.ok (.val (.tup [Hs ro sg RL,Mc n ts es]) true al):=by
 have q0:=yD ns 0;have q1:=yD ns 1;have k0:=oB ns 0 (by decide);have k1:=oB ns 1 (by decide);generalize sd ns 0=shape at q0 k0;generalize sd ns 1=seed at q1 k1;generalize hro:1+shape%3=ro;generalize hsg:1+shape/3%5=sg;generalize how:shape/15%3=own;generalize hmn:seed%10*(if decide (0<own)then 1 else 0)=many;have r1:0<ro:=by lia
 have r2:ro<=3:=by lia
 have s1:0<sg:=by lia
 have s2:sg<=5:=by lia
 have o1:0<=own:=by lia
 have o2:own<=2:=by lia
 have mm:0<=many/\many<=9/\(own=0->many=0):=by
  by_cases h:0<own
  .rw[io h]at hmn;simp only[PZ]at hmn;lia
  .rw[kW h]at hmn;simp only[dv,qB]at hmn;lia
 obtain⟨m0,m9,mz⟩:=mm;have f1:=yF ns 4 many (by decide) m0;have f2:=yF ns (4+many) most (by lia) hm;have f0:own=0->eG ns (some 4) (some (4+many))=[]:=λh=>by rw[mz h]at f1 ⊢;exact Dp.mp (by simpa using f1)
 obtain⟨n,ts,es,al,pm,_,hmb⟩:=Mm seed q1 (eG ns (some 4) (some (4+many))) (by lia) ro own sg r1 r2 o1 o2 f0 s1 s2;have hfi:D.bp (ns.map D.int)=true:=b6 _;have hrs:∀{e0 e1 e2 e3 e6 e7 e8 e9:Option Sl}{g4 g5 fr:Bool},kH 1 [4,5] (gN 0) (λ_=>.ok true) bW [e0,e1,e2,e3,vv (.int ro) g4,vv (.int sg) g5,e6,e7,e8,e9] ⟨(eG ns (some (4+many)) (some (4+many+most))).map .int,fr,[]⟩=_:=λ{_ _ _ _ _ _ _ _ _ _ _}=>Dc r1 s1 _ (by lia);have ig:∀b:Bool,(-18446744073709551616:Int)<(if b then 1 else 0):=λb=>by cases b<;>decide
 have ih:∀b:Bool,(if b then 1 else 0:Int)<18446744073709551616:=λb=>by cases b<;>decide
 have hru:∀r∈(eG ns (some (4+many)) (some (4+many+most))).map (λc=>Gh c ro sg),RR ro sg r:=λr hr=>by obtain⟨c,_,rfl⟩:=d7.mp hr;exact Jn c ro sg r1 s1
 have hrl:((eG ns (some (4+many)) (some (4+many+most))).map (λc=>Gh c ro sg)).length<=most.toNat:=by rw[cG];exact f2
 have frl:D.bp (((eG ns (some (4+many)) (some (4+many+most))).map (λc=>Gh c ro sg)).map eQ)=true:=bJ _ _ iY;have fci:∀lo hi,D.bp ((eG ns lo hi).map D.int)=true:=λ_ _=>b6 _;generalize hRL:(eG ns (some (4+many)) (some (4+many+most))).map (λc=>Gh c ro sg)=RL at hrs hru hrl frl;refine⟨ro,sg,RL,n,ts,es,?_,r1,r2,s1,s2,hru,hrl,pm,?_⟩
 rotate_left
 .simp_arith[eS,jP,k0,k1,hro,hsg,how,Jk,hmn,ig,ih,vm,fci,hmb,ke,hrs,hfi,frl];rfl
def Mn:BR (.val (.int 10) f al) (.val (.int 20) g bl)=.ok (.val (.int 100000000000000000000) true []):=(rfl)
def Mo:BR (.val (.int 1000003) f al) (.val (.int 4) g bl)=.ok (.val (.int 1000012000054000108000081) true []):=(rfl)
def nC(h0:0<=x)(h1:x<18446744073709551616):mX (.val (.int x) f al) (.val (.int y) g bl)=.ok (.val (.int (x*y)) true []):=by
 have a:(-(2^64)<x):=by lia
 have b:x<2^64:=by lia
 refine b_ ?_;unfold zq;rw[io a,io b];rfl
def vD(c0:0<=c)(c1:c<10000000)(z0:0<=sz)(z1:sz<=100)(h1:0<sg)(h2:sg<=5):∃w:List Int,w.length<=100/\dQ [.int c,.int sz,.int sg]=.ok (.val (.lst (w.map .int)) true [3]):=by
 obtain⟨bf,hf,w,n,e5,e6,rfl,hw⟩:=tV (λk:Nat=>D.int (k:Nat)) (asg:=gN 5) (fr:=true) (body:=eU) (List.range sz.toNat) (λpre env=>∃(w:List Int)(n:Int)(e5 e6:Option Sl),env=[vv (.int c) false,vv (.int sz) false,vv (.int sg) false,ow (w.map .int) true,vv (.int n) true,e5,e6]/\w.length=pre.length) (List.range sz.toNat) [] [vv (.int c) false,vv (.int sz) false,vv (.int sg) false,ow [] true,vv (.int (c%100000000000000000000*1000012000054000108000081)) true,none,none] rfl ⟨[],_,none,none,rfl,rfl⟩ (by
  rintro pre post k env i8 ⟨w,n,e5,e6,rfl,hw⟩;have hk:k<100:=by
   have:k∈List.range sz.toNat:=by grind
   have:=jl.mp this;lia
  have hl:w.length<100:=by have:=Pp List.length i8;rw[PK,gV,fU]at this;lia
  have hln:(w.map D.int).length<1000000:=by grind
  have k0:(0:Int)<=(k:Nat):=by lia
  have k1:((k:Nat):Int)<18446744073709551616:=by lia
  have kk0:(0:Int)<=((k:Nat):Int)*((k:Nat):Int):=Int.mul_nonneg k0 k0;have kk1:((k:Nat):Int)*((k:Nat):Int)<18446744073709551616:=by have:((k:Nat):Int)*((k:Nat):Int)<=100*100:=Int.mul_le_mul (by lia) (by lia) (by lia) (by lia);lia
  have s1:sg<1073741824:=by lia
  refine⟨[vv (.int c) false,vv (.int sz) false,vv (.int sg) false,ow (w.map .int) true,vv (.int n) true,vv (.int (k:Nat)) true,e6],[vv (.int c) false,vv (.int sz) false,vv (.int sg) false,ow ((w++[(n%sg+((k:Nat):Int)*((k:Nat):Int)*(sz/30))%sg]).map .int) true,vv (.int (n/sg)) true,vv (.int (k:Nat)) true,vv (.int (n%sg)) true],rfl,?_,_,_,_,_,rfl,by simp[hw]⟩;rw[Do,dz,Pk];simp_arith[eU,qh,h1,s1,tZ,nC k0 k1,nC kk0 kk1,CB hln])
 rw[PK]at hw;refine⟨w,by lia,?_⟩;have m0:0<=c%100000000000000000000:=by lia
 have m1:c%100000000000000000000<18446744073709551616:=by lia
 have r1:-4611686018427387904<=sz:=by lia
 have r2:sz<4611686018427387904:=by lia
 simp_arith[dQ,jf,Mn,Mo,nC m0 m1,rS,r1,r2,kc,hf]
def vE(c0:0<=c)(c1:c<2147483648)(r1:0<ro)(s1:0<sg)(s2:sg<=5):∃(a:Int)(w:List Int),0<=a/\a<ro/\w.length<=100/\b9 [.int c,.int ro,.int sg]=.ok (.val (.tup [.int a,.lst (w.map .int)]) true []):=by
 have am:=Pj (c%6) (show ro≠0 by lia);have an:=NZ (c%6) r1;cases he:(c/36%8==5)
 .obtain⟨w,hw,hs⟩:=vD (c:=c/288) (sz:=c/6%6) (by lia) (by lia) (by lia) (by lia) s1 s2;refine⟨c%6%ro,w,am,an,hw,?_⟩;simp_arith[b9,dW,qR,he,r1,hs]
 .obtain⟨w,hw,hs⟩:=vD (c:=c/288) (sz:=30+c/288%61) (by lia) (by lia) (by lia) (by lia) s1 s2;refine⟨c%6%ro,w,am,an,hw,?_⟩;simp_arith[b9,dW,qR,he,r1,hs]
def Ai{ro sg n c:Int}{ts:List Pz.bz}{es:List Int}(hn:0<n)(h1:0<ro)(h3:0<sg)(c0:0<=c)(hl:ts.length<=29):∃ex al,(∃t,t∈ts++ex/\t.2.2<ro)/\(ts++ex).length<=100/\fF [Mc n ts es,.int c,.int ro,.int sg]=.ok (.val (Mc n (dY (ts++ex)) es) true al):=by
 have em:∀a b:Int,0<b->0<=a%b/\a%b<b:=λa b h=>⟨Pj _ (by lia),NZ _ h⟩;obtain⟨m,hm⟩ : ∃m:Nat,1+c%2=(m:Int):=⟨(1+c%2).toNat,by lia⟩;obtain⟨bf,hf,ex,e5,e6,e7,rfl,hx,hxl⟩:=tV (λk:Nat=>D.int (k:Nat)) (asg:=gN 5) (fr:=true) (body:=fQ) (List.range m) (λpre env=>∃(ex:List Pz.bz)(e5 e6 e7:Option Sl),env=[vv (Mc n ts es) false,vv (.int c) false,vv (.int ro) false,vv (.int sg) false,ow ((ts++ex).map b5) true,e5,e6,e7]/\(∀t∈ex,t.2.2<ro)/\ex.length=pre.length) (List.range m) [] [vv (Mc n ts es) false,vv (.int c) false,vv (.int ro) false,vv (.int sg) false,ow (ts.map b5) true,none,none,none] rfl ⟨[],none,none,none,by rw[Jv],nofun,rfl⟩ (by
  rintro pre post k env i8 ⟨ex,e5,e6,e7,rfl,hx,hxl⟩;have hk:k<m:=jl.mp (by rw[i8];simp);have hpl:pre.length<m:=by have:=Pp List.length i8;simp at this;lia
  have hln:((ts++ex).map b5).length<1000000:=by simp;lia
  generalize hN:c/2*(48271+69621*((k:Nat):Int))%2147483647=N;have b1:(-18446744073709551616:Int)<48271+69621*((k:Nat):Int):=by lia
  have b2:48271+69621*((k:Nat):Int)<18446744073709551616:=by lia
  have b3:(-18446744073709551616:Int)<((k:Nat):Int):=by lia
  have b4:((k:Nat):Int)<18446744073709551616:=by lia
  refine⟨[vv (Mc n ts es) false,vv (.int c) false,vv (.int ro) false,vv (.int sg) false,ow ((ts++ex).map b5) true,vv (.int (k:Nat)) true,e6,e7],[vv (Mc n ts es) false,vv (.int c) false,vv (.int ro) false,vv (.int sg) false,ow ((ts++(ex++[(N%60%n,N/60%sg,N/3600%ro)])).map b5) true,vv (.int (k:Nat)) true,vv (.int N) true,vv (.int (N%60%n)) true],rfl,?_,_,_,_,_,rfl,λt ht=>?_,by simp[hxl]⟩
  .have e1:(ts++(ex++[(N%60%n,N/60%sg,N/3600%ro)])).map b5=(ts++ex).map b5++[.tup [.int (N%60%n),.int (N/60%sg),.int (N/3600%ro)]]:=by rw[<- Pe,Do (l₁:=ts++ex)];rfl
   rw[e1];simp_arith[fQ,Mc,b1,b2,b3,b4,hN,hn,h1,h3,CB hln]
  .rcases fD.mp ht with h|h
   .exact hx t h
   .rw[ip]at h;subst h;exact(em _ _ h1).2)
 rw[PK]at hxl;have fl:D.bp (ts.map b5)=true:=bJ _ _ gh;have fe:D.bp (es.map D.int)=true:=b6 _;have m1:(-4611686018427387904:Int)<=(m:Int):=by lia
 have m2:(m:Int)<4611686018427387904:=by lia
 have hk:∀f al,EI (.val (.lst ((ts++ex).map b5)) f al)=_:=λf al=>t3 (ts++ex) (by simp;lia) (iT _ f al);have hne:ex≠[]:=λz=>by rw[z]at hxl;simp at hxl;lia
 obtain⟨t,ht⟩:=List.exists_mem_of_ne_nil ex hne;refine⟨ex,?_,⟨t,fD.mpr (.inr ht),hx t ht⟩,by simp;lia,?_⟩
 rotate_left
 .unfold Mc at hf ⊢;simp_arith[fF,kJ,fl,hm,rS,m1,m2,QL,kc,hf,hk,fe];rfl
def xt{ro sg n:Int}{RL:List Pz.aV}{ts:List Pz.bz}{es:List Int}(hl:ts.length<=100){t:Pz.bz}(ht:t∈ts)(hr:t.2.2<ro):dL [Hs ro sg RL,Mc n ts es]=.exc "NotPlain":=by
 have hp:fC [Hs ro sg RL,Mc n ts es]=.ok (.val (.bl false) true []):=by
  have h:=gg (mk:=λd=>gN 0 d false (iJ [vv (Hs ro sg RL) false,vv (Mc n ts es) false] 1 [0])) (test:=λ_=>.ok true) (elt:=bU) b5 (λt=>.val (.bl (decide (ro<=t.2.2))) true []) ts λt _=>⟨_,rfl,rfl,by show bU [vv (b5 t) false,vv (Hs ro sg RL) false]=_;unfold b5 Hs;simp_arith[bU]⟩;have hc:hJ 1 [0] (uP (dE 1 (vC (.int 1)))) (gN 0) (λ_=>.ok true) bU [vv (Hs ro sg RL) false,vv (Mc n ts es) false]=.ok (.new (ts.map λt=>D.bl (decide (ro<=t.2.2))) true):=by have f2:D.bp (ts.map b5)=true:=bJ _ _ gh;rw[C7 (ds:=ts.map b5) (fr:=false) (al:=[]) (by unfold Mc;simp_arith)];rw[j_ (by grind) h,rX,ic,lr (bJ _ _ λc=>rfl)]
  have ha:ts.all (λt=>decide (ro<=t.2.2))=false:=by rw[List.all_eq_false];exact⟨t,ht,by simp;lia⟩
  simp_arith[-tU,fC,lz,hc,CS,ha]
 have hq:aW [Hs ro sg RL,Mc n ts es]=.exc "NotPlain":=by simp_arith[aW,cW,iZ,ke,hp]
 show Ii aW _=_;unfold Ii;rw[hq]
def Jr(fc:En->Res Bool)(fa fb:En->Res Unit)(env:En)(d:Bool)(h:fc env=.ok d):Dx fc fa fb env=if d=true then fa env else fb env:=by unfold Dx;rw[h];rfl
def Fz{F:List D->Res R}{fs:En->Res (List R)}{dd:List D}{env:En}{rs:List R}{c:Str}(h:fs env=.ok rs)(h2:F (rs.map R.d++dd)=.exc c):As F fs dd env=.exc c:=by unfold As;rw[h];show(F _).bind _=_;rw[h2];rfl
def Js{iw ie:Nat}{bs:List Bool}{c₀:Str}{fb:En->Res Unit}{env:En}(h:fb env=.exc c₀)(h2:env[ie]?=some none)(h3:iw<env.length):vj iw ie bs c₀ fb env=.ok (.nx (put env iw (.new (bs.map D.bl) true))):=by unfold vj;rw[h];unfold Cj;dsimp only;rw[b_ rfl,h2];dsimp only;rw[b_ h3]
def xu{k most:Int}{H M S:D}(f1:H.flat=false)(f2:M.flat=false)(f3:S.flat=false)(h:dL [H,M]=.exc "NotPlain"):eZ [.int k,H,M,S,.int most]=.ok (.val (.bl true) true []):=by
 have hL:mw [H,M,S]=.exc "NotPlain":=by simp_arith[mw,yr,f1,f2,f3,h,xj]
 have hW:∀m:Int,pZ [H,M,S,.int m]=.exc "NotPlain":=λm=>by simp_arith[pZ,Gc,f1,f2,f3,h,xj]
 have hx:∀e5:Option Sl,Dx (vB (v2 zr (av 0) (vC (.int 0)))) (As dL (ag (av 1) (ag (av 2) aL)) []) (Dx (vB (v2 zr (av 0) (vC (.int 1)))) (As mw (ag (av 1) (ag (av 2) (ag (av 3) aL))) []) (Dx (vB (v2 Kg (av 4) (vC (.int 0)))) (As pZ (ag (av 1) (ag (av 2) (ag (av 3) aL))) [.int 60]) (As pZ (ag (av 1) (ag (av 2) (ag (av 3) (ag (av 4) aL)))) []))) [vv (.int k) false,vv H false,vv M false,vv S false,vv (.int most) false,e5,none]=.exc "NotPlain":=λe5=>by
  rw[Jr _ _ _ _ (k==0) (by simp_arith[qR])];split
  .exact Fz (rs:=[.val H false [],.val M false []]) (by simp_arith[f1,f2]) h
  rw[Jr _ _ _ _ (k==1) (by simp_arith[qR])];split
  .exact Fz (rs:=[.val H false [],.val M false [],.val S false []]) (by simp_arith[f1,f2,f3]) hL
  rw[Jr _ _ _ _ (decide (most<0)) (by simp_arith)];split
  .exact Fz (rs:=[.val H false [],.val M false [],.val S false []]) (by simp_arith[f1,f2,f3]) (hW 60)
  .exact Fz (rs:=[.val H false [],.val M false [],.val S false [],.val (.int most) true []]) (by simp_arith[f1,f2,f3]) (hW most)
 have ht:=λe5=>Js (iw:=5) (ie:=6) (bs:=[true,true,false,false]) (hx e5) rfl (show 5<7 by decide);simp_arith[eZ,jS,ht,qR];rfl
def Mp(ns:List Int)(k:Int):sd ns k<2147483648:=by unfold sd;lia
def Dd(t:Pz.TD):Kt "dict" (vh t)=true:=(rfl)
def Jt(ns:List Int)(hl:ns.length<=63):vt [.lst (ns.map .int)]=.ok (.val (.bl true) true []):=by
 obtain⟨ro,sg,RL,n,ts,es,al,r1,r2,s1,s2,hr,hrl,P,hm⟩:=Fy ns hl 40 (by decide) (by decide);have hrl:RL.length<=40:=hrl;obtain⟨t,hp,-,-⟩:=Ah r1 r2 s1 s2 hr (by lia) P;obtain⟨a,w,-,-,-,hst⟩:=vE (yD ns 2) (Mp ns 2) r1 s1 s2;have k2:=oB ns 2 (by decide);have k3:=oB ns 3 (by decide);have q3:=yD ns 3;generalize sd ns 3=c at k3 q3;have rn:=P.rn;have lt:=P.lt;obtain⟨ex,Om,⟨x,hx,hxr⟩,hxl,hsp⟩:=Ai (es:=es) (n:=n) (show 0<n by lia) r1 s1 q3 lt;have hnp:=xt (sg:=sg) (n:=n) (RL:=RL) (es:=es) (gC (qi (ts++ex)) hxl) ((qj _ x).mpr hx) hxr;generalize dY (ts++ex)=us at hsp hnp;have hcp:=Fx (ro:=ro) (sg:=sg) (n:=n) (RL:=RL) (ts:=us) (es:=es);have hfi:D.bp (ns.map D.int)=true:=b6 _;have fp:(D.tup [Hs ro sg RL,Mc n ts es]).flat=false:=pW (iZ _ _ _);have ff:D.bp [Hs ro sg RL,Mc n us es]=false:=pW (iZ _ _ _);have dh:(D.lst [Hs ro sg RL,Mc n us es]).dep<=50:=by have a:=Jl ro sg RL;have b:=Jm n us es;simp only[mr,fB,gv];lia
 have ds:(D.tup [D.int a,D.lst (w.map .int)]).dep<=50:=by have:=nv w;simp only[mq,mn,mr,fB,gv];lia
 have hne:∀f al g,FR (.val (.lst [Hs ro sg RL,Mc n us es]) f al) (.new [Hs ro sg RL,Mc n us es] g)=.ok (.val (.bl false) true []):=λf al g=>by rw[Lo (a:=.val (.lst [Hs ro sg RL,Mc n us es]) f al) (b:=.new [Hs ro sg RL,Mc n us es] g) dh dh,iT,ou,jA];rfl
 have hne2:∀f al g bl,FR (.val (.tup [.int a,.lst (w.map .int)]) f al) (.val (.tup [.int a,.lst (w.map .int)]) g bl)=.ok (.val (.bl false) true []):=λf al g bl=>by rw[Lo (a:=.val (.tup [.int a,.lst (w.map .int)]) f al) (b:=.val (.tup [.int a,.lst (w.map .int)]) g bl) ds ds,iT,iT,jA];rfl
 have hs:(D.tup [D.int a,D.lst (w.map .int)]).flat=false:=rfl;have hi0:∀f:Bool,z6 (Hs ro sg RL) (.int 0) f []=.ok (.val (.int ro) true []):=λf=>by unfold Hs;simp_arith
 have hi1:∀f:Bool,z6 (Hs ro sg RL) (.int 1) f []=.ok (.val (.int sg) true []):=λf=>by unfold Hs;simp_arith
 have hrf:=λk m=>xu (k:=k) (most:=m) (iZ ro sg RL) (ke n us es) hs hnp;have hlp:∀{e0 e1 e2 e3 e4:Option Sl}{m:Int}{g7:Bool},∃e8,lg (gN 8) true oA ((List.range 3).map λk=>.int (k:Nat)) [e0,e1,e2,e3,e4,vv (.int m) true,vv (.lst [Hs ro sg RL,Mc n us es]) true,vv (.tup [.int a,.lst (w.map .int)]) g7,none]=.ok (.nx [e0,e1,e2,e3,e4,vv (.int m) true,vv (.lst [Hs ro sg RL,Mc n us es]) true,vv (.tup [.int a,.lst (w.map .int)]) g7,e8]):=λ{e0 e1 e2 e3 e4 m g7}=>by obtain⟨bf,h1,e8,rfl⟩:=vn (λk:Nat=>D.int (k:Nat)) (asg:=gN 8) (fr:=true) (body:=oA) (λ_ env=>∃e8,env=[e0,e1,e2,e3,e4,vv (.int m) true,vv (.lst [Hs ro sg RL,Mc n us es]) true,vv (.tup [.int a,.lst (w.map .int)]) g7,e8]) (List.range 3) [] _ ⟨none,rfl⟩ (by rintro pre post k env _ ⟨e8,rfl⟩ hk;refine⟨[e0,e1,e2,e3,e4,vv (.int m) true,vv (.lst [Hs ro sg RL,Mc n us es]) true,vv (.tup [.int a,.lst (w.map .int)]) g7,vv (.int (k:Nat)) true],_,rfl,?_,vv (.int (k:Nat)) true,rfl⟩;simp_arith[oA,iZ,ke,hs,hrf]);exact⟨e8,h1⟩
 obtain⟨e8,hlp⟩:=@hlp (vv (.lst (ns.map .int)) false) (vv (Hs ro sg RL) true) (vv (Mc n ts es) true) (vv (.tup [.int a,.lst (w.map .int)]) true) (vv (Mc n us es) true) (c/7%150-50) true;have n3:fK 0 (Int.toNat 3)=(List.range 3).map λk=>.int (k:Nat):=kc 3;simp_arith[vt,Gf,hm,hfi,fp,Fp,yB,iZ,ke,k2,hi0,hi1,hst,hs,yA,k3,hsp,yz,yy,hcp,ff,rR,yx,b6,yw,hp,xq,Dd,yu,rS,n3,hlp,yt,hne,hne2,vq]
end W
open PySem PySem.W PyProof.Rows
set_option maxRecDepth 100000 in
set_option maxHeartbeats 0 in
theorem PySem.Challenge.cw_callwalk_k20_not_plain_holds : PySem.Challenge.rw_callwalk_k20_not_plain.Holds := by
 w_on;refine PySem.W.Ea ?_
 k_fill
 refine L2.Bs (l:=PySem.Challenge.rw_callwalk_k20_not_plain) (n:=63) (k:=9) (x:="_law_script") (CX:=fun w=>L2.j6 PySem.Challenge.pw_callwalk_k20_not_plain w) (sp:=fun _=>L3.MI W.vt) rfl (by decide) rfl ⟨rfl,by decide,by decide⟩ (fun w h Y=>PySem.W.kIn_of Y) ?kL ?F ?S ?C
 case kL=>exact fun w=>⟨by rfl,by rfl⟩
 case F=>
  intro w mg fa h KX G hmg
  refine' Exists.imp (fun _ z=>⟨z.1,fun base _ _=>z.2 base⟩) (W.Jj hmg ?_)
  refine' Exists.imp (fun _ _=>True.intro) (W.Mh KX G L2.zj ?a_a ?l_a ?c_a ?a_b ?l_b ?c_b ?a_c ?l_c ?c_c ?a_d ?l_d ?c_d ?a_e ?l_e ?c_e ?a_f ?l_f ?c_f ?a_g ?l_g ?c_g ?a_h ?l_h ?c_h ?a_i ?l_i ?c_i ?a_j ?l_j ?c_j ?a_k ?l_k ?c_k ?a_l ?l_l ?c_l ?a_m ?l_m ?c_m ?a_n ?l_n ?c_n ?a_o ?l_o ?c_o ?a_p ?l_p ?c_p ?a_q ?l_q ?c_q ?a_r ?l_r ?c_r ?a_s ?l_s ?lT_way ?c_s ?kp_way ?a_t ?l_t ?c_t ?a_u ?l_u ?c_u ?z_ValueError ?z_all ?z_dict ?z_divmod ?z_enumerate ?z_int ?z_isinstance ?z_len ?z_list ?z_min ?z_range ?z_set ?z_sorted ?z_tuple ?b_NotPlain ?e_NotPlain ?b_WalkError ?e_WalkError ?b_NoWay ?e_NoWay ?b_TooLong ?e_TooLong ?vM ?vK ?qw ?qC ?qq ?qo ?b_Queue ?pgQ ?hdQ ?poQ ?saQ ?mkQ ?kcQ ?naQ_last ?naQ_piles ?b_Pricing ?pgP ?hdP ?poP ?saP ?mkP ?kcP ?naP_rules ?naP_told ?naP_offers ?naP_settled ?naP_lacking ?aM_QI ?iM_QI ?l_v ?c_v ?kp_QI ?aM_QA ?iM_QA ?l_w ?c_w ?kp_QA ?aM_QE ?iM_QE ?l_x ?c_x ?kp_QE ?aM_QT ?iM_QT ?l_y ?c_y ?kp_QT ?aM_PI ?iM_PI ?l_z ?c_z ?kp_PI ?aM_PO ?iM_PO ?l_A ?c_A ?kp_PO ?aM_PS ?iM_PS ?l_B ?c_B ?kp_PS ?aM_PF ?iM_PF ?l_C ?c_C ?kp_PF ?aM_PA ?iM_PA ?l_D ?c_D ?kp_PA)
  (case a_a=>k_is)
  (case l_a=>k_is)
  (case c_a=>k_is)
  (case a_b=>k_is)
  (case l_b=>k_is)
  (case c_b=>k_is)
  (case a_c=>k_is)
  (case l_c=>k_is)
  (case c_c=>k_is)
  (case a_d=>k_is)
  (case l_d=>k_is)
  (case c_d=>k_is)
  (case a_e=>k_is)
  (case l_e=>k_is)
  (case c_e=>k_is)
  (case a_f=>k_is)
  (case l_f=>k_is)
  (case c_f=>k_is)
  (case a_g=>k_is)
  (case l_g=>k_is)
  (case c_g=>k_is)
  (case a_h=>k_is)
  (case l_h=>k_is)
  (case c_h=>k_is)
  (case a_i=>k_is)
  (case l_i=>k_is)
  (case c_i=>k_is)
  (case a_j=>k_is)
  (case l_j=>k_is)
  (case c_j=>k_is)
  (case a_k=>k_is)
  (case l_k=>k_is)
  (case c_k=>k_is)
  (case a_l=>k_is)
  (case l_l=>k_is)
  (case c_l=>k_is)
  (case a_m=>k_is)
  (case l_m=>k_is)
  (case c_m=>k_is)
  (case a_n=>k_is)
  (case l_n=>k_is)
  (case c_n=>k_is)
  (case a_o=>k_is)
  (case l_o=>k_is)
  (case c_o=>k_is)
  (case a_p=>k_is)
  (case l_p=>k_is)
  (case c_p=>k_is)
  (case a_q=>k_is)
  (case l_q=>k_is)
  (case c_q=>k_is)
  (case a_r=>k_is)
  (case l_r=>k_is)
  (case c_r=>k_is)
  (case a_s=>k_is)
  (case l_s=>k_is)
  (case lT_way=>k_is)
  (case c_s=>k_is)
  (case kp_way=>k_is)
  (case a_t=>k_is)
  (case l_t=>k_is)
  (case c_t=>k_is)
  (case a_u=>k_is)
  (case l_u=>k_is)
  (case c_u=>k_is)
  (case z_ValueError=>k_is)
  (case z_all=>k_is)
  (case z_dict=>k_is)
  (case z_divmod=>k_is)
  (case z_enumerate=>k_is)
  (case z_int=>k_is)
  (case z_isinstance=>k_is)
  (case z_len=>k_is)
  (case z_list=>k_is)
  (case z_min=>k_is)
  (case z_range=>k_is)
  (case z_set=>k_is)
  (case z_sorted=>k_is)
  (case z_tuple=>k_is)
  (case b_NotPlain=>k_is)
  (case e_NotPlain=>k_exc)
  (case b_WalkError=>k_is)
  (case e_WalkError=>k_exc)
  (case b_NoWay=>k_is)
  (case e_NoWay=>k_exc)
  (case b_TooLong=>k_is)
  (case e_TooLong=>k_exc)
  (case vM=>rfl)
  (case vK=>exact⟨by k_is,by k_is,by k_is,by k_is,by k_is,by k_is,by k_is,by rfl⟩)
  (case qw=>rfl)
  (case qC=>rfl)
  (case qq=>rfl)
  (case qo=>rfl)
  (case b_Queue=>k_is)
  (case pgQ=>k_is)
  (case hdQ=>k_is)
  (case poQ=>k_is)
  (case saQ=>k_is)
  (case mkQ=>k_is)
  (case kcQ=>k_is)
  (case naQ_last=>k_is)
  (case naQ_piles=>k_is)
  (case b_Pricing=>k_is)
  (case pgP=>k_is)
  (case hdP=>k_is)
  (case poP=>k_is)
  (case saP=>k_is)
  (case mkP=>k_is)
  (case kcP=>k_is)
  (case naP_rules=>k_is)
  (case naP_told=>k_is)
  (case naP_offers=>k_is)
  (case naP_settled=>k_is)
  (case naP_lacking=>k_is)
  (case aM_QI=>k_is)
  (case iM_QI=>k_is)
  (case l_v=>k_is)
  (case c_v=>k_is)
  (case kp_QI=>k_is)
  (case aM_QA=>k_is)
  (case iM_QA=>k_is)
  (case l_w=>k_is)
  (case c_w=>k_is)
  (case kp_QA=>k_is)
  (case aM_QE=>k_is)
  (case iM_QE=>k_is)
  (case l_x=>k_is)
  (case c_x=>k_is)
  (case kp_QE=>k_is)
  (case aM_QT=>k_is)
  (case iM_QT=>k_is)
  (case l_y=>k_is)
  (case c_y=>k_is)
  (case kp_QT=>k_is)
  (case aM_PI=>k_is)
  (case iM_PI=>k_is)
  (case l_z=>k_is)
  (case c_z=>k_is)
  (case kp_PI=>k_is)
  (case aM_PO=>k_is)
  (case iM_PO=>k_is)
  (case l_A=>k_is)
  (case c_A=>k_is)
  (case kp_PO=>k_is)
  (case aM_PS=>k_is)
  (case iM_PS=>k_is)
  (case l_B=>k_is)
  (case c_B=>k_is)
  (case kp_PS=>k_is)
  (case aM_PF=>k_is)
  (case iM_PF=>k_is)
  (case l_C=>k_is)
  (case c_C=>k_is)
  (case kp_PF=>k_is)
  (case aM_PA=>k_is)
  (case iM_PA=>k_is)
  (case l_D=>k_is)
  (case c_D=>k_is)
  (case kp_PA=>k_is)
 case S=>exact fun w H a ns hl hS=>L3.HE (fun ns hn=>⟨_,_,W.Jt ns hn⟩) H a ns hl hS
 case C=>exact fun _ _ _ _ _ z=>L3.HF z
