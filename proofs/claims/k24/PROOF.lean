import PyProof.Rows.All
import Wide.All
import OpenK.AllK
import PySem.Challenge.RW_callwalk_k24_least_by_prices
set_option autoImplicit true
set_option Elab.async false
set_option linter.all false
set_option genSizeOf false
set_option genSizeOfSpec false
set_option compiler.extract_closed false
set_option maxRecDepth 100000
set_option maxHeartbeats 4000000
set_option bootstrap.genMatcherCode false
noncomputable section
open PySem.W(instObj lookIn plainGet hasDictIn findIn isFn emptyDict keepIn fnOf codeIn kas_ask nsIn)
abbrev KE:=@PySem.wpAny_bind
abbrev RW:=@PySem.Heap.get?_push_of_some
abbrev Tt:=@Nat.le_refl
abbrev Tu:=@PySem.wpAny_pure
abbrev Tv:=@if_pos
abbrev Tw:=@List.map_cons
abbrev Tz:=@PySem.Heap.get?_push_size
abbrev TB:=@List.mem_cons_of_mem
abbrev TC:=@PySem.Heap.lt_size
abbrev TF:=@List.mem_cons_self
abbrev TH:=@List.mem_cons
abbrev TJ:=@if_neg
abbrev TL:=@List.getElem?_eq_some_iff
abbrev TN:=@List.length_map
abbrev TR:=@List.size_toArray
abbrev TU:=@List.not_mem_nil
abbrev TV:=@List.mem_map
abbrev TY:=@Bool.false_eq_true
abbrev TZ:=@List.mem_iff_getElem?
abbrev T1:=@List.mem_append
abbrev T2:=@List.length_cons
abbrev T3:=@List.getElem?_map
abbrev T4:=@decide_eq_true
abbrev T5:=@Nat.ne_of_lt
abbrev T6:=@List.pairwise_iff_getElem
abbrev T7:=@List.map_map
abbrev T8:=@List.mem_singleton
abbrev T9:=@PySem.F.plainAttrs_dict
abbrev T_:=@List.length_append
abbrev Ua:=@Nat.le_trans
abbrev Ub:=@List.nodup_nil
abbrev Uc:=@decide_eq_false
abbrev Ud:=@PySem.Heap.get?_update_other
abbrev Ue:=@Nat.lt_of_lt_of_le
abbrev Ug:=@List.mem_filter
abbrev Uh:=@List.mem_append_right
abbrev Ui:=@Array.getElem?_toList
abbrev Uj:=@PySem.sizeLine_eq
abbrev Uk:=@PySem.PassesOwn.never
abbrev Ul:=@Nat.zero_le
abbrev Um:=@Bool.and_eq_true
abbrev Uo:=@PySem.F.slot_dict_get
abbrev Up:=@List.getElem?_set_self
abbrev Uq:=@PySem.F.slot_dict_setdefault
abbrev Ur:=@List.mem_range
abbrev Us:=@PySem.wpAny_call_entry
abbrev Ut:=@PySem.W.mg_none_of
abbrev Uu:=@PySem.Heap.SameBut.update
abbrev Uv:=@List.mem_append_left
abbrev Uw:=@List.getElem?_set_ne
abbrev Ux:=@PySem.wpAny_newObj_type
abbrev Uy:=@PySem.F.slot_dict_itemiterator_next
abbrev Uz:=@Bool.false_ne_true
abbrev UA:=@List.nodup_cons
abbrev UB:=@List.map_append
abbrev UC:=@List.pairwise_cons
abbrev UD:=@List.length_eq_zero_iff
abbrev UE:=@PySem.Calls.callWith_builtin
abbrev UF:=@Option.map_eq_some_iff
abbrev UG:=@List.take_of_length_le
abbrev UH:=@List.mem_of_getElem?
abbrev UI:=@if_false
abbrev UJ:=@PySem.wpAny_holding
abbrev UK:=@List.all_eq_true
abbrev UL:=@Option.some.inj
abbrev UM:=@Ne.symm
abbrev UN:=@PyProof.Rows.slot_tuple_getitem
abbrev UO:=@of_decide_eq_true
abbrev UP:=@List.getElem?_eq_getElem
abbrev UQ:=@Nat.lt_of_le_of_lt
abbrev UR:=@PySem.Heap.get?_update_self
abbrev US:=@List.getElem?_append_right
abbrev UT:=@PySem.wpAny_setState_of
abbrev UU:=@PySem.F.entry_dict_get
abbrev UV:=@PySem.F.type_dict_setdefault
abbrev UW:=@PySem.F.slot_list_append
abbrev UX:=@PySem.F.type_list_append
abbrev UY:=@Array.length_toList
abbrev UZ:=@PySem.W.kia_one
abbrev U0:=@List.map_congr_left
abbrev U1:=@PySem.F.plainAttrs_list
abbrev U2:=@PySem.Calls.spliced_cons
abbrev U3:=@PyProof.Rows.F.plain_set_update_loop
abbrev U4:=@Nat.shiftRight_eq_div_pow
abbrev U5:=@PyProof.Rows.callWith_type1
abbrev U6:=@PySem.wpAny_callSpecial?_slot
abbrev U7:=@PySem.tupleKind_room_in1
abbrev U8:=@Int.eq_ofNat_of_zero_le
abbrev U9:=@PySem.wpAny_mono
abbrev U_:=@Array.getElem?_eq_some_iff
abbrev Vb:=@PySem.wpAny_truthy_bool
abbrev Vc:=@PySem.mem_of_lookup
abbrev Vd:=@if_true
abbrev Ve:=@List.take_add_one
abbrev Vf:=@List.foldl_append
abbrev Vg:=@decide_eq_true_eq
abbrev Vh:=@Classical.byContradiction
abbrev Vi:=@List.getElem?_append_left
abbrev Vj:=@List.length_nil
abbrev Vk:=@PySem.call_meetsIn
abbrev Vl:=@PySem.codeAny_builtin
abbrev Vm:=@List.getElem?_eq_none
abbrev Vn:=@PySem.wpAny_typeNameOfWhole_itemiter
abbrev Vo:=@List.foldl_cons
abbrev Vp:=@List.length_take
abbrev Vq:=@PySem.F.slot_dict_itemiterator_iter
abbrev Vr:=@PySem.Calls.evalArgs_plain
abbrev Vs:=@List.mem_of_mem_take
abbrev Vt:=@PySem.Around.under_plainId
abbrev Vu:=@Nat.lt_irrefl
abbrev Vv:=@congrArg
abbrev Vw:=@Bool.not_true
abbrev Vx:=@Nat.add_sub_cancel_left
abbrev Vy:=@List.Perm.refl
abbrev Vz:=@PySem.Calls.spliced_nil
abbrev VA:=@List.find?_cons
abbrev VB:=@Nat.lt_succ_self
abbrev VC:=@PySem.F.plain_min_loop
abbrev VD:=@PySem.wpAny_Call_Name_kw
abbrev VE:=@List.map_nil
abbrev VF:=@List.any_cons
abbrev VG:=@List.take_append_drop
abbrev VH:=@Int.emod_lt_of_pos
abbrev VI:=@PySem.Heap.size_push
abbrev VJ:=@PySem.wpAny_typeNameOf_itemiter
abbrev VL:=@PySem.wpAny_passesOwn
abbrev VM:=@List.nodup_append
abbrev VN:=@List.pairwise_map
abbrev VO:=@List.Pairwise.imp_of_mem
abbrev VP:=@Nat.lt_succ_of_lt
abbrev VQ:=@List.append_assoc
abbrev VR:=@Int.le_trans
abbrev VS:=@beq_eq_false_iff_ne
abbrev VT:=@PySem.F.args_dict_get_2
abbrev VU:=@PySem.F.args_dict_get_3
abbrev VW:=@PySem.plainId_quiet
abbrev VX:=@PySem.F.slot_dict_items
abbrev VY:=@List.filter_cons
abbrev VZ:=@List.nodup_range
abbrev V0:=@List.lookup_cons
abbrev V1:=@PySem.wpAny_setField_rec
abbrev V2:=@Nat.ne_of_gt
abbrev V3:=@List.append_nil
abbrev V4:=@PySem.F.type_dict_get
abbrev V5:=@List.length_set
abbrev V6:=@Int.le_of_lt
abbrev V7:=@Classical.choose_spec
abbrev V8:=@Int.emod_nonneg
abbrev V9:=@PySem.wpAny_pyIter_list
abbrev V_:=@beq_iff_eq
abbrev Wa:=@PySem.wpAny_Call_method
abbrev Wb:=@PySem.wpAny_pyIter_slot
abbrev Wc:=@List.flatMap_cons
abbrev Wd:=@Int.fdiv_eq_ediv_of_nonneg
abbrev We:=@PySem.Obj.data_mapDictKeys
abbrev Wf:=@List.mem_iff_getElem
abbrev Wg:=@List.length_take_le'
abbrev Wh:=@List.getElem?_zip_eq_some
abbrev Wi:=@PyProof.Rows.F.entry_set_update_loop
abbrev Wj:=@Nat.mul_le_mul
abbrev Wl:=@List.filterMap_cons
abbrev Wm:=@PySem.Heap.SameBut.extBut
abbrev Wn:=@List.flatMap_append
abbrev Wo:=@PySem.Paired.length
abbrev Wp:=@List.mem_filterMap
abbrev Wq:=@Bool.eq_iff_iff
abbrev Wr:=@List.zip_cons_cons
abbrev Ws:=@PySem.wpAny_Call_method0_late
abbrev Wt:=@Nat.lt_or_gt_of_ne
abbrev Wu:=@PySem.W.KasT.kasWp_bind
abbrev Wv:=@PySem.wpAny_updateSeq
abbrev Ww:=@List.getElem?_replicate
abbrev Wx:=@PySem.wpAny_isOneOf_itemiter
abbrev Wy:=@Int.toNat_natCast
abbrev Wz:=@PySem.wpAny_field
abbrev WA:=@Nat.lt_trichotomy
abbrev WB:=@PySem.wpAny_storeSet_of
abbrev WC:=@bne_self_eq_false
abbrev WD:=@List.ext_getElem?
abbrev WE:=@PySem.wpAny_dictEntries
abbrev WF:=@List.length_range
abbrev WG:=@PySem.wpAny_seqItems
abbrev WH:=@Nat.le_of_lt
abbrev WI:=@PySem.codeAny_mono
abbrev WJ:=@List.length_replicate
abbrev WK:=@PySem.wpAny_typeOf
abbrev WL:=@List.length_singleton
abbrev WM:=@PySem.F.args_dict_setdefault_3
abbrev WN:=@PySem.wpAny_notOrdered_dict
abbrev WO:=@List.set_getElem_self
abbrev WP:=@PySem.wpAny_forIn_list
abbrev WQ:=@PySem.F.entry_dict_setdefault
abbrev WR:=@List.eq_nil_of_length_eq_zero
abbrev WS:=@List.pairwise_append
abbrev WT:=@Bool.and_self
abbrev WU:=@PySem.wpAny_rule
abbrev WV:=@PySem.wpAny_execs_nil
abbrev WW:=@PySem.W.plainGet_of
abbrev WX:=@PySem.evalArgs_none
abbrev WY:=@Nat.add_le_add_left
abbrev WZ:=@List.length_pos_iff
abbrev W0:=@Nat.mul_le_mul_left
abbrev W1:=@PySem.W.callWith_K
abbrev W2:=@Prod.ext
abbrev W3:=@Bool.false_and
abbrev W4:=@Bool.and_false
abbrev W5:=@PySem.entryFor_alias
abbrev W6:=@PySem.wpAny_setField
abbrev W7:=@PySem.wpAny_tryCatch
abbrev W8:=@PySem.boot_len
abbrev W9:=@PySem.W.kitx_dict
abbrev W_:=@Option.isSome_map
abbrev Xa:=@Nat.le_of_lt_succ
abbrev Xb:=@List.getElem?_inj
abbrev Xc:=@Bool.false_or
abbrev Xd:=@PySem.Moved.trans
abbrev Xe:=@PySem.wpAny_letGo
abbrev Xf:=@Sum.inl.inj
abbrev Xg:=@Sum.inr.inj
abbrev Xh:=@List.sum_cons
abbrev Xi:=@Nat.mul_add
abbrev Xj:=@List.length_drop
abbrev Xk:=@Option.getD_none
abbrev Xl:=@List.getElem_mem
abbrev Xm:=@List.perm_middle
abbrev Xn:=@List.mem_flatMap
abbrev Xo:=@Nat.le_of_eq
abbrev Xp:=@Nat.add_comm
abbrev Xq:=@List.all_map
abbrev Xr:=@Nat.mod_lt
abbrev Xs:=@or_false
abbrev Xt:=PySem.Shared
abbrev Xu:=PySem.W.Frag
abbrev Xv:=PySem.Program
abbrev Xw:=PySem.Value
abbrev Xx:=PySem.Around
def XD(h : True := by rfl) : True := h
def ae:Lean.Syntax:=XD._auto_1
def Xy(h : True := by decide) : True := h
def am:Lean.Syntax:=Xy._auto_1
def XB(h : ∀u : Unit, u = u := by intro _; rfl) : True := True.intro
def ab:Lean.Syntax:=XB._auto_1
def Xz(h : True := by first|exact .inl rfl|exact .inr rfl|assumption) : True := h
def aM:Lean.Syntax:=Xz._auto_1
def XA(h : True := by first|exact Or.inl rfl|exact Or.inr (Or.inl rfl)|exact Or.inr (Or.inr rfl)) : True := h
def XC(h : True := by intro _ _; rfl) : True := h

namespace L2
open PySem PySem.Spec PyProof.Rows
noncomputable abbrev bm:=Sum Int Str
noncomputable def lw:bm->Xw->Bool
 |.inl k,v=>Value.isInt k v
 |.inr x,v=>Value.isStrOf x v
noncomputable def Q1(w:World):bm->Int
 |.inl k=>hashInt k
 |.inr x=>hashStr w x
def bo:∀{k:bm}{v:Xw},lw k v=true->(∃i t,k=Sum.inl i/\v=Value.int i t)\/(∃x t,k=Sum.inr x/\v=Value.str x t)
 |.inl i,v,h=>by obtain⟨t,e⟩:=Value.isInt_shape (k:=i) (v:=v) h;exact .inl ⟨i,t,rfl,e⟩
 |.inr x,v,h=>by obtain⟨t,e⟩:=Value.isStrOf_shape (x:=x) (v:=v) h;exact .inr ⟨x,t,rfl,e⟩
def Av(i:Int)(t:Tok):lw (.inl i) (.int i t)=true:=by simp[lw,Value.isInt]
def Aw(x:Str)(t:Tok):lw (.inr x) (.str x t)=true:=by simp[lw,Value.isStrOf]
def JA(a b:Int):decide ((Sum.inl a:bm)=Sum.inl b)=(a==b):=by grind
def JB(a b:Str):decide ((Sum.inr a:bm)=Sum.inr b)=decide (a=b):=by grind
def JC(a:Int)(b:Str):decide ((Sum.inl a:bm)=Sum.inr b)=false:=Uc (λq=>nomatch q)
def JD(a:Str)(b:Int):decide ((Sum.inr a:bm)=Sum.inl b)=false:=Uc (λq=>nomatch q)
def aF(prog:Xv)(w:World):PySem.KeyKind prog w bm where
 is:=lw
 hash:=Q1 w
 inj:=λv a b ha hb=>by
  rcases bo ha with⟨i,t,rfl,rfl⟩|⟨x,t,rfl,rfl⟩
  .rcases bo hb with⟨j,u,rfl,e⟩|⟨y,u,rfl,e⟩
   .injection e with e1 _;rw[e1]
   .exact nomatch e
  .rcases bo hb with⟨j,u,rfl,e⟩|⟨y,u,rfl,e⟩
   .exact nomatch e
   .injection e with e1 _;rw[e1]
 byValue:=λk v h=>by rcases bo h with⟨i,t,rfl,rfl⟩|⟨x,t,rfl,rfl⟩<;>rfl
 pyHash:=λhv h=>by
  rcases bo hv with⟨i,t,rfl,rfl⟩|⟨x,t,rfl,rfl⟩
  .exact wpAny_pyHash_int h
  .exact wpAny_pyHash_str h
 eqBool:=λhu hv h=>by
  rcases bo hu with⟨i,t,rfl,rfl⟩|⟨x,t,rfl,rfl⟩
  .rcases bo hv with⟨j,u,rfl,rfl⟩|⟨y,u,rfl,rfl⟩
   .rw[JA]at h;exact wpAny_eqBool_int h
   .rw[JC]at h;exact SeqAt.EqAt.int_str i t y u _ _ _ _ h
  .rcases bo hv with⟨j,u,rfl,rfl⟩|⟨y,u,rfl,rfl⟩
   .rw[JD]at h;exact SeqAt.EqAt.str_int x t j u _ _ _ _ h
   .rw[JB]at h;exact wpAny_eqBool_str h
 «strs»:=λk x t v h=>by
  rcases bo h with⟨i,u,rfl,e⟩|⟨y,u,rfl,e⟩
  .exact nomatch e
  .injection e with e1 _;subst e1;cases v<;>rfl
def vj(prog:Xv)(w:World)(i:Int)(t:Tok):(aF prog w).is (.inl i) (.int i t)=true:=Av i t
def vk(prog:Xv)(w:World)(x:Str)(t:Tok):(aF prog w).is (.inr x) (.str x t)=true:=Aw x t
inductive V where
 |bn|bl (b:Bool)|int (i:Int)|str (x:Str)|B3 (b:Array UInt8)|Jp (b:UInt64)|ref (a:Addr)|ty (n:String)
 deriving DecidableEq
noncomputable def RelV:V->Xw->Prop
 |.bn,u=>u=Value.none
 |.bl b,u=>u=Value.bool b
 |.int i,u=>∃t,u=Value.int i t
 |.str x,u=>∃t,u=Value.str x t
 |.B3 b,u=>∃t,u=Value.bytes b t
 |.Jp b,u=>∃t,u=Value.float b t
 |.ref a,u=>u=Value.ref a
 |.ty n,u=>u=Value.type n
abbrev Vals:List V->List Xw->Prop:=Paired RelV
theorem Vals.length(r:Vals xs us):xs.length=us.length:=Wo r
theorem Vals.get:∀{xs:List V}{us:List Xw}{i:Nat}{x:V},Vals xs us->xs[i]?=some x->∃u,us[i]?=some u/\RelV x u
 |_,_,_,_,.nil,e=>by simp at e
 |_,_,0,_,.cons r _,e=>by simp at e;subst e;exact⟨_,rfl,r⟩
 |_,_,i+1,x,.cons _ t,e=>by obtain⟨u,h1,a⟩:=Vals.get (i:=i) (x:=x) t (by simpa using e);exact⟨u,by simpa using h1,a⟩
theorem Vals.append:∀{xs a:List V}{us ws:List Xw},Vals xs us->Vals a ws->Vals (xs++a) (us++ws)
 |_,_,_,_,.nil,s=>s
 |_,_,_,_,.cons r t,s=>.cons r (Vals.append t s)
theorem Vals.take:∀{xs:List V}{us:List Xw}(n:Nat),Vals xs us->Vals (xs.take n) (us.take n)
 |_,_,0,_=>.nil
 |_,_,_+1,.nil=>.nil
 |_,_,n+1,.cons r t=>.cons r (Vals.take n t)
theorem Vals.drop:∀{xs:List V}{us:List Xw}(n:Nat),Vals xs us->Vals (xs.drop n) (us.drop n)
 |_,_,0,r=>r
 |_,_,_+1,.nil=>.nil
 |_,_,n+1,.cons _ t=>Vals.drop n t
def RelO:Option V->Option Xw->Prop
 |some v,some u=>RelV v u
 |none,none=>True
 |_,_=>False
def KV{κ:Type}:List (κ×V)->List (κ×Xw)->Prop:=Paired λ(p:κ×V)(q:κ×Xw)=>p.1=q.1/\RelV p.2 q.2
noncomputable def kV:bm->V
 |.inl i=>.int i
 |.inr x=>.str x
inductive HO where
  
 |lst (xs:List V)
  
 |tup (xs:List V)
  
 |dK (kvs:List (bm×V))|dT (kvs:List (List bm×V))
  
 |set (S:Int->Bool) (n:Nat)
  
 |ins (C dx:Addr) (fs:List (Str×V))
  
 |own (x:Addr)
  
 |xd (fs:List (Str×V))
  
 |met (f x:Addr)
  
 |Sz (lo hi:Int)
  
 |aZ (o:Obj) (u:HO)
  
 |xn (ps:Array Xw)
  
 |ext (φ:Heap->Prop)
noncomputable abbrev Hp:=Addr->Option HO
noncomputable def aP(H:Hp)(a:Addr)(o:HO):Hp:=λb=>if b=a then some o else H b
def ag:aP H a o a=some o:=by unfold aP;rw[Tv rfl]
theorem af(h:b≠a):aP H a o b=H b:=by unfold aP;rw[TJ h]
def yV:aP (aP H a o) a u=aP H a u:=by funext b;unfold aP;split<;>rfl
def yW{H:Hp}(h:H a=some o)(h':H b=some u)(d:o≠u):a≠b:=by intro e;subst e;rw[h]at h';exact d (UL h')
def ai{H:Hp}(h:H a=some o)(h':H b=none):a≠b:=by intro e;subst e;rw[h]at h';cases h'
section
variable(P:Xv)(w:World)
def ObjOk(H:Hp)(h:Heap)(a:Addr):HO->Prop
 |.lst xs=>xs.length<=sizeLine/\∃(its:List Xw)(n:Nat),Vals xs its/\h.get? a=some { cls:=.type "list",data:=.seq its.toArray n }
 |.tup xs=>xs.length<=sizeLine/\∃its:List Xw,Vals xs its/\IsTup h a its.toArray
 |.dK kvs=>kvs.length<=sizeLine/\(a==sysModules)=false/\∃vs,KV kvs vs/\h.DictOf (aF P w) a vs
 |.dT kvs=>kvs.length<=sizeLine/\(a==sysModules)=false/\∃xs:List (List bm×Addr×Xw),
  Paired (λ(p:List bm×V)(q:List bm×Addr×Xw)=>p.1=q.1/\H q.2.1=some (.tup (p.1.map kV))/\RelV p.2 q.2.2) kvs xs/\
  ∃o es g,h.get? a=some o/\o.ExactDict/\o.data=.dict es g/\es.toList=xs.map (entryOfKey (tupleKind (aF P w)))/\(xs.map (·.1)).Nodup
 |.set S n=>h.SetOf (intKind P w) a S n
 |.ins C c fs=>H c=some (.own a)/\fs.length<=1000/\c≠a/\h.get? a=some (instObj C c)/\
  ∃b,h.Ns1 c b/\(∀f,RelO (fs.lookup f) (b f))/\PySem.Within b (fs.map (·.1))
 |.own _=>∃o,h.get? a=some o
 |.xd fs=>∃b,h.Ns1 a b/\∀f,RelO (fs.lookup f) (b f)
 |.Sz lo i=>∃t u v,h.get? a=some { cls:=.type "range",data:=.fields #[.int lo t,.int i u,.int 1 v] }
 |.aZ o u=>h.get? a=some o/\ObjOk H h a u
 |.xn ps=>h.get? a=some {cls:=.none,data:=.fields ps}
 |.met f x=>h.get? a=some (PySem.W.methodObj (.ref f) (.ref x))
 |.ext d=>d h/\(∃o,h.get? a=some o)/\∀h1 e:Heap,d h1->(∀o,h1.get? a=some o->e.get? a=some o)->d e
def HOk(H:Hp)(h:Heap):Prop:=∀a o,H a=some o->ObjOk P w H h a o
end
section
variable{P:Xv}{w:World}{H H':Hp}{h h':Heap}{a:Addr}{o:HO}
theorem ObjOk.lt(x:ObjOk P w H h a o):a<h.objs.size:=by
 cases o with
 |lst xs=>obtain⟨_,_,_,_,e⟩:=x;exact TC e
 |tup xs=>obtain⟨_,_,_,p⟩:=x;exact p.lt
 |dK kvs=>obtain⟨_,_,_,_,o,_,_,e,_⟩:=x;exact TC e
 |dT kvs=>obtain⟨_,_,_,_,o,_,_,e,_⟩:=x;exact TC e
 |set S n=>obtain⟨o,_,_,_,e,_⟩:=x;exact TC e
 |ins C b fs=>obtain⟨_,_,_,e,_⟩:=x;exact TC e
 |own y=>obtain⟨_,e⟩:=x;exact TC e
 |xd fs=>obtain⟨_,⟨_,_,_,e,_⟩,_⟩:=x;exact TC e
 |Sz lo c=>obtain⟨_,_,_,e⟩:=x;exact TC e
 |aZ d u=>obtain⟨e,_⟩:=x;exact TC e
 |xn ps=>exact TC (show h.get? a=some _ from x)
 |met f y=>exact TC (show h.get? a=some _ from x)
 |ext g=>obtain⟨_,⟨_,e⟩,_⟩:=x;exact TC e
def Paired.MU{α e:Type}{F G:α->e->Prop}{c:List α}{d:List e}(h:Paired F c d)(f:∀a b,F a b->G a b):Paired G c d:=by
 induction h with
 |nil=>exact .nil
 |cons r _ g=>exact .cons (f _ _ r) g
def ObjOk.stay(x:ObjOk P w H h a o)(k:∀b u,(b=a\/H b=some (.own a))->h.get? b=some u->h'.get? b=some u)
 (l:∀b,H b=some (.own a)->H' b=some (.own a)) (m:∀b xs,H b=some (.tup xs)->H' b=some (.tup xs)):ObjOk P w H' h' a o:=by
 induction o with
 |lst xs=>obtain⟨z,its,n,r,e⟩:=x;exact⟨z,its,n,r,k _ _ (.inl rfl) e⟩
 |tup xs=>obtain⟨z,its,r,g,e,c⟩:=x;exact⟨z,its,r,g,k _ _ (.inl rfl) e,c⟩
 |dK kvs=>obtain⟨z,y,vs,r,g,es,i,e,c⟩:=x;exact⟨z,y,vs,r,g,es,i,k _ _ (.inl rfl) e,c⟩
 |dT kvs=>obtain⟨z,y,xs,r,g,es,i,e,c⟩:=x;exact⟨z,y,xs,Paired.MU r λp q z=>⟨z.1,m _ _ z.2.1,z.2.2⟩,g,es,i,k _ _ (.inl rfl) e,c⟩
 |set S n=>obtain⟨g,es,i,t,e,c⟩:=x;exact⟨g,es,i,t,k _ _ (.inl rfl) e,c⟩
 |ins C A fs=>obtain⟨d,z,ne,e,j,⟨od,es,i,e2,c⟩,r⟩:=x;exact⟨l _ d,z,ne,k _ _ (.inl rfl) e,j,⟨od,es,i,k _ _ (.inr d) e2,c⟩,r⟩
 |own y=>obtain⟨g,e⟩:=x;exact⟨g,k _ _ (.inl rfl) e⟩
 |xd fs=>obtain⟨j,⟨od,es,i,e,c⟩,r⟩:=x;exact⟨j,⟨od,es,i,k _ _ (.inl rfl) e,c⟩,r⟩
 |Sz lo B=>obtain⟨t,u,v,e⟩:=x;exact⟨t,u,v,k _ _ (.inl rfl) e⟩
 |aZ g u s=>obtain⟨e,q⟩:=x;exact⟨k _ _ (.inl rfl) e,s q⟩
 |xn ps=>have e:h.get? a=some {cls:=.none,data:=.fields ps}:=x;show h'.get? a=some {cls:=.none,data:=.fields ps};exact k a _ (.inl rfl) e
 |met f y=>have e:h.get? a=some (PySem.W.methodObj (.ref f) (.ref y)):=x;show h'.get? a=some (PySem.W.methodObj (.ref f) (.ref y));exact k a _ (.inl rfl) e
 |ext D=>obtain⟨p,⟨o,e⟩,st⟩:=x;exact⟨st _ _ p λo q=>k _ _ (.inl rfl) q,⟨o,k _ _ (.inl rfl) e⟩,st⟩
theorem HOk.lt(x:HOk P w H h)(e:H a=some o):a<h.objs.size:=(x a o e).lt
def HOk.fresh(x:HOk P w H h)(e:h.objs.size<=a):H a=none:=by
 cases q:H a with
 |none=>rfl
 |some u=>exact absurd (Ue (x.lt q) e) (Vu _)
def HOk.kept(x:HOk P w H h)(k:∀b u,h.get? b=some u->h'.get? b=some u):HOk P w H h':=λa o e=>(x a o e).stay (λb u _ q=>k b u q) (λ_ q=>q) λ_ _ q=>q
def HOk.laid(x:HOk P w H h)(k:∀b u,h.get? b=some u->h'.get? b=some u)(g:h.objs.size<=a)(new:ObjOk P w (aP H a o) h' a o):HOk P w (aP H a o) h':=λb u e=>by
 have d:=x.fresh g;by_cases f:b=a
 .subst f;rw[ag]at e;cases e;exact new
 .rw[af f]at e;exact(x b u e).stay (λc v _ q=>k c v q) (λc q=>by rw[af (ai q d)];exact q) λc xs q=>by rw[af (ai q d)];exact q
end
def Rd(H:Hp)(a:Addr)(u:HO):Prop:=H a=some u\/∃o,H a=some (.aZ o u)
def Rd.ok(r:Rd H a u)(x:HOk P w H h):ObjOk P w H h a u:=by
 rcases r with r|⟨o,r⟩
 .exact x a u r
 .obtain⟨_,q⟩:=x a _ r;exact q
noncomputable def Ni:Option HO->Prop
 |some (.lst _)=>True
 |some (.dK _)=>True
 |some (.dT _)=>True
 |some (.set _ _)=>True
 |some (.ins _ _ _)=>True
 |some (.ext _)=>True
 |_=>False
section
variable{P:Xv}{w:World}{H:Hp}{h h':Heap}{x e:Addr}{o':HO}
def HOk.write(ok:HOk P w H h)(mu:Ni (H x))(m:e=x\/H e=some (.own x))(k:∀b u,b≠e->h.get? b=some u->h'.get? b=some u)(f:∃u,h'.get? e=some u)
 (new:ObjOk P w (aP H x o') h' x o'):HOk P w (aP H x o') h':=λb u q=>by
 have a:∀c y,H c=some (.own y)->c≠x:=λc y r z=>by subst z;rw[r]at mu;exact mu
 have d:∀c xs,H c=some (.tup xs)->c≠x:=λc xs r z=>by subst z;rw[r]at mu;exact mu
 by_cases i:b=x
 .subst i;rw[ag]at q;cases q;exact new
 .rw[af i]at q;by_cases g:b=e
  .have j:H b=some (.own x):=by
    grind
   rw[q]at j;cases j;obtain⟨v,l⟩:=f;exact⟨v,by rw[g];exact l⟩
  .refine(ok b u q).stay (λc v n r=>k c v ?_ r) (λc r=>by rw[af (a c b r)];exact r) λc xs r=>by rw[af (d c xs r)];exact r
   grind
end
def Qt(H:Hp)(b:Addr):Prop:=H b=none\/∃xs,H b=some (.tup xs)
structure Un(fs ex:List Addr) (H H':Hp) (h h':Heap):Prop where
 keep:∀b o,h.get? b=some o->Qt H b->b∉fs->b∉ex->h'.get? b=some o
 slot:∀b o,h.get? b=some o->H b=none->b∈fs->b∉ex->∃sl,h'.get? b=some {o with slots:=sl}
 free:∀b o,h.get? b=some o->H b=none->b∉ex->H' b=none
 there:∀b o,h.get? b=some o->b∉ex->∃o',h'.get? b=some o'
 rA:∀b xs,H b=some (.tup xs)->H' b=some (.tup xs)
 oY:∀b o u,H b=some (.aZ o u)->H' b=some (.aZ o u)
 xA:∀b ps,H b=some (.xn ps)->∃more,H' b=some (.xn (ps++more))
section
variable{fs ex:List Addr}{H H1:Hp}{h h1 h':Heap}{a x e:Addr}{o:HO}
def Un.any(u:Un fs ex H H1 h h1)(q:h.get? b=some ob)(n:H b=none)(c:b∉ex):∃sl,h1.get? b=some {ob with slots:=sl}:=by
 by_cases d:b∈fs
 .exact u.slot b ob q n d c
 .exact⟨ob.slots,u.keep b ob q (.inl n) d c⟩
def Un.kept(k:∀b u,h.get? b=some u->h'.get? b=some u):Un fs ex H H h h':=⟨λb c q _ _ _=>k b c q,λb c q _ _ _=>⟨c.slots,k b c q⟩,λ_ _ _ n _=>n,λb c q _=>⟨c,k b c q⟩,λ_ _ q=>q,λ_ _ _ q=>q,λ_ ps q=>⟨#[],by rw[q];simp⟩⟩
def Un.refl:Un fs ex H H h h:=Un.kept λ_ _ q=>q
def Un.laid(k:∀b u,h.get? b=some u->h'.get? b=some u)(hp:h.objs.size<=a)(hn:H a=none):Un fs ex H (aP H a o) h h' where
 keep:=λb u q _ _ _=>k b u q
 slot:=λb u q _ _ _=>⟨u.slots,k b u q⟩
 free:=λb u q n _=>by rw[af (T5 (Ue (TC q) hp))];exact n
 there:=λb u q _=>⟨u,k b u q⟩
 rA:=λb xs q=>by rw[af (ai q hn)];exact q
 oY:=λb u xs q=>by rw[af (ai q hn)];exact q
 xA:=λb ps q=>⟨#[],by rw[af (ai q hn),q];simp⟩
def Un.write(mu:Ni (H x))(j:e=x\/H e=some (.own x))(k:∀b u,b≠e->h.get? b=some u->h'.get? b=some u)(d:∃u,h'.get? e=some u):Un fs ex H (aP H x o) h h':=by
 have l:∀b,H b=none->b≠x:=λb n z=>by subst z;rw[n]at mu;exact mu
 have g:∀b,H b=none->b≠e:=λb n z=>by grind
 have f:∀b u,H b=some u->¬Ni (some u)->b≠x:=λb u q m z=>by subst z;rw[q]at mu;exact m mu
 refine⟨λb u q n _ _=>k b u (n.elim (g b) λ⟨xs,i⟩ z=>by rcases j with r|r;(·rw[<- r,<- z,i]at mu;exact mu);(·rw[<- z,i]at r;cases r)) q,λb u q n _ _=>⟨u.slots,k b u (g b n) q⟩,λb u q n _=>by rw[af (l b n)];exact n,λb u q _=>?_,
  λb xs q=>by rw[af (f b _ q λz=>z)];exact q,λb u xs q=>by rw[af (f b _ q λz=>z)];exact q,λb ps q=>⟨#[],by rw[af (f b _ q λz=>z),q];simp⟩⟩
 by_cases c:b=e
 .subst c;exact d
 .exact⟨u,k b u c q⟩
end
noncomputable def QL(h:Heap)(H:Hp):List Addr:=(List.range h.objs.size).filter λa=>(H a).isSome
def vm(h:Heap)(H:Hp):Heap:=PySem.W.hideAll h (QL h H)
def Ax(h:Heap)(H:Hp):(vm h H).objs.size=h.objs.size:=PySem.W.hideAll_size _ _
def vn(e:h.get? b=some o)(n:H b=none):(vm h H).get? b=some o:=PySem.W.hideAll_get _ e λa=>by have q:(H b).isSome=true:=(Ug.mp a).2;rw[n]at q;simp at q
def Fz(e:(vm h H).get? b=some o):h.get? b=some o/\H b=none:=by
 have a:h.get? b=some o:=PySem.W.of_hideAll (QL h H) e;refine⟨a,?_⟩;cases q:H b with
 |none=>rfl
 |some x=>have c:b∈QL h H:=Ug.mpr ⟨Ur.mpr (TC a),by simp[q]⟩;have z:(vm h H).get? b=none:=PySem.W.hideAll_none (QL h H) c;rw[z]at e;cases e
noncomputable def FA(g h:Heap)(L:Addr):List (Addr×Obj):=(List.range h.objs.size).filterMap λa=>if a=L\/(g.get? a).isSome=true then none else(h.get? a).map λo=>(a,o)
def rest(g h:Heap)(L d:Addr):List (Addr×Obj):=(FA g h L).filter λp=>decide (p.1≠d)
noncomputable def SV:Xw->V
 |.str x _=>.str x
 |.ref a=>.ref a
 |_=>.bn
def JE(o:Obj):Option (Addr×List V):=match o.cls with
 |.type n=>if n=="kt" then(match o.data with
  |.seq its _=>(match its.toList with
   |.ref a::r=>some (a,r.map SV)
   |_=>none)
  |_=>none)else none
 |_=>none
def Q2(K:Xu)(H:Hp):Prop:=∀p∈K,∀a xs,JE p.2=some (a,xs)->H a=some (.tup xs)
structure Mod(K:Xu) (mg:Str->Option Xw) (base:Heap):Prop where
 lT:K.In base
 glob:base.Ns mainGlobals mg
 blt:∃mb,base.Ns builtinsNs mb/\∀x:Str,x≠"__name__"->mb x=bootBuiltins x
 nolimit:base.NoLimit
structure Cx where
 prog:Xv
 w:World
 K:Xu
 mg:Str->Option Xw
 base:Heap
 A:Xx
 N:List Str
 s₀:Xt
 H₀:Hp
 env:Env
 outer:List Env
 stack:List Env
 ex:List Addr
 fn:Str->Bool
 calm:Bool
 pn:List (Addr×Obj)
 xe:Xw->Xt->Prop
noncomputable def B9(l:List Env):List Addr:=l.filterMap (·.frame)
abbrev Cx.fs(X:Cx):List Addr:=B9 X.outer
def QM(a:Scope)(x:Str):Prop:=a.names.lookup x=some .local\/a.names.lookup x=some .cell\/a.names.lookup x=some .free
def JF(a:Scope)(x:Str):Prop:=a.names.lookup x=some .local\/a.names.lookup x=some .cell
def Q3(env:Env)(h:Heap)(m:Str->Option Xw)(x:Str)(u:Xw):Prop:=(env.kindOf x=some .local/\m x=some u)\/((env.kindOf x=some .cell\/env.kindOf x=some .free)/\∃c,env.cells.lookup x=some c/\h.IsCell c (some u))
structure Cx.Ok(X:Cx):Prop where
 mod:Mod X.K X.mg X.base
 kind:X.env.scope.kind=.function
 glob:X.env.globals=mainGlobals
 blt:X.env.builtins=builtinsNs
 above:X.s₀.heap.objs.size<=X.env.locals
 inj:∀x y c,X.env.cells.lookup x=some c->X.env.cells.lookup y=some c->x=y
 has:∀x,(X.env.kindOf x=some .cell\/X.env.kindOf x=some .free)->∃c,X.env.cells.lookup x=some c
 Ny:∀x c,X.fn x=true->X.env.cells.lookup x=some c->X.s₀.heap.objs.size<=c
 hd:X.calm=true->X.A.handled=none
 frames:X.A.frames=some X.stack
 QI:X.stack=X.outer\/(X.stack=X.env::X.outer/\X.env.frame=some X.env.locals)
 Sv:∀b∈X.ex,b≠X.env.locals/\∀x c,X.env.cells.lookup x=some c->c≠b
 bs:∀b o,X.base.get? b=some o->X.s₀.heap.get? b=some o/\X.H₀ b=none
 Fu:X.base.objs.size<=X.s₀.heap.objs.size
 BY:∀b o,X.base.get? b=some o->b∉X.ex
 Fh:∀b∈X.ex,b∉X.fs
 oo:X.s₀.heap.FunFrames X.base X.outer
 Jr:∀b∈X.fs,X.H₀ b=none
 kt:Q2 X.K X.H₀
structure Inv(X:Cx) (aa:List (Addr×Obj)) (σ:List (Option V)) (H:Hp) (s:Xt):Prop where
 ok:X.Ok
 os:s.os=X.s₀.os
 bare:AllBare s.gens
 base:Un X.fs X.ex X.H₀ H X.s₀.heap s.heap
 loc:∃m,s.heap.Ns X.env.locals m/\∀(i:Nat)(x:Str)(v:V),X.N[i]?=some x->σ[i]?=some (some v)->QM X.env.scope x->∃u,RelV v u/\Q3 X.env s.heap m x u
 cell:∀x c,X.env.cells.lookup x=some c->∃v,s.heap.IsCell c v
 free:H X.env.locals=none
 i_:∀x c,X.env.cells.lookup x=some c->H c=none
 pin:∀p∈X.pn++aa,s.heap.get? p.1=some p.2/\H p.1=none/\p.1≠X.env.locals/\p.1∉X.fs/\∀v,p.2.data≠.cell v
 aS:HOk X.prog X.w H s.heap
 len:σ.length=X.N.length
section
variable{X:Cx}{aa:List (Addr×Obj)}{σ:List (Option V)}{H H':Hp}{s:Xt}{h':Heap}
def Cx.Ok.SA(ok:X.Ok)(e:X.base.get? b=some o):b∉X.fs:=λa=>by have:=(ok.oo.mem a).1;rw[e]at this;cases this
theorem Inv.bs(I:Inv X aa σ H s):∀b o,X.base.get? b=some o->s.heap.get? b=some o/\H b=none:=λb o e=>⟨I.base.keep b o (I.ok.bs b o e).1 (.inl (I.ok.bs b o e).2) (I.ok.SA e) (I.ok.BY b o e),I.base.free b o (I.ok.bs b o e).1 (I.ok.bs b o e).2 (I.ok.BY b o e)⟩
theorem Inv.kt(I:Inv X aa σ H s):Q2 X.K H:=λp b a xs e=>I.base.rA a xs (I.ok.kt p b a xs e)
def Inv.bk(I:Inv X aa σ H s):∀b o,X.base.get? b=some o->s.heap.get? b=some o:=λb o e=>(I.bs b o e).1
theorem Inv.mod(I:Inv X aa σ H s):Mod X.K X.mg X.base:=I.ok.mod
def Inv.ol(I:Inv X aa σ H s):X.K.In s.heap:=I.ok.mod.lT.keeps I.bk
theorem Inv.lt(I:Inv X aa σ H s):X.env.locals<s.heap.objs.size:=let ⟨_,a,_⟩:=I.loc;a.lt
def Inv.sz(I:Inv X aa σ H s):X.s₀.heap.objs.size<=s.heap.objs.size:=Ua I.ok.above (WH I.lt)
def Inv.Sx(I:Inv X aa σ H s)(h:s.heap.objs.size<=a):a∉X.fs:=λb=>by obtain⟨_,o,c,_⟩:=I.ok.oo.mem b;exact absurd (Ue (TC c) (Ua I.sz h)) (Vu _)
def Inv.M_(I:Inv X aa σ H s):∀x c,X.env.cells.lookup x=some c->c≠X.env.locals:=λx c e z=>by obtain⟨v,o,d,hd⟩:=I.cell x c e;obtain⟨m,⟨f,es,g,a,b,_⟩,_⟩:=I.loc;rw[z,a]at d;cases d;rw[b]at hd;cases hd
theorem Inv.oo(I:Inv X aa σ H s):s.heap.FunFrames X.base X.outer:=by
 have all:∀(l:List Env),(∀b∈B9 l,b∈X.fs)->X.s₀.heap.FunFrames X.base l->s.heap.FunFrames X.base l:=by
  intro l;induction l with
  |nil=>intro _ _;trivial
  |cons env r f=>intro hs g;obtain⟨h,⟨L,o,a,i,j,hd⟩,k⟩:=g;have c:L∈X.fs:=hs L (by unfold B9;rw[Wl,a];exact TF);obtain⟨sl,e⟩:=I.base.slot L o j (I.ok.Jr L c) c λz=>I.ok.Fh L z c;exact⟨h,⟨L,_,a,i,e,hd⟩,f (λb d=>hs b (by unfold B9;rw[Wl,a];exact TB _ d)) k⟩
 exact all X.outer (λ_ d=>d) I.ok.oo
theorem Inv.stack(I:Inv X aa σ H s):s.heap.FunFrames X.base X.stack:=by
 rcases I.ok.QI with e|⟨e,a⟩
 .rw[e];exact I.oo
 .rw[e];obtain⟨m,b,_⟩:=I.loc;refine .cons (by rw[I.ok.kind];decide) a b ?_ I.oo;exact Heap.get?_none_of_le (Ua I.ok.Fu I.ok.above)
def Inv.vg(I:Inv X aa σ H s):∀b∈B9 X.stack,b∈X.env.locals::X.fs:=λb a=>by
 rcases I.ok.QI with e|⟨e,c⟩
 .rw[e]at a;exact TB _ a
 .rw[e]at a;unfold B9 at a;rw[Wl,c]at a;exact a
def Inv.Ar(I:Inv X aa σ H s):∀b∈B9 X.stack,H b=none:=λb hb=>by
 rcases TH.mp (I.vg b hb)with e|hb
 .rw[e];exact I.free
 .obtain⟨_,o,a,_⟩:=I.ok.oo.mem hb;exact I.base.free b o a (I.ok.Jr b hb) λz=>I.ok.Fh b z hb
def Inv.step{d':Drawn}{ch:List Addr}(I:Inv X aa σ H s)
 (f:∀b∈ch,(b∈X.ex\/X.s₀.heap.objs.size<=b)/\b≠X.env.locals/\(∀x c,X.env.cells.lookup x=some c->c≠b)/\∀p∈X.pn++aa,p.1≠b)
 (keep:∀b o,b≠X.env.locals->b∉X.fs->b∉ch->s.heap.get? b=some o->Qt H b->h'.get? b=some o)
 (slot:∀b o,b≠X.env.locals->b∈X.fs->b∉ch->s.heap.get? b=some o->H b=none->∃sl,h'.get? b=some {o with slots:=sl}) (free:∀b o,b∉ch->s.heap.get? b=some o->H b=none->H' b=none)
 (there:∀b o,b∉ch->s.heap.get? b=some o->∃A,h'.get? b=some A)
 (rA:∀b xs,H b=some (.tup xs)->H' b=some (.tup xs)) (oY:∀b o u,H b=some (.aZ o u)->H' b=some (.aZ o u)) (xA:∀b ps,H b=some (.xn ps)->∃more,H' b=some (.xn (ps++more)))
 (ns:∀m,s.heap.Ns X.env.locals m->h'.Ns X.env.locals m) (aS:HOk X.prog X.w H' h') (G:AllBare g') :
 Inv X aa σ H' {s with heap:=h',gens:=g',drawn:=d',toks:=t'}:=by
 have B:∀b o,X.s₀.heap.get? b=some o->b≠X.env.locals:=λb o e=>T5 (Ue (TC e) I.ok.above);have j:∀b o,X.s₀.heap.get? b=some o->b∉X.ex->b∉ch:=λb o e a t=>by
  rcases(f b t).1 with z|z
  .exact a z
  .exact absurd (Ue (TC e) z) (Vu _)
 have g:∀x c,X.env.cells.lookup x=some c->∀v,s.heap.IsCell c v->h'.IsCell c v:=λx c e v ⟨o,y,hd⟩=>by
  have h:c∉ch:=λz=>(f c z).2.2.1 x c e rfl;by_cases D:c∈X.fs
  .obtain⟨sl,q⟩:=slot c o (I.M_ x c e) D h y (I.i_ x c e);exact⟨_,q,hd⟩
  .exact⟨o,keep c o (I.M_ x c e) D h y (.inl (I.i_ x c e)),hd⟩
 refine⟨I.ok,I.os,G,⟨λb o e n t a=>?_,λb o e n t a=>?_,λb o e n a=>?_,λb o e a=>?_,λb xs e=>rA b xs (I.base.rA b xs e),λb o xs e=>oY b o xs (I.base.oY b o xs e),λb ps e=>?_⟩,?_,λx c e=>?_,?_,λx c e=>?_,λp E=>?_,aS,I.len⟩
 .exact keep b o (B b o e) t (j b o e a) (I.base.keep b o e n t a) (n.imp (λn=>I.base.free b o e n a) λ⟨xs,q⟩=>⟨xs,I.base.rA b xs q⟩)
 .obtain⟨sl,e1⟩:=I.base.slot b o e n t a;obtain⟨C,e2⟩:=slot b _ (B b o e) t (j b o e a) e1 (I.base.free b o e n a);exact⟨C,e2⟩
 .obtain⟨A,e1⟩:=I.base.there b o e a;exact free b A (j b o e a) e1 (I.base.free b o e n a)
 .obtain⟨A,e1⟩:=I.base.there b o e a;exact there b A (j b o e a) e1
 .obtain⟨L,e1⟩:=I.base.xA b ps e
  grind
 .obtain⟨m,J,K⟩:=I.loc;refine⟨m,ns m J,λi x v e1 e2 e3=>?_⟩;obtain⟨u,r,l⟩:=K i x v e1 e2 e3;refine⟨u,r,?_⟩;rcases l with l|⟨k,c,e,z⟩
  .exact .inl l
  .exact .inr ⟨k,c,e,g x c e _ z⟩
 .obtain⟨v,z⟩:=I.cell x c e;exact⟨v,g x c e v z⟩
 .obtain⟨m,⟨o,_,_,y,_⟩,_⟩:=I.loc;exact free _ o (λz=>(f _ z).2.1 rfl) y I.free
 .obtain⟨v,o,y,hd⟩:=I.cell x c e;exact free c o (λz=>(f c z).2.2.1 x c e rfl) y (I.i_ x c e)
 .obtain⟨e,n,ne,F,d⟩:=I.pin p E;have h:p.1∉ch:=λz=>(f p.1 z).2.2.2 p E rfl;exact⟨keep p.1 p.2 ne F h e (.inl n),free p.1 p.2 h e n,ne,F,d⟩
def Inv.un{t':Nat}(I:Inv X aa σ H s)(u:Un X.fs [] H H' s.heap h')(aS:HOk X.prog X.w H' h'):Inv X aa σ H' {s with heap:=h',toks:=t'}:=by obtain⟨m,⟨o,es,k,g,r⟩,_⟩:=id I.loc;obtain⟨sl,h⟩:=u.any g I.free (by simp);exact I.step (g':=s.gens) (d':=s.drawn) (ch:=[]) (λ_ z=>nomatch z) (λb o _ c _ e n=>u.keep b o e n c (by simp)) (λb o _ c _ e n=>u.slot b o e n c (by simp)) (λb o _ e n=>u.free b o e n (by simp)) (λb o _ e=>u.there b o e (by simp)) u.rA u.oY u.xA (λm' i=>by obtain⟨l,d,f,a,j⟩:=i;rw[g]at a;cases a;exact⟨_,d,f,h,j⟩) aS I.bare
def Inv.call{d':Drawn}{ch:List Addr}(I:Inv X aa σ H s)(u:Un (B9 X.stack) ch H H' s.heap h')(aS:HOk X.prog X.w H' h')(k:AllBare g')
 (d:∀b∈ch,(b∈X.ex\/X.s₀.heap.objs.size<=b)/\b≠X.env.locals/\(∀x c,X.env.cells.lookup x=some c->c≠b)/\∀p∈X.pn++aa,p.1≠b) :
 Inv X aa σ H' {s with heap:=h',gens:=g',drawn:=d',toks:=t'}:=by
 obtain⟨m,⟨o,es,v,j,r⟩,_⟩:=id I.loc;obtain⟨sl,g⟩:=u.any j I.free λz=>(d _ z).2.1 rfl;exact I.step (ch:=ch) d (λb o g l a e n=>u.keep b o e n (λz=>(TH.mp (I.vg b z)).elim g l) a) (λb o _ _ a e n=>u.any e n a) (λb o a e n=>u.free b o e n a) (λb o a e=>u.there b o e a) u.rA u.oY u.xA (λm' q=>by obtain⟨y,h,i,f,t⟩:=q;rw[j]at f;cases f;exact⟨_,h,i,g,t⟩) aS k
def Inv.turned{it:Addr}(I:Inv X aa σ H s)(k:∀b o,b≠it->s.heap.get? b=some o->h'.get? b=some o)(g:H it=none)(f:it≠X.env.locals)
 (h1:it∈X.ex\/X.s₀.heap.objs.size<=it) (h:∀x c,X.env.cells.lookup x=some c->c≠it) (i:∀p∈X.pn++aa,p.1≠it):Inv X aa σ H {s with heap:=h',toks:=t'}:=by
 have d:∀b u,H b=some u->b≠it:=λb u e z=>by rw[z,g]at e;cases e
 refine I.step (g':=s.gens) (d':=s.drawn) (ch:=[it]) (λb j=>?_) (λb o _ _ a e _=>k b o (λz=>a (by simp[z])) e) (λb o _ _ a e _=>⟨o.slots,k b o (λz=>a (by simp[z])) e⟩) (λ_ _ _ _ n=>n)
  (λb o a e=>⟨o,k b o (λz=>a (by simp[z])) e⟩) (λ_ _ e=>e) (λ_ _ _ e=>e) (λb ps e=>⟨#[],by rw[e];simp⟩) (λm l=>?_) (λb u e=>?_) I.bare
 .have e:b=it:=by simpa using j
  subst e;exact⟨h1,f,h,i⟩
 .obtain⟨o,es,t,w,r⟩:=l;exact⟨o,es,t,k _ o (UM f) w,r⟩
 .refine(I.aS b u e).stay (λc v a q=>k c v ?_ q) (λ_ q=>q) λ_ _ q=>q;rcases a with z|z
  .rw[z];exact d b u e
  .exact d c _ z
def Inv.tok(I:Inv X aa σ H s)(t:Nat):Inv X aa σ H {s with toks:=t}:=I.un (h':=s.heap) (t':=t) Un.refl I.aS
theorem Inv.kept(I:Inv X aa σ H s)(k:∀b u,s.heap.get? b=some u->h'.get? b=some u):Inv X aa σ H {s with heap:=h',toks:=t'}:=I.un (Un.kept k) (I.aS.kept k)
theorem Inv.laid(I:Inv X aa σ H s)(k:∀b u,s.heap.get? b=some u->h'.get? b=some u)(c:s.heap.objs.size<=a)(new:ObjOk X.prog X.w (aP H a o) h' a o) :
 Inv X aa σ (aP H a o) {s with heap:=h',toks:=t'}:=I.un (Un.laid k c (I.aS.fresh c)) (I.aS.laid k c new)
theorem Inv.write(I:Inv X aa σ H s)(mu:Ni (H x))(c:e=x\/H e=some (.own x))(k:∀b u,b≠e->s.heap.get? b=some u->h'.get? b=some u)(a:∃u,h'.get? e=some u)
 (new:ObjOk X.prog X.w (aP H x o) h' x o):Inv X aa σ (aP H x o) {s with heap:=h',toks:=t'}:=I.un (Un.write mu c k a) (I.aS.write mu c k a new)
def Inv.Aq(I:Inv X aa σ H s)(h:∀p∈pins',s.heap.get? p.1=some p.2/\H p.1=none/\p.1≠X.env.locals/\p.1∉X.fs/\∀v,p.2.data≠.cell v):Inv X pins' σ H s:=⟨I.ok,I.os,I.bare,I.base,I.loc,I.cell,I.free,I.i_,λp a=>(T1.mp a).elim (λz=>I.pin p (Uv _ z)) (h p),I.aS,I.len⟩
def vp{N:List Str}(c:N.Nodup){i j:Nat}{x:Str}(a:N[i]?=some x)(b:N[j]?=some x):i=j:=by obtain⟨h1,e1⟩:=TL.mp a;obtain⟨d,e2⟩:=TL.mp b;exact(List.getElem_inj c).mp (e1.trans e2.symm)
def sv{E:Xw->Xt->Prop}{x:Str}{v:V}{u:Xw}{Q:Unit->Xt->Prop}(I:Inv X aa σ H s)(hN:X.N.Nodup)(F:X.N[i]?=some x)(g:JF X.env.scope x)(r:RelV v u)
 (h:∀O,Inv X aa (σ.set i (some v)) H O->(∃a,Heap.SameBut a s.heap O.heap/\(a=X.env.locals\/X.env.cells.lookup x=some a))->Q () O) (hf:autoParam (X.fn x=true\/X.env.scope.names.lookup x=some .local) aM):wpAny M A (storeName X.env x u) Q E s:=by
 obtain⟨m,P,hl⟩:=id I.loc;have G:(X.env.scope.kind==.class ||(X.env.scope.kind==.module&&X.env.locals != X.env.globals))=false:=by rw[I.ok.kind];rfl
 have t:i<σ.length:=by rw[I.len];exact(TL.mp F).1
 have M_:=I.M_;have f:∀{a:Addr}{h':Heap},(∃o,s.heap.get? a=some o/\H a=none)->Heap.SameBut a s.heap h'->HOk X.prog X.w H h':=λ{a h'} ha hs b ob e=>by
  obtain⟨_,_,R⟩:=ha;refine(I.aS b ob e).stay (λc S l q=>(hs.2 c ?_).trans q) (λ_ q=>q) λ_ _ q=>q
  grind
 rcases g with hk|hk
 .refine wpAny_storeName_local hk P (λh' T hs=>?_) G;obtain⟨oL,_,_,U,_⟩:=id P;refine h _ ⟨I.ok,I.os,I.bare,⟨λb o e n B g=>?_,λb o e n B g=>?_,I.base.free,λb o e g=>?_,I.base.rA,I.base.oY,I.base.xA⟩,⟨_,T,λj y W e1 e2 e3=>?_⟩,λy c e=>?_,I.free,I.i_,λp Y=>?_,f ⟨oL,U,I.free⟩ hs,by simpa using I.len⟩ ⟨_,hs,.inl rfl⟩
  .exact(hs.2 b (T5 (Ue (TC e) I.ok.above))).trans (I.base.keep b o e n B g)
  .obtain⟨sl,e1⟩:=I.base.slot b o e n B g;exact⟨sl,(hs.2 b (T5 (Ue (TC e) I.ok.above))).trans e1⟩
  .obtain⟨Z,e1⟩:=I.base.there b o e g;exact⟨Z,(hs.2 b (T5 (Ue (TC e) I.ok.above))).trans e1⟩
  .by_cases C:j=i
   .subst C;rw[F]at e1;cases e1;rw[Up t]at e2;cases e2;exact⟨u,r,.inl ⟨hk,by simp⟩⟩
   .rw[Uw (UM C)]at e2;obtain⟨u',r',q⟩:=hl j y W e1 e2 e3;refine⟨u',r',?_⟩;rcases q with⟨k,e⟩|⟨k,c,e,z⟩
    .refine .inl ⟨k,?_⟩;have:y≠x:=λe=>C (vp hN e1 (e▸F));simp[this,e]
    .exact .inr ⟨k,c,e,z.sameBut hs (M_ y c e)⟩
  .obtain⟨S,z⟩:=I.cell y c e;exact⟨S,z.sameBut hs (M_ y c e)⟩
  .obtain⟨e,n,ne,nf,d⟩:=I.pin p Y;exact⟨(hs.2 p.1 ne).trans e,n,ne,nf,d⟩
 .have D:X.fn x=true:=by
   rcases hf with z|z
   .exact z
   .rw[z]at hk;cases hk
  obtain⟨c,l⟩:=I.ok.has x (.inl hk);obtain⟨S,z⟩:=I.cell x c l;refine wpAny_storeName_cell I.ok.kind hk l z (λh' J hs=>?_);obtain⟨oc,hoc,hocd⟩:=id z;refine h {s with heap:=h'} ⟨I.ok,I.os,I.bare,⟨λb o e n B g=>?_,λb o e n B g=>?_,I.base.free,λb o e g=>?_,I.base.rA,I.base.oY,I.base.xA⟩,⟨m,P.sameBut hs (UM (M_ x c l)),λj y W e1 e2 e3=>?_⟩,λy L e=>?_,I.free,I.i_,λp Y=>?_,f ⟨oc,hoc,I.i_ x c l⟩ hs,by simpa using I.len⟩ ⟨c,hs,.inr l⟩
  .exact(hs.2 b (T5 (Ue (TC e) (I.ok.Ny x c D l)))).trans (I.base.keep b o e n B g)
  .obtain⟨sl,e1⟩:=I.base.slot b o e n B g;exact⟨sl,(hs.2 b (T5 (Ue (TC e) (I.ok.Ny x c D l)))).trans e1⟩
  .obtain⟨Z,e1⟩:=I.base.there b o e g;exact⟨Z,(hs.2 b (T5 (Ue (TC e) (I.ok.Ny x c D l)))).trans e1⟩
  .by_cases C:j=i
   .subst C;rw[F]at e1;cases e1;rw[Up t]at e2;cases e2;exact⟨u,r,.inr ⟨.inl hk,c,l,J⟩⟩
   .rw[Uw (UM C)]at e2;obtain⟨u',r',q⟩:=hl j y W e1 e2 e3;refine⟨u',r',?_⟩;rcases q with q|⟨k,L,e,z'⟩
    .exact .inl q
    .refine .inr ⟨k,L,e,z'.sameBut hs ?_⟩;rintro rfl;exact C (vp hN e1 (I.ok.inj _ _ _ e l▸F))
  .by_cases K:L=c
   .subst K;exact⟨_,J⟩
   .obtain⟨w2,z2⟩:=I.cell y L e;exact⟨w2,z2.sameBut hs K⟩
  .obtain⟨e,n,ne,nf,d⟩:=I.pin p Y;refine⟨(hs.2 p.1 ?_).trans e,n,ne,nf,d⟩
   grind
def vq(I:Inv X aa σ H s)(b:X.N.Nodup)(c:X.N[i]?=some x)(d:JF X.env.scope x)(r:RelV v u)
 (h:∀a,Inv X aa (σ.set i (some v)) H a->Q () a) (e:autoParam (X.fn x=true\/X.env.scope.names.lookup x=some .local) aM):wpAny M A (storeName X.env x u) Q E s:=
 sv I b c d r (λa f _=>h a f) e
def Inv.Qz(I:Inv X aa σ H s)(d:s'.os=s.os)(u:Un (B9 X.stack) ch H H' s.heap s'.heap)(aS:HOk X.prog X.w H' s'.heap)(f:AllBare s'.gens)
 (a:∀b∈ch,(b∈X.ex\/X.s₀.heap.objs.size<=b)/\b≠X.env.locals/\(∀x c,X.env.cells.lookup x=some c->c≠b)/\∀p∈X.pn++aa,p.1≠b):Inv X aa σ H' s':=by
 obtain⟨h',g',d',t',g⟩:=s';have e:g=s.os:=d;subst e;exact I.call (g':=g') (t':=t') (d':=d') u aS f a
end
abbrev XK:=Xw->Option Addr->Hp->Prop
noncomputable abbrev St:=List (Option V)
abbrev VK:=V->Hp->Prop
abbrev TE:=St->Hp->VK->Prop
abbrev TT:=St->Hp->(Bool->Hp->Prop)->Prop
abbrev TA:=St->Hp->(List V->Hp->Prop)->Prop
structure Ends where
 nx:St->Hp->Prop
 rt:VK
 bk:St->Hp->Prop:=λ_ _=>False
 ct:St->Hp->Prop:=λ_ _=>False
abbrev TS:=Ends->St->Hp->Prop
def EP(X:Cx)(aa:List (Addr×Obj))(σ:St)(Q:VK)(u:Xw)(a:Xt):Prop:=∃v H',Inv X aa σ H' a/\RelV v u/\Q v H'
def TP(X:Cx)(aa:List (Addr×Obj))(σ:St)(Q:Bool->Hp->Prop)(b:Bool)(a:Xt):Prop:=∃H',Inv X aa σ H' a/\Q b H'
def AP(X:Cx)(aa:List (Addr×Obj))(σ:St)(Q:List V->Hp->Prop)(us:List Xw)(a:Xt):Prop:=∃vs H',Inv X aa σ H' a/\Vals vs us/\Q vs H'
def SP(X:Cx)(aa:List (Addr×Obj))(D:Ends)(f:Flow)(b:Xt):Prop:=
 match f with
 |.next=>∃a H',Inv X aa a H' b/\D.nx a H'
 |.brk=>∃a H',Inv X aa a H' b/\D.bk a H'
 |.cont=>∃a H',Inv X aa a H' b/\D.ct a H'
 |.ret u=>∃v a H',Inv X aa a H' b/\RelV v u/\D.rt v H'
def PE(X:Cx)(e:Expr)(t:TE):Prop:=∀(aa:List (Addr×Obj))(s:Xt)(σ:St)(H:Hp)(Q:VK),Inv X aa σ H s->t σ H Q->wpAny (model X.prog X.w) X.A (eval e X.env) (EP X aa σ Q) X.xe s
def PT(X:Cx)(e:Expr)(t:TT):Prop:=∀(aa:List (Addr×Obj))(s:Xt)(σ:St)(H:Hp)(Q:Bool->Hp->Prop),Inv X aa σ H s->t σ H Q->wpAny (model X.prog X.w) X.A (isTrue e X.env (eval e X.env)) (TP X aa σ Q) X.xe s
def PW(X:Cx)(e:Expr)(t:TT):Prop:=∀(a:Sem Xw)(aa:List (Addr×Obj))(s:Xt)(σ:St)(H:Hp)(Q:Bool->Hp->Prop),Inv X aa σ H s->t σ H Q->wpAny (model X.prog X.w) X.A (isTrue e X.env a) (TP X aa σ Q) X.xe s
def PW.pt(h:PW X e t):PT X e t:=h _
def PA(X:Cx)(es:List Expr)(t:TA):Prop:=∀(a:Pos)(aa:List (Addr×Obj))(s:Xt)(σ:St)(H:Hp)(Q:List V->Hp->Prop),Inv X aa σ H s->t σ H Q->wpAny (model X.prog X.w) X.A (spliced (backTo a (starEach es X.env))) (AP X aa σ Q) X.xe s
def PS(X:Cx)(st:Stmt)(t:TS):Prop:=∀(aa:List (Addr×Obj))(s:Xt)(σ:St)(H:Hp)(D:Ends),Inv X aa σ H s->t D σ H->wpAny (model X.prog X.w) X.A (exec st X.env) (SP X aa D) X.xe s
def PSs(X:Cx)(st:List Stmt)(t:TS):Prop:=∀(aa:List (Addr×Obj))(s:Xt)(σ:St)(H:Hp)(D:Ends),Inv X aa σ H s->t D σ H->wpAny (model X.prog X.w) X.A (execs st X.env) (SP X aa D) X.xe s
def bR{α:Type}{t:Sem α}{Q b:α->Xt->Prop}{M:Model}{A:Xx}{E:Xw->Xt->Prop}{s:Xt}(h:wpAny M A t Q E s)(c:∀a s,Q a s->b a s):wpAny M A t b E s:=U9 h c λ_ _ x=>x
section
variable{X:Cx}
noncomputable def aI(i:Nat):TE:=λσ H Q=>∃v,σ[i]?=some (some v)/\Q v H
noncomputable def tC(v:V):TE:=λ_ H Q=>Q v H
def JG(g:X.N[i]?=some x)(j:QM X.env.scope x)(hd:autoParam ((x==("__debug__" : Str))=false) am) (d:autoParam ((x==("__classdict__" : Str))=false) am):PE X (.Name x pos) (aI i):=by
 intro aa s σ H Q I h;obtain⟨v,e,h⟩:=h;obtain⟨m,k,n⟩:=I.loc;obtain⟨u,r,l⟩:=n i x v g e j;have b:EP X aa σ Q u s:=⟨v,H,I,r,h⟩;rcases l with⟨hk,o⟩|⟨hk,c,f,a⟩
 .exact wpAny_Name (wpAny_loadName_local I.ok.kind hk k o b) hd
 .rcases hk with hk|hk
  .exact wpAny_Name (wpAny_loadName_cell I.ok.kind hk f a b) hd
  .exact wpAny_Name (wpAny_loadName_free I.ok.kind hk f a b d) hd
def aQ{i j pos}:PE X (.Constant (.int i) j pos) (tC (.int i)):=λ_ _ _ H _ I h=>wpAny_Constant_int ⟨.int i,H,I.tok _,⟨_,rfl⟩,h⟩
def Nz{b j pos}:PE X (.Constant (.bool b) j pos) (tC (.bl b)):=λ_ _ _ H _ I h=>Constant_bool ⟨.bl b,H,I,rfl,h⟩
def lI{j pos}:PE X (.Constant .none j pos) (tC .bn):=λ_ _ _ H _ I h=>Constant_none ⟨.bn,H,I,rfl,h⟩
def Gl(X:Cx)(x:Str):Prop:=X.env.kindOf x=some .globalImplicit
def tT(I:Inv X aa σ H s)(a:Gl X x)(b:X.mg x=some u)(h:Q u s)
 (hd:autoParam ((x==("__debug__" : Str))=false) am):wpAny (model X.prog X.w) X.A (eval (.Name x pos) X.env) Q E s:=
 Calls.Name_function_global I.ok.kind a (Calls.loadGlobal_global (by rw[I.ok.glob];exact I.mod.glob.keeps I.bk) b h) hd
def jS(I:Inv X aa σ H s)(a:Gl X x)(b:X.mg x=none)(c:bootBuiltins x=some u)(h:Q u s)
 (d:autoParam (x≠"__name__") am) (hd:autoParam ((x==("__debug__" : Str))=false) am):wpAny (model X.prog X.w) X.A (eval (.Name x pos) X.env) Q E s:=by
 obtain⟨f,h1,e⟩:=I.mod.blt;exact Calls.Name_function_global I.ok.kind a (Calls.loadGlobal_builtin (by rw[I.ok.glob];exact I.mod.glob.keeps I.bk) b (by rw[I.ok.blt];exact h1.keeps I.bk) ((e x d).trans c) h) hd
def FC(a:Gl X x)(b:X.mg x=none)(c:bootBuiltins x=some u)(r:RelV v u)(d:autoParam (x≠"__name__") am) (hd:autoParam ((x==("__debug__" : Str))=false) am):PE X (.Name x pos) (tC v):=λ_ _ _ H _ I h=>jS I a b c ⟨v,H,I,r,h⟩ d hd
variable{a b:Expr}{ta tb:TE}{pos:Pos}
def PC(X:Cx)(op:CmpOp)(a b:Expr)(t:TE):Prop:=
 ∀(aa:List (Addr×Obj))(s:Xt)(σ:St)(H:Hp)(Q:VK),Inv X aa σ H s->t σ H Q->
  wpAny (model X.prog X.w) X.A (eval a X.env) (λv c=>wpAny (model X.prog X.w) X.A (eval b X.env) (λu d=>wpAny (model X.prog X.w) X.A (compareOp op v u) (EP X aa σ Q) X.xe d) X.xe c) X.xe s
def vw(b:Expr)(h:op≠.In)(c:op≠.NotIn):behindInMarks op b=false:=by
 have e1:(op==CmpOp.In)=false:=by cases op<;>first|rfl|exact absurd rfl h
 have e2:(op==CmpOp.NotIn)=false:=by cases op<;>first|rfl|exact absurd rfl c
 cases b<;>simp[behindInMarks,e1,e2]
noncomputable def Q5(ta:TE):TE:=λσ H Q=>ta σ H λx c=>Q (.bl (decide (x=.bn))) c
def RelV.Fg(r:RelV x v):(v==Value.none)=decide (x=.bn):=by
 cases x with
 |bn=>cases r;rfl
 |bl _=>cases r;rfl
 |int _=>obtain⟨t,rfl⟩:=r;rfl
 |str _=>obtain⟨t,rfl⟩:=r;rfl
 |B3 _=>obtain⟨t,rfl⟩:=r;rfl
 |Jp _=>obtain⟨t,rfl⟩:=r;rfl
 |ref _=>cases r;rfl
 |ty _=>cases r;rfl
def B_{j pos'}(ha:PE X a ta):PC X .Is a (.Constant .none j pos') (Q5 ta):=by intro aa s σ H Q I h;refine bR (ha aa s σ H _ I h) λv s1 ⟨x,c,d,e,q1⟩=>?_;exact Constant_none (is_none_gen ⟨.bl _,c,d,by rw[e.Fg];rfl,q1⟩)
noncomputable def tB(t:TE):TT:=λσ H Q=>t σ H λx d=>∃c,x=.bl c/\Q c d
def JH(h:PC X op a b t)(h1:behindInMarks op b=false:=by first|exact vw _ (by decide) (by decide)|rfl):PE X (.Compare a [op] [b] pos) t:=λaa s σ H Q I c=>wpAny_Compare1 (h aa s σ H Q I c) h1
def JI(h:PC X op a b t)(h1:behindInMarks op b=false:=by first|exact vw _ (by decide) (by decide)|rfl):PT X (.Compare a [op] [b] pos) (tB t):=by intro aa s σ H Q I e;refine wpAny_isTrue_Compare1 (bR (h aa s σ H _ I e) λv s1 h1=>bR h1 λu s2 f=>bR f λc k ⟨x,g,i,j,q1⟩=>?_) h1;obtain⟨d,rfl,q⟩:=q1;cases j;exact Vb ⟨g,i,q⟩
def JJ(h:PE X e t)(f:autoParam (∀c,isTrue e X.env c=(do let v <- c;standAt e.pos;holding [v] (truthy v))) ab):PT X e (tB t):=by intro aa s σ H Q I g;refine isTrue_plain (bR (h aa s σ H _ I g) λv s1 ⟨x,i,j,k,q1⟩=>?_) (f _);obtain⟨d,rfl,q⟩:=q1;cases k;exact Vb ⟨i,j,q⟩
variable{tA tB':TT}{rest:List Expr}
noncomputable def Q7(t u:TT):TT:=λσ H Q=>t σ H λc d=>if c=true then u σ d Q else Q false d
noncomputable def SF(t u:TT):TT:=λσ H Q=>t σ H λc d=>if c=true then Q true d else u σ d Q
noncomputable def NA(t:TT):TT:=λσ H Q=>t σ H λc d=>Q (!c) d
def FD(ha:PT X a tA):PW X (.BoolOp .And [a] pos) tA:=by
 intro d aa s σ H Q I h;refine isTrue_and (bR (ha aa s σ H Q I h) λc s1 e=>?_);cases c with
 |true=>exact isTrue_and_nil e
 |false=>exact e
def Ca(ha:PT X a tA):PW X (.BoolOp .Or [a] pos) tA:=by
 intro d aa s σ H Q I h;refine isTrue_or (bR (ha aa s σ H Q I h) λc s1 e=>?_);cases c with
 |false=>exact isTrue_or_nil e
 |true=>exact e
def JK(ha:PT X a tA)(f:PW X (.BoolOp .And (b::rest) pos) tB'):PW X (.BoolOp .And (a::b::rest) pos) (Q7 tA tB'):=by
 intro g aa s σ H Q I h;refine isTrue_and (bR (ha aa s σ H _ I h) λc s1 ⟨d,e,q1⟩=>?_);cases c with
 |true=>exact f g aa s1 σ d Q e q1
 |false=>exact⟨d,e,q1⟩
def Ib(ha:PT X a tA)(f:PW X (.BoolOp .Or (b::rest) pos) tB'):PW X (.BoolOp .Or (a::b::rest) pos) (SF tA tB'):=by
 intro g aa s σ H Q I h;refine isTrue_or (bR (ha aa s σ H _ I h) λc s1 ⟨d,e,q1⟩=>?_);cases c with
 |true=>exact⟨d,e,q1⟩
 |false=>exact f g aa s1 σ d Q e q1
def Cb(ha:PT X a tA):PT X (.UnaryOp .Not a pos) (NA tA):=by intro aa s σ H Q I h;exact isTrue_not (ha aa s σ H (λc d=>Q (!c) d) I h)
noncomputable def NB(ta tb:TE):TE:=λσ H Q=>ta σ H λx d=>∃c,x=.bl c/\if c=true then tb σ d Q else Q (.bl false) d
noncomputable def NC(ta:TE):TE:=λσ H Q=>ta σ H λx d=>∃c,x=.bl c/\Q (.bl (!c)) d
def JL{op}(h:PE X a t):PE X (.BoolOp op [a] pos) t:=λaa s σ H Q I c=>BoolOp_one (h aa s σ H Q I c)
def JM(ha:PE X a ta)(f:PE X (.BoolOp .And (b::rest) pos) tb):PE X (.BoolOp .And (a::b::rest) pos) (NB ta tb):=by
 intro aa s σ H Q I h;refine BoolOp_and (bR (ha aa s σ H _ I h) λv s1 ⟨x,d,e,g,q1⟩=>?_);obtain⟨c,rfl,q1⟩:=q1;cases g;refine Vb ?_;cases c with
 |true=>exact f aa s1 σ d Q e q1
 |false=>exact⟨.bl false,d,e,rfl,q1⟩
def JN(ha:PE X a ta):PE X (.UnaryOp .Not a pos) (NC ta):=by intro aa s σ H Q I h;refine UnaryOp_ (bR (ha aa s σ H _ I h) λv s1 ⟨x,d,e,f,q1⟩=>?_);obtain⟨c,rfl,q1⟩:=q1;cases f;exact not_of (Vb ⟨.bl (!c),d,e,rfl,q1⟩)
noncomputable def SW(t:TT)(ta tb:TE):TE:=λσ H Q=>t σ H λc d=>if c=true then ta σ d Q else tb σ d Q
def Cc(g:PT X c tA)(ha:PE X a ta)(i:PE X b tb):PE X (.IfExp c a b pos) (SW tA ta tb):=by
 intro aa s σ H Q I h;refine wpAny_IfExp (bR (g aa s σ H _ I h) λd s1 ⟨e,f,q1⟩=>?_);cases d with
 |true=>exact ha aa s1 σ e Q f q1
 |false=>exact i aa s1 σ e Q f q1
end
def SqL(K:Xu)(H:Hp)(a:Addr)(xs:List V):Prop:=
 Rd H a (.lst xs)\/
  ∃(o:Obj)(its:Array Xw)(n:Nat),K.lookup a=some o/\o.cls=.type "list"/\o.dict=none/\o.data=.seq its n/\its.size<=sizeLine/\Vals xs its.toList
def SqT(K:Xu)(H:Hp)(a:Addr)(xs:List V):Prop:=
 Rd H a (.tup xs)\/
  ∃(o:Obj)(its:Array Xw)(n:Nat),K.lookup a=some o/\o.cls=.type "tuple"/\o.data=.seq its n/\its.size<=sizeLine/\Vals xs its.toList
noncomputable def Q8:Xw->Option V
 |.none=>some .bn
 |.bool b=>some (.bl b)
 |.int i _=>some (.int i)
 |.str x _=>some (.str x)
 |.bytes b _=>some (.B3 b)
 |.float b _=>some (.Jp b)
 |.ref a=>some (.ref a)
 |.type n=>some (.ty n)
 |_=>none
def RelV.abs(r:RelV x u):Q8 u=some x:=by
 cases x with
 |bn=>cases r;rfl
 |bl _=>cases r;rfl
 |int _=>obtain⟨t,rfl⟩:=r;rfl
 |str _=>obtain⟨t,rfl⟩:=r;rfl
 |B3 _=>obtain⟨t,rfl⟩:=r;rfl
 |Jp _=>obtain⟨t,rfl⟩:=r;rfl
 |ref _=>cases r;rfl
 |ty _=>cases r;rfl
def RelV.inj(r:RelV x u)(q:RelV y u):x=y:=UL (r.abs.symm.trans q.abs)
theorem Vals.inj{xs a:List V}{us:List Xw}(h:Vals xs us)(k:Vals a us):xs=a:=by
 induction h generalizing a with
 |nil=>cases k;rfl
 |cons r _ b=>
  cases k with
  |cons c t'=>rw[r.inj c,b t']
section
variable{X:Cx}{aa:List (Addr×Obj)}{σ:St}{H:Hp}{s:Xt}{a:Addr}{xs ys:List V}
def SqL.of{K:Xu}(h:H a=some (.lst xs)):SqL K H a xs:=.inl (.inl h)
def SqT.of{K:Xu}(h:H a=some (.tup xs)):SqT K H a xs:=.inl (.inl h)
def Inv.list(I:Inv X aa σ H s)(h:SqL X.K H a xs):∃its:List Xw,Vals xs its/\PlainL s.heap a its.toArray/\xs.length<=sizeLine:=by
 rcases h with h|⟨o,its,n,b,c,hd,hs,hz,r⟩
 .obtain⟨z,its,n,r,e⟩:=h.ok I.aS;exact⟨its,r,⟨_,n,e,rfl,rfl,rfl⟩,z⟩
 .refine⟨its.toList,r,⟨o,n,I.ol a o b,c,hd,by simpa using hs⟩,?_⟩;have e:=r.length;simp only[UY]at e;lia
def Inv.tuple(I:Inv X aa σ H s)(h:SqT X.K H a xs):∃its:List Xw,Vals xs its/\IsTup s.heap a its.toArray/\xs.length<=sizeLine:=by
 rcases h with h|⟨o,its,n,b,c,hs,hz,r⟩
 .obtain⟨z,its,r,p⟩:=h.ok I.aS;exact⟨its,r,p,z⟩
 .refine⟨its.toList,r,⟨o,I.ol a o b,c,n,by simpa using hs⟩,?_⟩;have e:=r.length;simp only[UY]at e;lia
def Inv.xu(I:Inv X aa σ H s)(h:SqL X.K H a xs)(h':SqL X.K H a ys):xs=ys:=by
 obtain⟨its,r,⟨o,n,e,_,_,d⟩,_⟩:=I.list h;obtain⟨its',c,⟨f,g,b,_,_,d'⟩,_⟩:=I.list h';rw[e]at b;cases b;rw[d]at d';injection d' with d1 _;have:its=its':=by simpa using Vv Array.toList d1
 subst this;exact r.inj c
def Inv.B5(I:Inv X aa σ H s)(h:SqT X.K H a xs)(h':SqT X.K H a ys):xs=ys:=by
 obtain⟨its,r,⟨o,e,_,n,d⟩,_⟩:=I.tuple h;obtain⟨its',c,⟨f,b,_,g,d'⟩,_⟩:=I.tuple h';rw[e]at b;cases b;rw[d]at d';injection d' with d1 _;have:its=its':=by simpa using Vv Array.toList d1
 subst this;exact r.inj c
end
noncomputable abbrev Cx.su(X:Cx)(E:Xw->Xt->Prop):Cx:={X with xe:=E}
abbrev Cx.QD(X:Cx):Cx:=X.su λ_ _=>False
theorem Cx.Ok.su{X:Cx}(ok:X.Ok)(E:Xw->Xt->Prop):(X.su E).Ok:=⟨ok.mod,ok.kind,ok.glob,ok.blt,ok.above,ok.inj,ok.has,ok.Ny,ok.hd,ok.frames,ok.QI,ok.Sv,ok.bs,ok.Fu,ok.BY,ok.Fh,ok.oo,ok.Jr,ok.kt⟩
def Cx.Ok.kK{X:Cx}{E:Xw->Xt->Prop}(ok:(X.su E).Ok):X.Ok:=⟨ok.mod,ok.kind,ok.glob,ok.blt,ok.above,ok.inj,ok.has,ok.Ny,ok.hd,ok.frames,ok.QI,ok.Sv,ok.bs,ok.Fu,ok.BY,ok.Fh,ok.oo,ok.Jr,ok.kt⟩
section
variable{X:Cx}{aa:List (Addr×Obj)}{σ:St}{H:Hp}{s:Xt}{E:Xw->Xt->Prop}
theorem Inv.su(I:Inv X aa σ H s)(E:Xw->Xt->Prop):Inv (X.su E) aa σ H s:=⟨I.ok.su E,I.os,I.bare,I.base,I.loc,I.cell,I.free,I.i_,I.pin,I.aS,I.len⟩
theorem Inv.kK(I:Inv (X.su E) aa σ H s):Inv X aa σ H s:=⟨I.ok.kK,I.os,I.bare,I.base,I.loc,I.cell,I.free,I.i_,I.pin,I.aS,I.len⟩
theorem SP.kK(h:SP (X.su E) aa D f s'):SP X aa D f s':=by
 cases f with
 |next=>obtain⟨a,H',I,q⟩:=h;exact⟨a,H',I.kK,q⟩
 |brk=>obtain⟨a,H',I,q⟩:=h;exact⟨a,H',I.kK,q⟩
 |cont=>obtain⟨a,H',I,q⟩:=h;exact⟨a,H',I.kK,q⟩
 |ret u=>obtain⟨v,a,H',I,r,q⟩:=h;exact⟨v,a,H',I.kK,r,q⟩
theorem PSs.QD{st:List Stmt}(h:PSs X.QD st t):PSs X st t:=λaa s σ H D I a=>U9 (h aa s σ H D (I.su _) a) (λ_ _ q=>q.kK) λ_ _ z=>False.elim z
end
section
variable{X:Cx}{st:Stmt}{rest:List Stmt}{t u:TS}{e:Expr}{te:TE}{pos:Pos}
noncomputable def vx:TS:=λD σ H=>D.nx σ H
noncomputable def dC(t u:TS):TS:=λD σ H=>t {D with nx:=u D} σ H
def l9:PSs X [] vx:=λ_ _ σ H _ I h=>WV ⟨σ,H,I,h⟩
def aU(h1:PS X st t)(b:PSs X rest u):PSs X (st::rest) (dC t u):=by
 intro aa s σ H D I h;refine wpAny_execs_cons (bR (h1 aa s σ H {D with nx:=u D} I h) λf s1 q=>?_);cases f with
 |next=>obtain⟨a,H',c,q⟩:=q;exact b aa s1 a H' D c q
 |ret v=>exact q
 |brk=>exact q
 |cont=>exact q
def aW(h1:PS X st t):PSs X [st] t:=by
 intro aa s σ H D I h;refine wpAny_execs_cons (bR (h1 aa s σ H D I h) λf s1 q=>?_);cases f with
 |next=>exact WV q
 |ret v=>exact q
 |brk=>exact q
 |cont=>exact q
def Inv.quiet(I:Inv X aa σ H s):interactive X.env=false:=by simp[interactive,I.ok.kind]
noncomputable def eB(te:TE):TS:=λD σ H=>te σ H λ_ a=>D.nx σ a
def bV(a:PE X e te)(hs:autoParam (swapsWith e none pos.line X.env=pure false) ae):PS X (.Expr e pos) (eB te):=by intro aa s σ H D I h;exact wpAny_Expr_any (bR (a aa s σ H _ I h) λv s1 ⟨x,b,c,d,q1⟩=>⟨σ,b,c,q1⟩) I.quiet hs
noncomputable def tU(te:TE):TS:=λD σ H=>te σ H D.rt
def lJ(a:PE X e te):PS X (.Return (some e) pos) (tU te):=by intro aa s σ H D I h;exact wpAny_Return_some (bR (a aa s σ H _ I h) λv s1 ⟨x,b,c,d,q1⟩=>⟨x,σ,b,c,d,q1⟩)
noncomputable def xD(c:TT)(t u:TS):TS:=λD σ H=>c σ H λb a=>if b=true then t D σ a else u D σ a
def sA(i:PT X c tc)(ha:PSs X a t)(j:PSs X b u):PS X (.If c a b pos) (xD tc t u):=by
 intro aa s σ H D I h;refine wpAny_If (bR (i aa s σ H _ I h) λd s1 ⟨f,g,q1⟩=>?_);cases d with
 |true=>exact ha aa s1 σ f D g q1
 |false=>exact j aa s1 σ f D g q1
end
abbrev TG:=V->St->Hp->(St->Hp->Prop)->Prop
abbrev Nj:=List V->St->Hp->(St->Hp->Prop)->Prop
def PG(X:Cx)(a:Expr)(t:TG):Prop:=
 ∀(aa:List (Addr×Obj))(s:Xt)(σ:St)(H:Hp)(v:V)(u:Xw)(Q:St->Hp->Prop),Inv X aa σ H s->RelV v u->t v σ H Q->
  wpAny (model X.prog X.w) X.A (assign a X.env u) (λ_ c=>∃b H',Inv X aa b H' c/\Q b H') X.xe s
def JO(X:Cx)(ts:List Expr)(t:Nj):Prop:=
 ∀(aa:List (Addr×Obj))(s:Xt)(σ:St)(H:Hp)(vs:List V)(us:List Xw)(Q:St->Hp->Prop),Inv X aa σ H s->Vals vs us->t vs σ H Q->
  wpAny (model X.prog X.w) X.A (assignInOrder ((assignEach ts X.env).map (·.2)) us) (λ_ b=>∃a H',Inv X aa a H' b/\Q a H') X.xe s
section
variable{X:Cx}{pos:Pos}
noncomputable def aT(i:Nat):TG:=λv σ H Q=>Q (σ.set i (some v)) H
def br(a:X.N.Nodup)(b:X.N[i]?=some x)(c:JF X.env.scope x)(d:autoParam (X.fn x=true\/X.env.scope.names.lookup x=some .local) aM):PG X (.Name x pos) (aT i):=by intro aa s σ H v u Q I r h;exact wpAny_assign_Name (vq I a b c r (λf e=>⟨_,H,e,h⟩) d)
noncomputable def io:Nj:=λvs σ H Q=>vs=[]/\Q σ H
noncomputable def bc(t:TG)(u:Nj):Nj:=λvs σ H Q=>∃v r,vs=v::r/\t v σ H λa H'=>u r a H' Q
def dD:JO X [] io:=by intro aa s σ H vs us Q I r h;obtain⟨e,h⟩:=h;subst e;cases r;exact assignInOrder_nil ⟨σ,H,I,h⟩
def az(h1:PG X e t)(b:JO X es u)
 (hs:autoParam ((assignEach (e::es) X.env).map (·.2)=assign e X.env::(assignEach es X.env).map (·.2)) ae):JO X (e::es) (bc t u):=by
 intro aa s σ H vs us Q I r h;obtain⟨v,g,e1,h⟩:=h;subst e1;cases r with
 |cons r c=>rw[hs];refine assignInOrder_cons (bR (h1 aa s σ H _ _ _ I r h) λ_ s1 ⟨a,d,f,q1⟩=>?_);exact b aa s1 a d _ _ Q f c q1
noncomputable def ip(K:Xu)(n:Nat)(t:Nj):TG:=λv σ H Q=>∃a xs,v=.ref a/\SqT K H a xs/\xs.length=n/\t xs σ H Q
def gx(g:X.calm=true)(h:JO X es t)
 (i:autoParam ((assignEach es X.env).length=n) ae) (c:autoParam ((assignEach es X.env).findIdx? (·.1)=none) ae):PG X (.Tuple es k pos) (ip X.K n t):=by
 intro aa s σ H v u Q I r d;obtain⟨a,xs,e1,j,l,d⟩:=d;subst e1;cases r;obtain⟨its,f,m,hz⟩:=I.tuple j;refine assign_Tuple_tuple (I.ok.hd g) m (by simp[i,<- l,f.length]) c λh' p=>?_;have q:Inv X aa σ H {s with heap:=h'}:=I.kept (t':=s.toks) λb o e=>p b o (T5 (TC e)) e;exact h aa _ σ H xs _ Q q (by simpa using f) d
noncomputable def lK(a:TE)(g:TG):TS:=λD σ H=>a σ H λx b=>g x σ b D.nx
def JP(a:PE X e te)(b:PG X tg g)(hs:autoParam (swapsWithSole [tg] e pos.line X.env=pure false) ae)(c:autoParam (swappedStores [tg] e X.env=pure none) ae)
 (h1:autoParam ((assignEach [tg] X.env).map (·.2)=[assign tg X.env]) ae):PS X (.Assign [tg] e pos) (lK te g):=by
 intro aa s σ H D I h;refine wpAny_Assign_stores (bR (a aa s σ H _ I h) λv s1 ⟨x,d,f,i,q1⟩=>?_) hs c;rw[h1];exact bR (b aa s1 σ d x v _ f i q1) λ_ s2 q=>q
def iq(a:X.N.Nodup)(b:X.N[i]?=some x)(c:JF X.env.scope x)(d:PE X e te)(hs:autoParam (swapsWith e (some (.Name x pos')) pos.line X.env=pure false) ae)(f:autoParam (X.fn x=true\/X.env.scope.names.lookup x=some .local) aM) :
 PS X (.Assign [.Name x pos'] e pos) (lK te (aT i)):=by
 intro aa s σ H D I h;refine wpAny_Assign_Name (bR (d aa s σ H _ I h) λv s1 ⟨y,g,j,k,q1⟩=>?_) hs;exact vq j a b c k (λs2 l=>⟨_,g,l,q1⟩) f
def Cd(c:TT)(tb:TS):TS:=λD σ H=>∃W:Nat->St->Hp->Prop,(∃m,W m σ H)/\∀m σ H,W m σ H->
 c σ H λb d=>if b=true then ∃N:St->Hp->Prop,(∀a H',N a H'->∃m',m'<m/\W m' a H')/\tb {D with nx:=N,ct:=N,bk:=D.nx} σ d else D.nx σ d
def Ce(o:PassesOwn (model X.prog X.w) X.A X.env X.xe)(u:PT X c tc)(x:PSs X body tb):PS X (.While c body [] pos) (Cd tc tb):=by
 intro aa s σ H D I h;obtain⟨W,⟨m0,y⟩,turn⟩:=h;refine wpAny_While (codeAny_whileLoop (λn z=>∃e H',Inv X aa e H' z/\W n e H') ?_ m0 ⟨σ,H,I,y⟩);rintro n s1 ⟨d,p,B,C⟩;refine VL o (bR (u aa s1 d p _ B (turn n d p C)) λb s2 ⟨q,r,q2⟩=>?_);cases b with
 |true=>
  obtain⟨N,t,q2⟩:=q2;rw[Tv rfl];refine VL o (bR (x aa s2 d q _ r q2) λf E i=>?_);cases f with
  |next=>obtain⟨a,g,j,k⟩:=i;obtain⟨m',l,m⟩:=t a g k;exact⟨m',l,a,g,j,m⟩
  |cont=>obtain⟨a,g,j,k⟩:=i;obtain⟨m',l,m⟩:=t a g k;exact⟨m',l,a,g,j,m⟩
  |brk=>exact i
  |ret v=>exact i
 |false=>rw[TJ Uz];exact WV ⟨d,q,r,q2⟩
end
structure It where
 go:Nat->Hp->Prop
 Ji:Nat->Hp->V->Hp->Prop
 stop:Nat->Hp->Prop
def li(X:Cx)(aa:List (Addr×Obj))(H:Hp)(b:Addr):Prop:=H b=none/\b≠X.env.locals/\b∉X.fs/\(b∈X.ex\/X.s₀.heap.objs.size<=b)/\(∀x c,X.env.cells.lookup x=some c->c≠b)/\∀p∈X.pn++aa,p.1≠b
def Inv.rB(I:Inv X aa σ H s)(a:s.heap.objs.size<=b)(d:H' b=none):li X aa H' b:=by
 refine⟨d,V2 (Ue I.lt a),I.Sx a,.inr (Ua I.sz a),λx c e z=>?_,λp f z=>?_⟩
 .obtain⟨v,q⟩:=I.cell x c e;exact absurd (Ue q.lt (by rw[z];exact a)) (Vu _)
 .exact absurd (Ue (TC (I.pin p f).1) (by rw[z];exact a)) (Vu _)
structure Turn(P:Xv) (w:World) (K:Xu) (tg:Expr) (J:It) (fp:List Addr) (it:Addr) (tn:Nat->Heap->Prop):Prop where
 mem:it∈fp
 obj:∀i h,tn i h->∀b∈fp,∃o,h.get? b=some o/\∀v,o.data≠.cell v
 keep:∀i h h',tn i h->(∀b∈fp,∀o,h.get? b=some o->h'.get? b=some o)->tn i h'
 item:∀(X:Cx),X.prog=P->X.w=w->X.K=K->X.calm=true->∀(i:Nat)(aa:List (Addr×Obj))(s:Xt)(σ:St)(H:Hp)(E:Xw->Xt->Prop),Inv X aa σ H s->(∀b∈fp,li X aa H b)->tn i s.heap->J.go i H->
  wpAny (model P w) X.A (pyNext (.ref it)) (λr s1=>∃u,r=some u/\
   wpAny (model P w) X.A (letOwnedTupleGo tg (.ref it) u) (λ_ s2=>∃x H',Inv X aa σ H' s2/\RelV x u/\J.Ji i H x H'/\tn (i+1) s2.heap/\∀b∈fp,H' b=none) E s1) E s
 done:∀(X:Cx),X.prog=P->X.w=w->X.K=K->X.calm=true->∀(i:Nat)(aa:List (Addr×Obj))(s:Xt)(σ:St)(H:Hp)(E:Xw->Xt->Prop),Inv X aa σ H s->(∀b∈fp,li X aa H b)->tn i s.heap->J.stop i H->
  wpAny (model P w) X.A (pyNext (.ref it)) (λr s1=>r=none/\Inv X aa σ H s1) E s
 self:∀(A:Xx)(i:Nat)(s:Xt)(Q:Xw->Xt->Prop)(E:Xw->Xt->Prop),tn i s.heap->Q (.ref it) s->wpAny (model P w) A (pyIter (.ref it)) Q E s
abbrev TI:=St->Hp->(It->Hp->Prop)->Prop
def QN(X:Cx)(aa:List (Addr×Obj))(σ:St)(tg:Expr)(R:It->Hp->Prop)(a:Xw)(s2:Xt):Prop:=∃(it:Addr)(fp:List Addr)(tn:Nat->Heap->Prop)(J:It)(H':Hp),a=.ref it/\Inv X aa σ H' s2/\Turn X.prog X.w X.K tg J fp it tn/\tn 0 s2.heap/\(∀b∈fp,li X aa H' b)/\R J H'
def PI(X:Cx)(tg iter:Expr)(a:TI):Prop:=
 ∀(aa:List (Addr×Obj))(s:Xt)(σ:St)(H:Hp)(R:It->Hp->Prop),Inv X aa σ H s->a σ H R->
  wpAny (model X.prog X.w) X.A (eval iter X.env) (λv s1=>wpAny (model X.prog X.w) X.A (pyIter v) (QN X aa σ tg R) X.xe s1) X.xe s
def Cf(b:s.heap.get? it=some o)(c:o.cls=.type n)(hd:o.data=.fields vs)
 (d:["enumerate","zip","dict_itemiterator","dict_reverseitemiterator","odict_iterator","itertools.zip_longest","itertools.pairwise"].contains n=false) (a:Q () s):wpAny M A (letOwnedTupleGo tg (.ref it) u) Q E s:=by
 unfold letOwnedTupleGo;cases tg<;>first
  |exact Tu a
  |(cases u<;>first
     |exact Tu a
     |(refine KE (wpAny_load b ?_)
       rw[c,hd];show wpAny M A (if(["enumerate","zip","dict_itemiterator","dict_reverseitemiterator","odict_iterator","itertools.zip_longest","itertools.pairwise"].contains n&&vs[0]?==some (rawInt _))=true then _ else _) Q E s;rw[TJ (by intro h;rw[d,W3]at h;cases h)];exact Tu a))
noncomputable def FE(K:Xu)(a:Addr):It:=⟨λi H=>∃xs x,SqL K H a xs/\xs[i]?=some x,λi H x H'=>H'=H/\∀xs,SqL K H a xs->xs[i]?=some x,λi H=>∃xs,SqL K H a xs/\xs.length<=i⟩
noncomputable def Q9(K:Xu)(a:Addr):It:=⟨λi H=>∃xs x,SqT K H a xs/\xs[i]?=some x,λi H x H'=>H'=H/\∀xs,SqT K H a xs->xs[i]?=some x,λi H=>∃xs,SqT K H a xs/\xs.length<=i⟩
noncomputable def QO(lo:Int)(n:Nat):It:=⟨λi _=>i<n,λi H x H'=>H'=H/\x=.int (lo+i),λi _=>n<=i⟩
def sB{K:Xu}{tg:Expr}(a it:Addr):Turn P w K tg (FE K a) [it] it (λi h=>h.IsListIter it a i) where
 mem:=by simp
 obj:=λi h st b hb=>by
  have e:b=it:=by simpa using hb
  subst e;obtain⟨o,e,c,d⟩:=st;exact⟨o,e,λv z=>by rw[d]at z;cases z⟩
 keep:=λi h h' st k=>st.at λo e=>k it (by simp) o e
 item:=by intro X hP hw hK hc i aa s σ H E I hf st hg;subst hP hw hK;obtain⟨xs,x,hq,hx⟩:=hg;obtain⟨its,rv,p,hz⟩:=I.list hq;obtain⟨u,hu,ru⟩:=rv.get hx;obtain⟨f0,f1,f2,f3,f4,f5⟩:=hf it (by simp);refine wpAny_pyNext_list_item st p.isList (x:=u) (by simpa using hu) λh' st' sb=>?_;have I1:Inv X aa σ H {s with heap:=h'}:=I.turned (t':=s.toks) (λb o hb e=>(sb.2 b hb).trans e) f0 f1 f3 f4 f5;obtain⟨o,e,c,d⟩:=id st';exact⟨u,rfl,Cf (s:={s with heap:=h'}) e c d (by decide) ⟨x,H,I1,ru,⟨rfl,λys hy=>by rw[I.xu hy hq];exact hx⟩,st',λb hb=>(hf b hb).1⟩⟩
 done:=by intro X hP hw hK hc i aa s σ H E I hf st hg;subst hP hw hK;obtain⟨xs,hq,hx⟩:=hg;obtain⟨its,rv,p,hz⟩:=I.list hq;obtain⟨f0,f1,f2,f3,f4,f5⟩:=hf it (by simp);have hl:=rv.length;exact wpAny_pyNext_list_end (I.ok.hd hc) st p.isList (by simp;lia) λh' eb=>⟨rfl,I.turned (t':=s.toks) (λb o hb e=>eb b o hb e) f0 f1 f3 f4 f5⟩
 self:=λ_ _ _ _ _ st h=>wpAny_pyIter_listiter st h
def xE{K:Xu}{tg:Expr}(a it:Addr):Turn P w K tg (Q9 K a) [it] it (λi h=>h.IsTupleIter it a i) where
 mem:=by simp
 obj:=λi h st b hb=>by
  have e:b=it:=by simpa using hb
  subst e;obtain⟨o,e,c,d⟩:=st;exact⟨o,e,λv z=>by rw[d]at z;cases z⟩
 keep:=λi h h' st k=>st.at λo e=>k it (by simp) o e
 item:=by intro X hP hw hK hc i aa s σ H E I hf st hg;subst hP hw hK;obtain⟨xs,x,hq,hx⟩:=hg;obtain⟨its,rv,p,hz⟩:=I.tuple hq;obtain⟨u,hu,ru⟩:=rv.get hx;obtain⟨f0,f1,f2,f3,f4,f5⟩:=hf it (by simp);refine wpAny_pyNext_tuple_item st (show s.heap.IsTuple a its.toArray from p) (x:=u) (by simpa using hu) λh' st' sb=>?_;have I1:Inv X aa σ H {s with heap:=h'}:=I.turned (t':=s.toks) (λb o hb e=>(sb.2 b hb).trans e) f0 f1 f3 f4 f5;obtain⟨o,e,c,d⟩:=id st';exact⟨u,rfl,Cf (s:={s with heap:=h'}) e c d (by decide) ⟨x,H,I1,ru,⟨rfl,λys hy=>by rw[I.B5 hy hq];exact hx⟩,st',λb hb=>(hf b hb).1⟩⟩
 done:=by intro X hP hw hK hc i aa s σ H E I hf st hg;subst hP hw hK;obtain⟨xs,hq,hx⟩:=hg;obtain⟨its,rv,p,hz⟩:=I.tuple hq;obtain⟨f0,f1,f2,f3,f4,f5⟩:=hf it (by simp);have hl:=rv.length;exact wpAny_pyNext_tuple_end (I.ok.hd hc) st (show s.heap.IsTuple a its.toArray from p) (by simp;lia) λh' eb=>⟨rfl,I.turned (t':=s.toks) (λb o hb e=>eb b o hb e) f0 f1 f3 f4 f5⟩
 self:=λ_ _ _ _ _ st h=>wpAny_pyIter_tupleiter st h
def xF{K:Xu}{tg:Expr}(it:Addr)(lo:Int)(n:Nat):Turn P w K tg (QO lo n) [it] it (λi h=>IsRangeIter h it (lo+(i:Nat)*1) ((n:Int)-(i:Nat)) 1) where
 mem:=by simp
 obj:=λi h st b hb=>by grind
 keep:=λi h h' st k=>k it (by simp) _ st
 item:=by intro X hP hw hK hc i aa s σ H E I hf st hg;subst hP hw hK;obtain⟨f0,f1,f2,f3,f4,f5⟩:=hf it (by simp);have W:=Walks.range (prog:=X.prog) (w:=X.w) (I.ok.hd hc) it lo 1 n;refine W.item i s _ _ hg st λv h' tk hv st' kk=>?_;obtain⟨t,rfl⟩:=hv;have I1:Inv X aa σ H {s with heap:=h',toks:=tk}:=I.turned (λb o hb e=>kk b o (by simpa using hb) e) f0 f1 f3 f4 f5;refine⟨_,rfl,Cf (s:={s with heap:=h',toks:=tk}) (n:="range_iterator") st' rfl rfl (by decide) ⟨.int (lo+i),H,I1,⟨t,?_⟩,⟨rfl,rfl⟩,st',λb hb=>(hf b hb).1⟩⟩;rw[Int.mul_one]
 done:=by intro X hP hw hK hc i aa s σ H E I hf st hg;subst hP hw hK;obtain⟨f0,f1,f2,f3,f4,f5⟩:=hf it (by simp);exact wpAny_pyNext_range_end (I.ok.hd hc) st (by have:n<=i:=hg;lia) λh' eb=>⟨rfl,I.turned (t':=s.toks) (λb o hb e=>eb b o hb e) f0 f1 f3 f4 f5⟩
 self:=λ_ _ _ _ _ st h=>wpAny_pyIter_rangeiter st h
section
variable{X:Cx}{tg:Expr}
def lz(K:Xu)(c:TE):TI:=λσ H R=>c σ H λx b=>∃a,x=.ref a/\(∃xs,SqL K b a xs)/\R (FE K a) b
def ja{d:TE}(f:PE X l d):PI X tg l (lz X.K d):=by
 intro aa s σ H R I h;refine bR (f aa s σ H _ I h) λv s1 ⟨x,g,c,i,q1⟩=>?_;obtain⟨a,e,⟨xs,j⟩,q⟩:=q1;subst e;cases i;obtain⟨its,m,p,hz⟩:=c.list j;refine V9 p.isList ?_;refine⟨s1.heap.objs.size,[s1.heap.objs.size],_,_,g,rfl,c.kept (t':=s1.toks) λb o e=>RW _ e,sB a _,⟨_,Tz _ rfl,rfl,rfl⟩,λb k=>?_,q⟩;have e:b=s1.heap.objs.size:=by simpa using k
 subst e;exact c.rB (Tt _) (c.aS.fresh (Tt _))
def Cg{s:Xt}{R:It->Hp->Prop}{E:Xw->Xt->Prop}{lo a:Int}{t u v:Tok}{tk:Nat}(I:Inv X aa σ H s)(h1:-(2^62)<=lo)(d:lo<2^62)(f:-(2^62)<=a)(g:a<2^62)
 (q:R (QO lo (a-lo).toNat) H):wpAny (model X.prog X.w) X.A (pyIter (.ref s.heap.objs.size)) (QN X aa σ tg R) E { s with heap:=s.heap.push { cls:=.type "range",data:=.fields #[.int lo t,.int a u,.int 1 v] },toks:=tk }:=by
 refine wpAny_pyIter_range (IsRange.new ..) (small_one h1 d f g) ?_;have c:Inv X aa σ H { s with heap:=s.heap.push { cls:=.type "range",data:=.fields #[.int lo t,.int a u,.int 1 v] },toks:=tk }:=I.kept λb o e=>RW _ e;refine⟨(s.heap.push { cls:=.type "range",data:=.fields #[.int lo t,.int a u,.int 1 v] }).objs.size,[(s.heap.push { cls:=.type "range",data:=.fields #[.int lo t,.int a u,.int 1 v] }).objs.size],_,_,H,rfl,
  c.kept (t':=tk) λb o e=>RW _ e,xF _ lo (a-lo).toNat,?_,λb h=>?_,q⟩
 .have e1:lo+((0:Nat):Int)*1=lo:=by simp
  have e2:(((a-lo).toNat:Nat):Int)-((0:Nat):Int)=Builtin.Range.rangeSize lo a 1:=by rw[rangeSize_one];split<;>lia
  show IsRangeIter _ _ (lo+((0:Nat):Int)*1) ((((a-lo).toNat:Nat):Int)-((0:Nat):Int)) 1;rw[e1,e2];exact Tz _ rfl
 .have e:b=(s.heap.push { cls:=.type "range",data:=.fields #[.int lo t,.int a u,.int 1 v] }).objs.size:=by simpa using h
  subst e;exact c.rB (Tt _) (c.aS.fresh (Tt _))
def ND(ta:TA):TI:=λσ H R=>ta σ H λvs a=>∃j:Int,vs=[.int j]/\-(2^62)<=j/\j<2^62/\R (QO 0 j.toNat) a
def Ay{a:Expr}{ta:TA}{p b:Pos}(c:Gl X "range") (d:X.mg "range"=none) (ha:PA X [a] ta) (hs:autoParam (starEach [a] X.env=[(false,eval a X.env)]) ae):PI X tg (.Call (.Name "range" p) [a] [] b) (ND ta):=by
 intro aa s σ H R I h;refine Call_ (jS I c d boot_range (U5 (bR (ha b aa s σ H _ I h) λus s1 ⟨vs,k,f,g,q1⟩=>?_) hs rfl));obtain⟨j,e,q1,q2,q⟩:=q1;subst e;cases g with
 |cons r i=>cases i;obtain⟨t,rfl⟩:=r;exact call_range_1 (Cg f (by lia) (by lia) q1 q2 (by simpa using q))
def nu(c:TI)(g:TG)(tb:TS):TS:=λD σ H=>c σ H λJ d=>∃W:Nat->Nat->St->Hp->Prop,(∃m,W 0 m σ d)/\∀i m σ H,W i m σ H->
 (J.stop i H/\D.nx σ H)\/(J.go i H/\∃N:St->Hp->Prop,(∀a H',N a H'->∃m',m'<m/\W (i+1) m' a H')/\∀x H',J.Ji i H x H'->g x σ H' λb e=>tb {D with nx:=N,ct:=N,bk:=D.nx} b e)
noncomputable def pD(fp:List Addr)(h:Heap):List (Addr×Obj):=fp.filterMap λb=>(h.get? b).map λo=>(b,o)
def jb(a:b∈fp)(e:h.get? b=some o):(b,o)∈pD fp h:=Wp.mpr ⟨b,a,by rw[e];rfl⟩
def Az(a:p∈pD fp h):p.1∈fp/\h.get? p.1=some p.2:=by
 obtain⟨b,c,e⟩:=Wp.mp a;cases q:h.get? b with
 |none=>rw[q]at e;cases e
 |some o=>rw[q]at e;have d:(b,o)=p:=UL e;subst d;exact⟨c,q⟩
def Inv.pinned(I:Inv X aa σ H s)(a:∀b∈fp,li X aa H b)(f:∀b∈fp,∃o,s.heap.get? b=some o/\∀v,o.data≠.cell v):Inv X (aa++pD fp s.heap) σ H s:=
 I.Aq λp c=>(T1.mp c).elim (λz=>I.pin p (Uh _ z)) λz=>by
  obtain⟨d,e⟩:=Az z;obtain⟨g,h,i,_⟩:=a p.1 d
  grind
def Inv.mY(I:Inv X (aa++pl) σ H s):Inv X aa σ H s:=I.Aq λp a=>I.pin p (Uh _ (Uv _ a))
def fM(z:PassesOwn (model X.prog X.w) X.A X.env X.xe)(Q:X.calm=true)(hi:PI X tg iter wi)(hg:PG X tg g)(c:PSs X body tb)
 (hs:autoParam (∀x,foldedSetIterable iter X.env x=pure x) ab):PS X (.For tg iter body [] pos) (nu wi g tb):=by
 intro aa s σ H D I h;refine wpAny_For (bR (hi aa s σ H _ I h) λv s1 h1=>bR h1 λitv s2 h2=>?_) hs;obtain⟨it,fp,tn,J,H2,e,I2,T,G,R,W,⟨m0,w0⟩,turn⟩:=h2;subst e;have j:∀{H':Hp},(∀b∈fp,H' b=none)->∀b∈fp,li X aa H' b:=λhn b c=>⟨hn b c,(R b c).2⟩;refine codeAny_forLoop_any (λn S=>∃i k H',Inv X aa k H' S/\tn i S.heap/\(∀b∈fp,H' b=none)/\W i n k H') ?_ m0 ⟨0,σ,H2,I2,G,λb c=>(R b c).1,w0⟩;rintro n U ⟨i,l,F,V,B,C,w3⟩;rcases turn i n l F w3 with⟨stop,qn⟩|⟨go,N,hN,step⟩
 .refine VL z (bR (T.done X rfl rfl rfl Q i aa U l F X.xe V (j C) B stop) λr s4 ⟨K,I4⟩=>?_);subst K;exact WV ⟨l,F,I4,qn⟩
 .refine VL z (bR (T.item X rfl rfl rfl Q i aa U l F X.xe V (j C) B go) λr s4 ⟨u,K,h4⟩=>?_);subst K;refine VL z (bR h4 λ_ Y ⟨x,Z,I5,r5,y5,y,L⟩=>?_);have M:=I5.pinned (j L) (T.obj _ _ y);refine VL z (bR (hg _ Y l Z x u _ M r5 (step x Z y5)) λ_ s6 ⟨O,H6,I6,q6⟩=>?_);refine VL z (bR (c _ s6 O H6 _ I6 q6) λf P t=>?_);have again:∀{a:St}{p:Hp},Inv X (aa++pD fp Y.heap) a p P->N a p->∃m,m<n/\∃i k H',Inv X aa k H' P/\tn i P.heap/\(∀b∈fp,H' b=none)/\W i m k H':=λ{a p} q E=>by obtain⟨m',hm,w7⟩:=hN a p E;refine⟨m',hm,i+1,a,p,q.mY,T.keep _ _ _ y λb c o e=>(q.pin (b,o) (Uh _ (Uh _ (jb c e)))).1,λb c=>?_,w7⟩;obtain⟨o,e,d⟩:=T.obj _ _ y b c;exact(q.pin (b,o) (Uh _ (Uh _ (jb c e)))).2.1
  cases f with
  |next=>obtain⟨a,p,q,E⟩:=t;exact again q E
  |cont=>obtain⟨a,p,q,E⟩:=t;exact again q E
  |brk=>obtain⟨a,p,q,t⟩:=t;exact⟨a,p,q.mY,t⟩
  |ret v=>obtain⟨x7,a,p,q,r7,t⟩:=t;exact⟨x7,a,p,q.mY,r7,t⟩
end
def vy{K:Xu}{a:Addr}{xs:List V}{g:TG}{tb:TS}{D:Ends}{σ:St}{H:Hp}(b:Nat->St->Hp->Prop)(j:b 0 σ H)(k:∀i σ H,i<=xs.length->b i σ H->SqL K H a xs)
 (hs:∀i x σ H,xs[i]?=some x->b i σ H->g x σ H λc h=>tb {D with nx:=b (i+1),ct:=b (i+1),bk:=D.nx} c h) (hd:∀σ H,b xs.length σ H->D.nx σ H) :
 ∃W:Nat->Nat->St->Hp->Prop,(∃m,W 0 m σ H)/\∀i m σ H,W i m σ H->
  ((FE K a).stop i H/\D.nx σ H)\/((FE K a).go i H/\∃N:St->Hp->Prop,(∀d H',N d H'->∃m',m'<m/\W (i+1) m' d H')/\∀x H',(FE K a).Ji i H x H'->g x σ H' λc h=>tb {D with nx:=N,ct:=N,bk:=D.nx} c h):=by
 refine⟨λi m σ H=>m=xs.length-i/\i<=xs.length/\b i σ H,⟨xs.length,by simp,Ul _,j⟩,?_⟩;rintro i m σ H ⟨rfl,l,p⟩;have q:=k i σ H l p;by_cases f:i<xs.length
 .refine .inr ⟨⟨xs,xs[i],q,by simp[f]⟩,b (i+1),λd H' n=>⟨xs.length-(i+1),by lia,rfl,f,n⟩,λx H' y=>?_⟩;obtain⟨e,y⟩:=y;subst e;exact hs i x σ _ (y xs q) p
 .have e:i=xs.length:=by lia
  subst e;exact .inl ⟨⟨xs,q,Tt _⟩,hd σ H p⟩
abbrev R2:=V->V->Hp->VK->Prop
def OpR(X:Cx)(f:Xw->Xw->Sem Xw)(r:R2):Prop:=
 ∀(aa:List (Addr×Obj))(s:Xt)(σ:St)(H:Hp)(x y:V)(v u:Xw)(Q:VK),Inv X aa σ H s->RelV x v->RelV y u->r x y H Q->
  wpAny (model X.prog X.w) X.A (f v u) (EP X aa σ Q) X.xe s
def Q_(X:Cx)(f:Xw->Sem Xw)(r:V->Hp->VK->Prop):Prop:=
 ∀(aa:List (Addr×Obj))(s:Xt)(σ:St)(H:Hp)(x:V)(v:Xw)(Q:VK),Inv X aa σ H s->RelV x v->r x H Q->
  wpAny (model X.prog X.w) X.A (f v) (EP X aa σ Q) X.xe s
def CallR(X:Cx)(f:Xw)(r:List V->Hp->VK->Prop):Prop:=
 ∀(aa:List (Addr×Obj))(s:Xt)(σ:St)(H:Hp)(xs:List V)(us:List Xw)(Q:VK),Inv X aa σ H s->Vals xs us->r xs H Q->
  wpAny (model X.prog X.w) X.A (call f us) (EP X aa σ Q) X.xe s
def Ra(X:Cx)(r:V->Hp->(Bool->Hp->Prop)->Prop):Prop:=
 ∀(aa:List (Addr×Obj))(s:Xt)(σ:St)(H:Hp)(x:V)(v:Xw)(Q:Bool->Hp->Prop),Inv X aa σ H s->RelV x v->r x H Q->
  wpAny (model X.prog X.w) X.A (truthy v) (TP X aa σ Q) X.xe s
noncomputable def lL(r:R2)(ta tb:TE):TE:=λσ H Q=>ta σ H λx a=>tb σ a λy b=>r x y b Q
noncomputable def SX(r:V->Hp->VK->Prop)(ta:TE):TE:=λσ H Q=>ta σ H λx a=>r x a Q
noncomputable def rI(C:Int->Int->Prop)(g:Int->Int->V):R2:=λx y H Q=>∃i j,x=.int i/\y=.int j/\C i j/\Q (g i j) H
noncomputable def AA(g:Int->Int->V):R2:=λx y H Q=>∃i j,x=.int i/\y=.int j/\Q (g i j) H
noncomputable def rU(g:Int->V):V->Hp->VK->Prop:=λx H Q=>∃i,x=.int i/\Q (g i) H
section
variable{X:Cx}{a b:Expr}{ta tb:TE}{pos:Pos}
def JQ(ha:PE X a ta)(i:PE X b tb){R:V->V->Hp->Prop}(I:Inv X aa σ H s)
 (h:ta σ H λx g=>tb σ g λy c=>R x y c) {Q:Xw->Xt->Prop} {f:Xw->Xw->Sem Xw}
 (j:∀v u s2 x y c,Inv X aa σ c s2->RelV x v->RelV y u->R x y c->wpAny (model X.prog X.w) X.A (f v u) Q X.xe s2) :
 wpAny (model X.prog X.w) X.A (eval a X.env) (λv d=>wpAny (model X.prog X.w) X.A (eval b X.env) (λu e=>wpAny (model X.prog X.w) X.A (f v u) Q X.xe e) X.xe d) X.xe s:=by
 refine bR (ha aa s σ H _ I h) λv s1 ⟨x,g,k,l,q1⟩=>?_;refine bR (i aa s1 σ g _ k q1) λu s2 ⟨y,c,m,n,q2⟩=>?_;exact j v u s2 x y c m l n q2
def pE{op:Operator}(c:OpR X (binaryOp op) r)(ha:PE X a ta)(d:PE X b tb):PE X (.BinOp a op b pos) (lL r ta tb):=by intro aa s σ H Q I h;exact wpAny_BinOp (JQ ha d I h λv u s2 x y e f g i q=>c aa s2 σ e x y v u Q f g i q)
def NE(c:Q_ X (unaryOp op) r)(ha:PE X a ta):PE X (.UnaryOp op a pos) (SX r ta):=by intro aa s σ H Q I h;exact UnaryOp_ (bR (ha aa s σ H _ I h) λv s1 ⟨x,d,e,f,q1⟩=>c aa s1 σ d x v Q e f q1)
def NF{f:Xw->Xw->Sem Xw}{C:Int->Int->Prop}{g:Int->Int->Int}
 (rule:∀(i j:Int)(t u:Tok)(s:Xt)(Q:Xw->Xt->Prop)(E:Xw->Xt->Prop),C i j->Q (.int (g i j) s.toks) {s with toks:=s.toks+1}->wpAny (model X.prog X.w) X.A (f (.int i t) (.int j u)) Q E s) :
 OpR X f (rI C λi j=>.int (g i j)):=by
 intro aa s σ H x y v u Q I c d h;obtain⟨i,j,rfl,rfl,e,q⟩:=h;obtain⟨t,rfl⟩:=c;obtain⟨t',rfl⟩:=d;exact rule i j t t' s _ _ e ⟨.int (g i j),H,I.tok _,⟨_,rfl⟩,q⟩
def JR{f:Xw->Xw->Sem Xw}{g:Int->Int->Int}
 (rule:∀(i j:Int)(t u:Tok)(s:Xt)(Q:Xw->Xt->Prop)(E:Xw->Xt->Prop),Q (.int (g i j) s.toks) {s with toks:=s.toks+1}->wpAny (model X.prog X.w) X.A (f (.int i t) (.int j u)) Q E s) :
 OpR X f (AA λi j=>.int (g i j)):=by
 intro aa s σ H x y v u Q I c d h;obtain⟨i,j,rfl,rfl,q⟩:=h;obtain⟨t,rfl⟩:=c;obtain⟨t',rfl⟩:=d;exact rule i j t t' s _ _ ⟨.int (g i j),H,I.tok _,⟨_,rfl⟩,q⟩
def JS{f:Xw->Xw->Sem Xw}{g:Int->Int->Bool}
 (rule:∀(i j:Int)(t u:Tok)(s:Xt)(Q:Xw->Xt->Prop)(E:Xw->Xt->Prop),Q (.bool (g i j)) s->wpAny (model X.prog X.w) X.A (f (.int i t) (.int j u)) Q E s) :
 OpR X f (AA λi j=>.bl (g i j)):=by
 intro aa s σ H x y v u Q I c d h;obtain⟨i,j,rfl,rfl,q⟩:=h;obtain⟨t,rfl⟩:=c;obtain⟨t',rfl⟩:=d;exact rule i j t t' s _ _ ⟨.bl (g i j),H,I,rfl,q⟩
def NG(i j:Int):Prop:=0<j/\j<1073741824
def Rb(i j:Int):Prop:=0<=j/\j<=1000000/\i.natAbs<2^64
def CMul(i j:Int):Prop:=(-(2^64)<i/\i<2^64)\/(-(2^64)<j/\j<2^64)
def CMul.ok(h:CMul i j):IntMulOk i j:=by
 rcases h with⟨h1,c⟩|⟨h1,c⟩
 .exact .of_left (intBits_le_64 h1 c)
 .exact .of_right (intBits_le_64 h1 c)
def xG(k:Nat):(0:Int)<=2^k:=by rw[two_pow_cast];exact Int.natCast_nonneg _
def op_add:OpR X (binaryOp .Add) (AA λi j=>.int (i+j)):=JR λ_ _ _ _ _ _ _ q=>add_int q
def JT:OpR X (binaryOp .Mult) (rI CMul λi j=>.int (i*j)):=NF λ_ _ _ _ _ _ _ c q=>mul_int q c.ok
def FF:OpR X (binaryOp .FloorDiv) (rI NG λi j=>.int (i/j)):=NF λi j _ _ _ _ _ c q=>by have h1:(0:Int)<j:=c.1;have d:j<1073741824:=c.2;exact floordiv_int (by lia) (by rw[Wd i (by lia)];exact q) (.inl (PyProof.noPylong_small (by lia)))
def JU:OpR X (binaryOp .Mod) (rI (λ_ j=>0<j) λi j=>.int (i%j)):=NF λi j _ _ _ _ _ c q=>by have h1:(0:Int)<j:=c;exact mod_int' (by lia) (by rw[Int.fmod_eq_emod_of_nonneg i (by lia)];exact q)
def JV:OpR X (binaryOp .Pow) (rI Rb λi j=>.int (i^j.toNat)):=NF λ_ _ _ _ _ _ _ c q=>pow_int_small c.1 c.2.1 c.2.2 q
def JW:OpR X (binaryOp .RShift) (rI (λ_ j=>0<=j) λi j=>.int (i/2^j.toNat)):=NF λi j _ _ _ _ _ c q=>rshift_int c (by rw[Wd i (xG _)];exact q)
def JX:OpR X (binaryOp .BitAnd) (AA λi j=>.int (Builtin.bitAnd i j)):=JR λ_ _ _ _ _ _ _ q=>and_int q
def JY:OpR X (binaryOp .BitXor) (AA λi j=>.int (Builtin.bitXor i j)):=JR λ_ _ _ _ _ _ _ q=>xor_int q
def SY{f:Xw->Sem Xw}{g:Int->Int}
 (rule:∀(i:Int)(t:Tok)(s:Xt)(Q:Xw->Xt->Prop)(E:Xw->Xt->Prop),Q (.int (g i) s.toks) {s with toks:=s.toks+1}->wpAny (model X.prog X.w) X.A (f (.int i t)) Q E s) :
 Q_ X f (rU λi=>.int (g i)):=by
 intro aa s σ H x v Q I c h;obtain⟨i,rfl,q⟩:=h;obtain⟨t,rfl⟩:=c;exact rule i t s _ _ ⟨.int (g i),H,I.tok _,⟨_,rfl⟩,q⟩
def JZ:Q_ X (unaryOp .USub) (rU λi=>.int (-i)):=SY λ_ _ _ _ _ q=>neg_int q
end
noncomputable def Rc:V->V->Bool
 |.bn,.bn=>true|.bn,.int _=>true|.int _,.bn=>true|.bn,.bl _=>true|.bl _,.bn=>true|.bn,.str _=>true|.str _,.bn=>true
 |.int _,.int _=>true|.bl _,.bl _=>true|.str _,.str _=>true|.B3 _,.B3 _=>true
 |.int _,.str _=>true|.str _,.int _=>true|.bl _,.str _=>true|.str _,.bl _=>true
 |_,_=>false
def Nk:R2:=λx y H Q=>Rc x y=true/\Q (.bl (decide (x=y))) H
def FG:decide (V.int i=V.int j)=(i==j):=by rw[Wq];simp
def J0:decide (V.bl i=V.bl j)=(i==j):=by rw[Wq];simp
def FH:decide (V.str i=V.str j)=(i==j):=by rw[Wq];simp
def FI:decide (V.B3 i=V.B3 j)=(i.toList==j.toList):=by rw[Wq];cases i;cases j;simp
section
variable{X:Cx}{a b c:Expr}{ta tb:TE}{pos:Pos}
def cO(I:Inv X aa σ H s)(q:Q (.bl k) H)(e:k=k'):EP X aa σ Q (.bool k') s:=by subst e;exact⟨.bl k,H,I,rfl,q⟩
def yX:OpR X (compareOp .Eq) Nk:=by
 intro aa s σ H x y v u Q I e d h;obtain⟨hs,q⟩:=h;cases x with
 |bn=>
  cases e;cases y with
  |bn=>cases d;exact PySem.EqNone.eq_none_none (cO I q (by simp))
  |bl j=>cases d;exact PySem.EqNone.eq_none_bool (cO I q (by simp))
  |int j=>obtain⟨t',rfl⟩:=d;exact PySem.EqNone.eq_none_int (cO I q (by simp))
  |str j=>obtain⟨t',rfl⟩:=d;exact PySem.EqNone.eq_none_str (cO I q (by simp))
  |_=>exact absurd (show false=true from hs) Uz
 |bl i=>
  cases e;cases y with
  |bn=>cases d;exact PySem.EqNone.eq_bool_none (cO I q (by simp))
  |bl j=>cases d;exact eq_bool (cO I q J0)
  |str j=>obtain⟨t',rfl⟩:=d;exact PySem.EqMixed.eq_bool_str (cO I q (by simp))
  |_=>exact absurd (show false=true from hs) Uz
 |int i=>
  obtain⟨t,rfl⟩:=e;cases y with
  |bn=>cases d;exact PySem.EqNone.eq_int_none (cO I q (by simp))
  |int j=>obtain⟨t',rfl⟩:=d;exact eq_int (cO I q FG)
  |str j=>obtain⟨t',rfl⟩:=d;exact PySem.EqMixed.eq_int_str (cO I q (by simp))
  |_=>exact absurd (show false=true from hs) Uz
 |str i=>
  obtain⟨t,rfl⟩:=e;cases y with
  |bn=>cases d;exact PySem.EqNone.eq_str_none (cO I q (by simp))
  |bl j=>cases d;exact PySem.EqMixed.eq_str_bool (cO I q (by simp))
  |int j=>obtain⟨t',rfl⟩:=d;exact PySem.EqMixed.eq_str_int (cO I q (by simp))
  |str j=>obtain⟨t',rfl⟩:=d;exact eq_str (cO I q FH)
  |_=>exact absurd (show false=true from hs) Uz
 |B3 i=>
  obtain⟨t,rfl⟩:=e;cases y with
  |B3 j=>obtain⟨t',rfl⟩:=d;exact PySem.W.eq_bytes (cO I q FI)
  |_=>exact absurd (show false=true from hs) Uz
 |_=>cases y<;>exact absurd (show false=true from hs) Uz
def Ic:OpR X (compareOp .Lt) (AA λi j=>.bl (decide (i<j))):=JS λ_ _ _ _ _ _ _ q=>lt_int q
def Ie:OpR X (compareOp .Gt) (AA λi j=>.bl (decide (j<i))):=JS λ_ _ _ _ _ _ _ q=>gt_int q
def NH:OpR X (compareOp .GtE) (AA λi j=>.bl (decide (j<=i))):=JS λ_ _ _ _ _ _ _ q=>ge_int q
def J1:OpR X (compareOp .Is) (λx y H Q=>y=.bn/\Q (.bl (decide (x=.bn))) H):=by
 intro aa s σ H x y v u Q I d e h;obtain⟨rfl,q⟩:=h;cases e;refine is_none_gen (cO I q ?_);cases x<;>first
  |(cases d;rfl)
  |(obtain⟨t,rfl⟩:=d;rfl)
def OpR.or(h:OpR X f r)(h':OpR X f r'):OpR X f (λx y H Q=>r x y H Q\/r' x y H Q):=by
 intro aa s σ H x y v u Q I d e q;rcases q with q|q
 .exact h aa s σ H x y v u Q I d e q
 .exact h' aa s σ H x y v u Q I d e q
def bY(b:Expr)(h:autoParam (op≠.In) am)(d:autoParam (op≠.NotIn) am):behindInMarks op b=false:=by
 have e1:(op==CmpOp.In)=false:=by cases op<;>first|rfl|exact absurd rfl h
 have e2:(op==CmpOp.NotIn)=false:=by cases op<;>first|rfl|exact absurd rfl d
 cases b<;>simp[behindInMarks,e1,e2]
def yY(d:OpR X (compareOp op) r)(ha:PE X a ta)(e:PE X b tb)(f:behindInMarks op b=false):PE X (.Compare a [op] [b] pos) (lL r ta tb):=by intro aa s σ H Q I h;exact wpAny_Compare1 (JQ ha e I h λv u s2 x y g i j k q=>d aa s2 σ g x y v u Q i j k q) f
noncomputable def oq(t:TE):TT:=λσ H Q=>t σ H λx H'=>∃k,x=.bl k/\Q k H'
def jc(d:OpR X (compareOp op) r)(ha:PE X a ta)(f:PE X b tb)(g:behindInMarks op b=false):PT X (.Compare a [op] [b] pos) (oq (lL r ta tb)):=by intro aa s σ H Q I h;refine wpAny_isTrue_Compare1 (bR (ha aa s σ H _ I h) λv s1 ⟨x,i,j,l,q1⟩=>bR (f aa s1 σ i _ j q1) λu s2 ⟨y,m,n,o,q2⟩=>bR (d aa s2 σ m x y v u _ n l o q2) λc A ⟨z,p,q,t,k,e,w⟩=>?_) g;subst e;cases t;exact Vb ⟨p,q,w⟩
def J2(K:Xu)(x:V)(H:Hp)(k:Bool):Prop:=
 match x with
 |.bn=>k=false
 |.bl b=>k=b
 |.int i=>k=(i != 0)
 |.str y=>y.length<=sizeLine/\k=((y.length:Int) != 0)
 |.B3 y=>y.size<=sizeLine/\k=((y.size:Int) != 0)
 |.ref p=>(∃xs,SqL K H p xs/\k=!xs.isEmpty)\/(∃xs,SqT K H p xs/\k=!xs.isEmpty)\/∃kvs,H p=some (.dK kvs)/\k=!kvs.isEmpty
 |_=>False
def xH{κ:Type}{kvs:List (κ×V)}{vs:List (κ×Xw)}(r:KV kvs vs):(!vs.isEmpty)=!kvs.isEmpty:=by cases r<;>rfl
def pG(r:Vals xs its):(!its.toArray.isEmpty)=!xs.isEmpty:=by cases r<;>simp
def nv:(sizeLine:Nat)<2^63:=by rw[Uj];decide
def J3:Ra X (λx H Q=>∃k,J2 X.K x H k/\Q k H):=by
 intro aa s σ H x v Q I f h;obtain⟨k,e,q⟩:=h;have o:=nv;have hs:sizeLine=16777216:=Uj;cases x with
 |bn=>cases f;have d:k=false:=e;subst d;exact truthy_none ⟨H,I,q⟩
 |bl b=>cases f;have d:k=b:=e;subst d;exact Vb ⟨H,I,q⟩
 |int i=>obtain⟨t,rfl⟩:=f;have d:k=(i != 0):=e;subst d;exact PySem.P.truthy_int ⟨H,I,q⟩
 |str y=>obtain⟨t,rfl⟩:=f;obtain⟨l,d⟩ : y.length<=sizeLine/\k=((y.length:Int) != 0):=e;subst d;exact PySem.P.truthy_str (by lia) ⟨H,I.tok _,q⟩
 |B3 y=>obtain⟨t,rfl⟩:=f;obtain⟨l,d⟩ : y.size<=sizeLine/\k=((y.size:Int) != 0):=e;subst d;exact PySem.W.truthy_bytes (by lia) ⟨H,I.tok _,q⟩
 |ref p=>
  cases f;have d:(∃xs,SqL X.K H p xs/\k=!xs.isEmpty)\/(∃xs,SqT X.K H p xs/\k=!xs.isEmpty)\/∃kvs,H p=some (.dK kvs)/\k=!kvs.isEmpty:=e;rcases d with⟨xs,g,d⟩|⟨xs,g,d⟩|⟨kvs,g,d⟩
  .subst d;obtain⟨its,r,pl,hz⟩:=I.list g;have j:=r.length;exact wpAny_truthy_list pl.isList (by simp only[TR];lia) ⟨H,I.tok _,by rw[pG r];exact q⟩
  .subst d;obtain⟨its,r,pl,hz⟩:=I.tuple g;have j:=r.length;exact truthy_tuple pl (by simp only[TR];lia) ⟨H,I.tok _,by rw[pG r];exact q⟩
  .subst d;obtain⟨hz,n,vs,r,m⟩ : kvs.length<=sizeLine/\(p==sysModules)=false/\∃vs,KV kvs vs/\s.heap.DictOf (aF X.prog X.w) p vs:=I.aS p _ g;have j:kvs.length=vs.length:=Wo r;exact wpAny_truthy_dict n m (by lia) ⟨H,I.tok _,by rw[xH r];exact q⟩
 |_=>exact(show False from e).elim
def Ci(ha:PE X a ta)(e:∀d,isTrue a X.env d=(do let v <- d;standAt a.pos;holding [v] (truthy v))) :
 PT X a (λσ H Q=>ta σ H λx H'=>∃k,J2 X.K x H' k/\Q k H'):=by
 intro aa s σ H Q I h;exact isTrue_plain (bR (ha aa s σ H _ I h) λv s1 ⟨x,f,g,i,q1⟩=>J3 aa s1 σ f x v Q g i q1) (e _)
def xI:OpR X (binaryOp .Add) (λx y H Q=>∃i j,x=.str i/\y=.str j/\i.length+j.length<=sizeLine/\Q (.str (i++j)) H):=by intro aa s σ H x y v u Q I d e h;obtain⟨i,j,rfl,rfl,hz,q⟩:=h;obtain⟨t,rfl⟩:=d;obtain⟨t',rfl⟩:=e;exact add_str (λt' tk=>⟨.str (i++j),H,I.tok _,⟨_,rfl⟩,q⟩) hz
def eF(r:Vals [x] us):∃u,us=[u]/\RelV x u:=by
 cases r with
 |cons d e=>cases e;exact⟨_,rfl,d⟩
def vz(r:Vals [x,y] us):∃u d,us=[u,d]/\RelV x u/\RelV y d:=by
 cases r with
 |cons e f=>
  cases f with
  |cons g h=>cases h;exact⟨_,_,rfl,e,g⟩
def AB(e:X.calm=true):CallR X (.builtin "min") (λxs H Q=>∃i j,xs=[.int i,.int j]/\Q (.int (if j<i then j else i)) H):=by
 intro aa s σ H xs us Q I r h;obtain⟨i,j,rfl,q⟩:=h;obtain⟨u,f,rfl,⟨t,rfl⟩,⟨t',rfl⟩⟩:=vz r;refine min_two_ints (I.ok.hd e) λh' tk k=>⟨_,H,I.kept k,?_,q⟩;by_cases d:j<i
 .rw[Tv d,Tv d];exact⟨_,rfl⟩
 .rw[TJ d,TJ d];exact⟨_,rfl⟩
def AC:CallR X (.type "int") (λxs H Q=>(∃i,xs=[.int i]/\Q (.int i) H)\/∃k,xs=[.bl k]/\Q (.int (if k then 1 else 0)) H):=by
 intro aa s σ H xs us Q I r h;rcases h with⟨i,rfl,q⟩|⟨k,rfl,q⟩
 .obtain⟨u,rfl,t,rfl⟩:=eF r;exact call_int_int ⟨.int i,H,I,⟨_,rfl⟩,q⟩
 .obtain⟨u,rfl,d⟩:=eF r;cases d;exact call_int_bool ⟨.int (if k then 1 else 0),H,I.tok _,⟨_,rfl⟩,q⟩
def vA:CallR X (.builtin "divmod") (λxs H Q=>∃i j,xs=[.int i,.int j]/\NG i j/\∀p,H p=none->Q (.ref p) (aP H p (.tup [.int (i/j),.int (i%j)]))):=by intro aa s σ H xs us Q I r h;obtain⟨i,j,rfl,⟨h1,f⟩,q⟩:=h;obtain⟨u,g,rfl,⟨t,rfl⟩,⟨t',rfl⟩⟩:=vz r;refine divmod_int (by lia) ?_ (.inl (PyProof.noPylong_small (by lia)));rw[Wd i (by lia),Int.fmod_eq_emod_of_nonneg i (by lia)];have d:H s.heap.objs.size=none:=I.aS.fresh (Tt _);refine⟨.ref s.heap.objs.size,_,?_,rfl,q _ d⟩;refine I.laid (λb o e=>RW _ e) (Tt _) ⟨by simp only[T2,Vj];rw[Uj];decide,[.int (i/j) s.toks,.int (i%j) (s.toks+1)],.cons ⟨_,rfl⟩ (.cons ⟨_,rfl⟩ .nil),?_⟩;exact⟨_,Tz s.heap rfl,rfl,0,rfl⟩
end
structure yQ(h:Heap) (x dx C:Addr) (mA:Str->Option Xw):Prop where
 obj:h.get? x=some (instObj C dx)
 ns:h.Ns1 dx mA
 ne:dx≠x
def AD{h:Heap}{b:Str->Option Xw}(n:h.Ns1 dx b):∃od,h.get? dx=some od/\∀name,lookIn name od=some (b name):=by
 obtain⟨o,es,k,c,hd,d,_,f⟩:=n;refine⟨o,c,λname=>?_⟩;have e:=f name;unfold nsFind findBy at e;rw[<- Array.find?_toList]at e;unfold lookIn;rw[hd];dsimp only;split
 .rename_i y q;rw[q]at e;exact Vv some e
 .rename_i q;rw[q]at e;have a:es.toList.any (·.refKey)=false:=by rw[List.any_eq_false];intro y g;obtain⟨z,t,i⟩:=d y (Array.mem_toList_iff.mp g);simp[DictEntry.refKey,i]
  have j:¬es.toList.any (·.refKey)=true:=by rw[a];exact Uz
  rw[TJ j];exact Vv some e
def yQ.look(I:yQ h x dx C mA):∃od,PySem.W.InstAt h x (instObj C dx) C (some od)/\∀name,lookIn name od=some (mA name):=
 let ⟨od,a,b⟩:=AD I.ns
 ⟨od,⟨I.obj,rfl,rfl,a⟩,b⟩
section
variable{prog:Xv}{w:World}{A:Xx}{E:Xw->Xt->Prop}{s:Xt}{K:Xu}{x dx C f:Addr}{mA:Str->Option Xw}{name:Str}{v:Xw}
def FJ(X:K.In s.heap)(I:yQ s.heap x dx C mA)(b:plainGet K C name=true)(c:hasDictIn K C=true)
 (ha:findIn K (.ref C) name=some none) (d:mA name=some v) (a:PySem.W.handedIn v=true) (h:Q v {s with toks:=s.toks+1}) :
 wpAny (model prog w) A (getAttr (.ref x) name expr) Q E s:=by
 obtain⟨od,J,e⟩:=I.look;exact PySem.W.get_value X J (WW b).1 (PySem.W.findObj_own c ha rfl (by rw[e,d])) a h
def Cj(X:K.In s.heap)(I:yQ s.heap x dx C mA)(a:plainGet K C name=true)
 (b:findIn K (.ref C) name=some (some (.ref f))) (c:isFn K (.ref f)=true) (d:mA name=none) (h:Q (.ref f,[.ref x]) s) :
 wpAny (model prog w) A (getMethod (.ref x) name pl) Q E s:=by
 obtain⟨od,J,e⟩:=I.look;exact PySem.W.method_fn X J (WW a).1 (WW a).2 b (V_.mp c) (by show(lookIn name od).map (·.isSome)=some false;rw[e,d];rfl) h
def FL(X:K.In s.heap)(I:yQ s.heap x dx C mA)
 (hs:findIn K (.ref C) "__setattr__"=some (some (.builtin "object.__setattr__"))) (k:PySem.W.plainOver K C=true) (l:PySem.W.takerIn K C name=some none) (m:hasDictIn K C=true)
 (n:PySem.Within mA ns) (hsz:ns.length<=sizeLine)
 (h:∀h',yQ h' x dx C (λy=>if y=name then some v else mA y)->Heap.SameBut dx s.heap h'->Q () {s with heap:=h',toks:=s.toks+2}) :
 wpAny (model prog w) A (setAttr (.ref x) name v) Q E s:=by
 obtain⟨od,J,u⟩:=I.look;refine PySem.W.set_plain X J hs (PySem.W.osa_open (s:={s with toks:=s.toks+1}) (r:=none) X J k l λb=>?_);obtain⟨z,o,e⟩:=PySem.W.any_some m;have p:s.heap.get? x=some ⟨.ref C,some dx,.plain,#[]⟩:=I.obj;refine KE (Tu (KE (KE (wpAny_loadPart p (KE (PySem.W.Looks.here (s:={s with toks:=s.toks+1}) (PySem.W.looks_clsIn X o) ?_))))));rw[e];refine Tu (a:=some dx) (KE (Tu (KE ?_)));refine wpAny_nsSet1 (s:={s with toks:=s.toks+1}) I.ns λh' c d=>?_;obtain⟨oD,q,t,g,i,j⟩:=c.count (PySem.Within.cons name v n);refine KE (wpAny_lookBehind g (by rw[i];exact pastItsLine_dict (Ua j (by rw[T2];lia))) ?_);exact Tu (h _ ⟨(d.2 _ (UM I.ne)).trans I.obj,c,I.ne⟩ d)
def Ck(X:K.In s.heap)(a:PySem.W.makesIn K C=true)
 (b:findIn K (.ref C) "__init__"=some (some (.ref f))) (c:PySem.W.typeIn K (.ref f)=some (.type "function"))
 (h:codeAny (model prog w) (A.under (.builtin "type.__call__" ⟨.ref C::vs,kw⟩)) (.call (.ref f) ⟨.ref (s.heap.objs.size+1)::vs,kw⟩) (PySem.W.InitBack (s.heap.objs.size+1) R)
   {s with heap:=(s.heap.push emptyDict).push (instObj C s.heap.objs.size)}) :
 codeAny (model prog w) A (.call (.ref C) ⟨vs,kw⟩) R s:=by
 obtain⟨e,g,d,t,os⟩:=s;exact PySem.W.make_core (PySem.W.makes_of X a) (PySem.W.looks_findIn X b) (λself=>PySem.W.bind_fn X self c) (.inl rfl) h
end
noncomputable def iL(f:Str)(v:V):List (Str×V)->List (Str×V)
 |[]=>[(f,v)]
 |(g,x)::r=>if g=f then(g,v)::r else(g,x)::iL f v r
theorem ot(f g:Str)(v:V):∀fs:List (Str×V),(iL f v fs).lookup g=if g=f then some v else fs.lookup g
 |[]=>by
  show List.lookup g [(f,v)]=_
  grind
 |(k,x)::r=>by
  have a:=ot f g v r
  grind [iL]
theorem nw(f:Str)(v:V):∀fs:List (Str×V),f∈(iL f v fs).map (·.1)/\∀g,g∈fs.map (·.1)->g∈(iL f v fs).map (·.1)
 |[]=>⟨by simp[iL],λg h=>by simp at h⟩
 |(k,x)::r=>by
  obtain⟨a,b⟩:=nw f v r
  grind [iL]
theorem ou(f:Str)(v:V):∀fs:List (Str×V),(iL f v fs).length<=fs.length+1
 |[]=>by simp[iL]
 |(k,x)::r=>by
  have b:=ou f v r;rw[show iL f v ((k,x)::r)=(if k=f then(k,v)::r else(k,x)::iL f v r)from rfl];by_cases a:k=f
  .rw[Tv a,T2,T2];lia
  .rw[TJ a,T2,T2];lia
def RelO.some_of(r:RelO (some v) o):∃u,o=some u/\RelV v u:=by
 cases o with
 |none=>exact(show False from r).elim
 |some u=>exact⟨u,rfl,r⟩
def RelO.none_of(r:RelO none o):o=none:=by
 cases o with
 |none=>rfl
 |some u=>exact(show False from r).elim
def AE(r:RelV v u):PySem.W.handedIn u=true:=by
 cases v with
 |bn=>cases(show u=Value.none from r);rfl
 |bl b=>cases(show u=Value.bool b from r);rfl
 |int i=>obtain⟨t,e⟩:=(show ∃t,u=Value.int i t from r);cases e;rfl
 |str x=>obtain⟨t,e⟩:=(show ∃t,u=Value.str x t from r);cases e;rfl
 |B3 b=>obtain⟨t,e⟩:=(show ∃t,u=Value.bytes b t from r);cases e;rfl
 |Jp b=>obtain⟨t,e⟩:=(show ∃t,u=Value.float b t from r);cases e;rfl
 |ref a=>cases(show u=Value.ref a from r);rfl
 |ty n=>cases(show u=Value.type n from r);rfl
section
variable{P:Xv}{w:World}{H:Hp}{h:Heap}{a C dx:Addr}{fs:List (Str×V)}
def oZ(aS:HOk P w H h)(e:H a=some (.ins C dx fs)):∃b,yQ h a dx C b/\(∀f,RelO (fs.lookup f) (b f))/\PySem.Within b (fs.map (·.1))/\fs.length<=1000/\H dx=some (.own a):=by obtain⟨d,z,ne,c,b,n,r,q⟩:=(show ObjOk P w H h a (.ins C dx fs)from aS a _ e);exact⟨b,⟨c,n,ne⟩,r,q,z,d⟩
end
structure ve(K:Xu) (C:Addr):Prop where
 pg:plainGet K C Str.empty=true
 hd:hasDictIn K C=true
 po:PySem.W.plainOver K C=true
 sa:findIn K (.ref C) "__setattr__"=some (some (.builtin "object.__setattr__"))
theorem ve.get{K:Xu}(c:ve K C)(f:Str):plainGet K C f=true:=c.pg
def NoAttr(K:Xu)(C:Addr)(f:Str):Prop:=findIn K (.ref C) f=some none
def NoAttr.taker{K:Xu}(n:NoAttr K C f):PySem.W.takerIn K C f=some none:=by unfold PySem.W.takerIn;rw[show findIn K (.ref C) f=some none from n];rfl
structure Meth(K:Xu) (C:Addr) (m:Str) (f:Addr):Prop where
 at_:findIn K (.ref C) m=some (some (.ref f))
 fn:isFn K (.ref f)=true
 kp:keepIn K (.ref f)=true
section
variable{X:Cx}{aa:List (Addr×Obj)}{σ:St}{H:Hp}{s:Xt}{a C dx:Addr}{fs:List (Str×V)}{f:Str}{v:V}{A:Xx}{E:Xw->Xt->Prop}
def xJ(I:Inv X aa σ H s)(e:H a=some (.ins C dx fs))(c:ve X.K C)(n:NoAttr X.K C f)(l:fs.lookup f=some v)
 (h:∀u d,Inv X aa σ H d->RelV v u->Q u d):wpAny (model X.prog X.w) A (getAttr (.ref a) f b) Q E s:=by
 obtain⟨i,O,r,_,_,_⟩:=oZ I.aS e;obtain⟨u,j,g⟩:=RelO.some_of (v:=v) (o:=i f) (by rw[<- l];exact r f);exact FJ I.ol O (c.get f) c.hd n j (AE g) (h u _ (I.tok _) g)
def pH(I:Inv X aa σ H s)(e:H a=some (.ins C dx fs))(c:ve X.K C)(k:Meth X.K C m g)(l:fs.lookup m=none)
 (h:Q (.ref g,[.ref a]) s):wpAny (model X.prog X.w) A (getMethod (.ref a) m pl) Q E s:=by
 obtain⟨b,O,r,_,_,_⟩:=oZ I.aS e;have d:b m=none:=RelO.none_of (by rw[<- l];exact r m);exact Cj I.ol O (c.get m) k.at_ k.fn d h
def xK(I:Inv X aa σ H s)(e:H a=some (.ins C dx fs))(c:ve X.K C)(n:NoAttr X.K C f)(D:fs.length<1000)(F:RelV y u)
 (h:∀i,Inv X aa σ (aP H a (.ins C dx (iL f y fs))) i->Q () i):wpAny (model X.prog X.w) A (setAttr (.ref a) f u) Q E s:=by
 obtain⟨l,O,r,j,_,k⟩:=oZ I.aS e;have hz:(fs.map (·.1)).length<=sizeLine:=by rw[TN,Uj];lia
 refine FL I.ol O c.sa c.po n.taker c.hd j hz λh' d m=>h _ ?_;have hd:∃o,h'.get? dx=some o:=let ⟨o,_,_,p,_⟩:=d.ns;⟨o,p⟩;refine I.write (x:=a) (e:=dx) (by rw[e];exact True.intro) (.inr k) (λb q t z=>(m.2 b t).trans z) hd ?_;refine⟨by rw[af O.ne];exact k,?_,O.ne,d.obj,_,d.ns,λg=>?_,λg B=>?_⟩
 .have:=ou f y fs;lia
 .grind [RelO,iL,ot]
 .by_cases q:g=f
  .rw[q];exact(nw f y fs).1
  .refine(nw f y fs).2 g (j g λz=>B ?_);show(if g=f then some u else l g)=none;rw[TJ q];exact z
def Inv.made(I:Inv X aa σ H s):Inv X aa σ (aP (aP H s.heap.objs.size (.own (s.heap.objs.size+1))) (s.heap.objs.size+1) (.ins C s.heap.objs.size []))
 {s with heap:=(s.heap.push emptyDict).push (instObj C s.heap.objs.size)}:=by
 have e1:(s.heap.push emptyDict).get? s.heap.objs.size=some emptyDict:=Tz s.heap rfl;have e2:((s.heap.push emptyDict).push (instObj C s.heap.objs.size)).get? (s.heap.objs.size+1)=some (instObj C s.heap.objs.size):=by
  have:=Tz (s.heap.push emptyDict) (o:=instObj C s.heap.objs.size) rfl
  rwa [VI]at this
 have e3:(s.heap.push emptyDict).Ns s.heap.objs.size (λ_=>none):=⟨emptyDict,#[],_,e1,rfl,(λe c=>absurd c (by simp)),λ_=>rfl⟩;have d:=I.laid (a:=s.heap.objs.size) (o:=.own (s.heap.objs.size+1)) (h':=s.heap.push emptyDict) (t':=s.toks) (λb u q=>RW _ q) (Tt _) ⟨_,e1⟩;refine d.laid (a:=s.heap.objs.size+1) (o:=.ins C s.heap.objs.size []) (t':=s.toks) (λb u q=>RW _ q) (Xo (VI _ _)) ?_;have ne:s.heap.objs.size≠s.heap.objs.size+1:=T5 (VB _);refine⟨by rw[af ne,ag],Ul _,ne,e2,λ_=>none,(Heap.Ns1.of_empty e3).at λo q=>RW _ q,λ_=>True.intro,λy g=>absurd rfl g⟩
def FM(c:attributeBase e f env (eval e env)=eval e env)
 (h:wpAny (model prog w) A (eval e env) (λo b=>wpAny (model prog w) A (getAttr o f true) Q E b) E s):wpAny (model prog w) A (eval (.Attribute e f pos) env) Q E s:=
 Attribute_any_ h (by rw[arm_eval_Attribute,c])
end
def fO(K:Xu)(ta:TE)(f:Str):TE:=λσ H Q=>ta σ H λx b=>∃a C c fs v,x=.ref a/\b a=some (.ins C c fs)/\ve K C/\NoAttr K C f/\fs.lookup f=some v/\Q v b
def tV(K:Xu)(ta d:TE)(f:Str):TS:=λD σ H=>d σ H λy e=>ta σ e λx b=>∃a C c fs,x=.ref a/\b a=some (.ins C c fs)/\ve K C/\NoAttr K C f/\fs.length<1000/\
 D.nx σ (aP b a (.ins C c (iL f y fs)))
section
variable{X:Cx}{o e value:Expr}{f:Str}{pos pos':Pos}{ta tv:TE}
def cu(b:PE X e ta)(d:attributeBase e f X.env (eval e X.env)=eval e X.env):PE X (.Attribute e f pos) (fO X.K ta f):=by intro aa s σ H Q I h;refine FM d (bR (b aa s σ H _ I h) λu s1 z=>?_);obtain⟨x,g,i,j,a,C,r,fs,v,rfl,k,c,n,l,q⟩:=z;obtain rfl:u=Value.ref a:=j;exact xJ i k c n l λu' s2 m p=>⟨v,g,m,p,q⟩
def jT(ha:PE X o ta)(b:PE X value tv)(hs:swapsWith value (some (.Attribute o f pos')) pos.line X.env=pure false):PS X (.Assign [.Attribute o f pos'] value pos) (tV X.K ta tv f):=by intro aa s σ H D I h;refine plainObj_wpAny_Assign_Attribute (bR (b aa s σ H _ I h) λu s1 ⟨y,d,g,i,q⟩=>bR (ha aa s1 σ d _ g q) λj s2 z=>?_) hs;obtain⟨x,t,k,m,a,C,v,fs,rfl,p,c,n,l,q2⟩:=z;obtain rfl:j=Value.ref a:=m;exact xK k p c n l i λw r=>⟨σ,_,r,q2⟩
end
section
variable{X:Cx}{aa:List (Addr×Obj)}{σ:St}{H:Hp}{s:Xt}{A:Xx}{E:Xw->Xt->Prop}{Q:Xw->Xt->Prop}{c:Xw}{b:Bool}
inductive om(K:Xu) (H:Hp):V->Xw->Prop where
 |bn:om K H .bn (.type "NoneType")
 |bl (x:Bool):om K H (.bl x) (.type "bool")
 |int (i:Int):om K H (.int i) (.type "int")
 |str (x:Str):om K H (.str x) (.type "str")
 |Jp (x:UInt64):om K H (.Jp x) (.type "float")
 |lst {a:Addr} {xs:List V} (e:H a=some (.lst xs)):om K H (.ref a) (.type "list")
 |aZ {a:Addr} {o:Obj} {xs:List V} (e:H a=some (.aZ o (.lst xs))):om K H (.ref a) (.type "list")
 |tup {a:Addr} {xs:List V} (e:H a=some (.tup xs)):om K H (.ref a) (.type "tuple")
 |dK {a:Addr} {kvs:List (bm×V)} (e:H a=some (.dK kvs)):om K H (.ref a) (.type "dict")
 |dT {a:Addr} {kvs:List (List bm×V)} (e:H a=some (.dT kvs)):om K H (.ref a) (.type "dict")
 |ins {a C dx:Addr} {fs:List (Str×V)} (e:H a=some (.ins C dx fs)) (cl:ve K C) (ha:findIn K (.ref C) "__class__"=some (some (.builtin "object.__class__")))
  (hn:PySem.W.specialIn K (.builtin "object.__class__") "__get__"=some (some (.builtin "getset_descriptor.__get__"))) (htk:PySem.W.takesIn K (.builtin "object.__class__")=some true)
  (hm:PySem.W.mroIn K C (.type "object")=some true):om K H (.ref a) (.ref C)
def AF(I:Inv X aa σ H s)(d:RelV x u)(ty:om X.K H x t)(e:PySem.W.kitOne X.K t c=some b)(h:∀tk,Q (.bool b) {s with toks:=tk}) :
 wpAny (model X.prog X.w) A (call (.builtin "isinstance") [u,c]) Q E s:=by
 cases ty with
 |bn=>cases(show u=Value.none from d);exact UZ PySem.W.kitx_none I.ol True.intro e (λz=>nomatch z) h
 |bl y=>cases(show u=Value.bool y from d);exact UZ PySem.W.kitx_bool I.ol True.intro e (λz=>nomatch z) h
 |int i=>obtain⟨t,q⟩:=(show ∃t,u=Value.int i t from d);cases q;exact UZ PySem.W.kitx_int I.ol True.intro e (λz=>nomatch z) h
 |str y=>obtain⟨t,q⟩:=(show ∃t,u=Value.str y t from d);cases q;exact UZ PySem.W.kitx_str I.ol True.intro e (λz=>nomatch z) h
 |Jp y=>obtain⟨t,q⟩:=(show ∃t,u=Value.float y t from d);cases q;exact UZ PySem.W.kitx_float I.ol True.intro e (λz=>nomatch z) h
 |@lst a xs f=>cases(show u=Value.ref a from d);obtain⟨_,_,n,_,h1⟩:=(show ObjOk X.prog X.w H s.heap a (.lst xs)from I.aS a _ f);exact UZ PySem.W.kitx_list I.ol ⟨_,h1,rfl⟩ e (λz=>nomatch z) h
 |@aZ a k xs f=>cases(show u=Value.ref a from d);obtain⟨_,_,_,n,_,h1⟩:=(show ObjOk X.prog X.w H s.heap a (.aZ k (.lst xs))from I.aS a _ f);exact UZ PySem.W.kitx_list I.ol ⟨_,h1,rfl⟩ e (λz=>nomatch z) h
 |@tup a xs f=>cases(show u=Value.ref a from d);obtain⟨_,_,_,p⟩:=(show ObjOk X.prog X.w H s.heap a (.tup xs)from I.aS a _ f);obtain⟨o,h1,g,_⟩:=p;exact UZ PySem.W.kitx_tuple I.ol ⟨o,h1,g⟩ e (λz=>nomatch z) h
 |@dK a kvs f=>cases(show u=Value.ref a from d);obtain⟨_,_,vs,_,p⟩:=(show ObjOk X.prog X.w H s.heap a (.dK kvs)from I.aS a _ f);obtain⟨o,es,l,h1,g,_⟩:=p;exact UZ W9 I.ol ⟨o,h1,g.1⟩ e (λz=>nomatch z) h
 |@dT a kvs f=>cases(show u=Value.ref a from d);obtain⟨_,_,xs,_,o,es,l,h1,g,_⟩:=(show ObjOk X.prog X.w H s.heap a (.dT kvs)from I.aS a _ f);exact UZ W9 I.ol ⟨o,h1,g.1⟩ e (λz=>nomatch z) h
 |@ins a C v fs f cl ha m j r=>cases(show u=Value.ref a from d);obtain⟨B,O,_⟩:=oZ I.aS f;obtain⟨od,J,_⟩:=O.look;exact UZ (PySem.W.kitx_own (cl.get _) cl.hd ha m j r) I.ol J e (λz=>nomatch z) h
end
structure dt(k:Nat) (A:Xx):Prop where
 hd:A.handled=none
 dp:A.depth+3*k+5<recursionLimit
 un:A.units+16*k+200<cLine
def dt.mono(r:dt k A)(h:j<=k):dt j A:=⟨r.hd,by have:=r.dp;lia,by have:=r.un;lia⟩
theorem dt.deeper(r:dt (k+1) A)(env:Env):dt k (A.deeper env):=⟨r.hd,by have:=r.dp;show A.depth+1+3*k+5<_;lia,by have:=r.un;show A.units+3+16*k+200<_;lia⟩
def xL{A:Xx}{C:Addr}:(A.under (.builtin "type.__call__" ⟨.ref C::us,kw⟩)).depth=A.depth+1:=by
 first|rfl|simp[Around.under,Code.weight,Code.isCreation,Code.isGuard,Code.isCaller,Code.frames,Code.isFrame,guardIds]
def xM{A:Xx}{C:Addr}:(A.under (.builtin "type.__call__" ⟨.ref C::us,kw⟩)).units=A.units+1:=by
 first|rfl|simp[Around.under,Code.cUnits,Code.frames,Code.isFrame]
def dt.make(r:dt (k+1) A) (C:Addr) (us:List Xw) (a:List (Str×Xw)):dt k (A.under (.builtin "type.__call__" ⟨.ref C::us,a⟩)):=⟨r.hd,by have:=r.dp;rw[xL];lia,by have:=r.un;rw[xM];lia⟩
theorem dt.depth(r:dt k A):A.depth<recursionLimit:=by have:=r.dp;lia
theorem dt.units(r:dt k A):A.units+64<cLine:=by have:=r.un;lia
noncomputable def bz:TA:=λ_ H Q=>Q [] H
noncomputable def aA(ta:TE)(tr:TA):TA:=λσ H Q=>ta σ H λx a=>tr σ a λxs b=>Q (x::xs) b
section
variable{X:Cx}{e:Expr}{es:List Expr}{te:TE}{t:TA}{pos:Pos}
def aC:PA X [] bz:=λ_ _ _ _ H Q I h=>Vz ⟨[],H,I,.nil,h⟩
def ah(ha:PE X e te)(a:PA X es t)(hs:autoParam (starEach (e::es) X.env=(false,eval e X.env)::starEach es X.env) ae):PA X (e::es) (aA te t):=by intro pos aa s σ H Q I h;rw[hs];show wpAny _ _ (spliced ((false,eval e X.env)::backTo pos (starEach es X.env))) _ _ s;refine U2 (bR (ha aa s σ H _ I h) λu s1 ⟨x,b,c,d,q1⟩=>?_);exact bR (a pos aa s1 σ b _ c q1) λus s2 ⟨xs,f,g,i,q2⟩=>⟨x::xs,f,g,.cons d i,q2⟩
def jN(t:TA):TE:=λσ H Q=>t σ H λxs a=>xs.length<=sizeLine/\∀p,a p=none->Q (.ref p) (aP a p (.tup xs))
def vD(t:TA):TE:=λσ H Q=>t σ H λxs a=>xs.length<=sizeLine/\∀p,a p=none->Q (.ref p) (aP a p (.lst xs))
def cv{x1}(h:PA X es t):PE X (.Tuple es x1 pos) (jN t):=by intro aa s σ H Q I d;refine wpAny_Tuple_spliced (bR (h pos aa s σ H _ I d) λus s1 ⟨xs,a,c,r,z,q⟩=>⟨by rw[<- r.length];exact z,?_⟩);have f:a s1.heap.objs.size=none:=c.aS.fresh (Tt _);refine⟨.ref s1.heap.objs.size,aP a s1.heap.objs.size (.tup xs),c.laid (t':=s1.toks) (λb u e=>RW _ e) (Tt _) ?_,rfl,q _ f⟩;exact⟨z,us,r,⟨_,Tz _ rfl,rfl,_,rfl⟩⟩
def iu(h:PA X es t):PE X (.List es pos) (vD t):=by intro aa s σ H Q I d;refine wpAny_List_spliced (bR (h pos aa s σ H _ I d) λus s1 ⟨xs,a,c,r,z,q⟩=>⟨by rw[<- r.length];exact z,?_⟩);have f:a s1.heap.objs.size=none:=c.aS.fresh (Tt _);refine⟨.ref s1.heap.objs.size,aP a s1.heap.objs.size (.lst xs),c.laid (t':=s1.toks) (λb u e=>RW _ e) (Tt _) ?_,rfl,q _ f⟩;exact⟨z,us,0,r,Tz _ rfl⟩
end
abbrev Sp:=List V->Hp->VK->XK->Prop
abbrev AG:=List Env->Hp->Xt->XK->Xw->Xt->Prop
structure yP(P:Xv) (w:World) (K:Xu) (mg:Str->Option Xw) (base:Heap) (A:Xx) (outer:List Env) (s:Xt) (H:Hp):Prop where
 frames:A.frames=some outer
 mod:Mod K mg base
 bs:∀b o,base.get? b=some o->s.heap.get? b=some o/\H b=none
 Fu:base.objs.size<=s.heap.objs.size
 oo:s.heap.FunFrames base outer
 Jr:∀b∈B9 outer,H b=none
 aS:HOk P w H s.heap
 bare:AllBare s.gens
 kt:Q2 K H
def CE(outer:List Env)(P:Xv)(w:World)(H:Hp)(s:Xt)(Q:VK)(u:Xw)(a:Xt):Prop:=∃v H',a.os=s.os/\AllBare a.gens/\Un (B9 outer) [] H H' s.heap a.heap/\HOk P w H' a.heap/\RelV v u/\Q v H'
def CR(CX:AG)(outer:List Env)(P:Xv)(w:World)(H:Hp)(s:Xt)(Q:VK)(E:XK)(r:Result)(a:Xt):Prop:=
 match r with
 |.ok (.ret u)=>CE outer P w H s Q u a
 |.ok _=>False
 |.error e=>CX outer H s E e a
structure bG(P:Xv) (w:World) (K:Xu) (mg:Str->Option Xw) (base:Heap) (CX:AG) (k:Nat) (f:Addr) (fd:FuncData) (ps:List Str) (sp:Sp):Prop where
 len:∀vs H Q E,sp vs H Q E->vs.length=ps.length
 run:∀(A:Xx)(outer:List Env)(s:Xt)(H:Hp)(args:Args)(us:List Xw)(vs:List V)(Q:VK)(E:XK),dt k A->yP P w K mg base A outer s H->BindsTo s fd args (ps.zip us)->Vals vs us->sp vs H Q E->
  codeAny (model P w) A (.call (.ref f) args) (CR CX outer P w H s Q E) s
def bG.imp{P:Xv}{w:World}{K:Xu}{mg:Str->Option Xw}{base:Heap}{CX:AG}(F:bG P w K mg base CX k f fd ps sp)
 (h:∀vs H Q E,sp' vs H Q E->sp vs H Q E):bG P w K mg base CX k f fd ps sp':=
 ⟨λvs H Q E q=>F.len vs H Q E (h _ _ _ _ q),λA outer s H args us vs Q E a b c d hs=>F.run A outer s H args us vs Q E a b c d (h _ _ _ _ hs)⟩
def yP.make{P:Xv}{w:World}{K:Xu}{mg:Str->Option Xw}{base:Heap}(e:yP P w K mg base A outer s H)(C:Addr)(us:List Xw)(a:List (Str×Xw)) :
 yP P w K mg base (A.under (.builtin "type.__call__" ⟨.ref C::us,a⟩)) outer s H:=⟨by first|exact e.frames|(simpa[Around.under,Code.envs,Code.isFrame,pushEnvs]using e.frames),e.mod,e.bs,e.Fu,e.oo,e.Jr,e.aS,e.bare,e.kt⟩
section
variable{X:Cx}{aa:List (Addr×Obj)}{σ:St}{H:Hp}{s s':Xt}
def Inv.QJ(I:Inv X aa σ H s):yP X.prog X.w X.K X.mg X.base X.A X.stack s H:=⟨I.ok.frames,I.ok.mod,I.bs,Ua I.ok.Fu I.sz,I.stack,I.Ar,I.aS,I.bare,I.kt⟩
def Inv.after(I:Inv X aa σ H s)(h:CE X.stack X.prog X.w H s Q u s'):EP X aa σ Q u s':=by obtain⟨v,H',os,bare,un,aS,r,q⟩:=h;obtain⟨c,g,d,t,a⟩:=s';obtain rfl:a=s.os:=os;exact⟨v,H',I.call (h':=c) (g':=g) (d':=d) (t':=t) (ch:=[]) un aS bare (λb z=>absurd z (by simp)),r,q⟩
end
noncomputable def yZ(sp:Sp)(a:List V)(E:XK)(t:TA):TE:=λσ H Q=>t σ H λvs b=>sp (vs++a) b Q E
def fV(C:Addr)(m:Str)(sp:Sp)(b:List V)(E:XK)(ta:TE)(t:TA):TE:=λσ H Q=>ta σ H λx c=>∃a d fs,x=.ref a/\c a=some (.ins C d fs)/\fs.lookup m=none/\
 t σ c λvs e=>sp (x::(vs++b)) e Q E
def y8(C:Addr)(sp:Sp)(b:List V)(E:XK)(t:TA):TE:=λσ H Q=>t σ H λvs c=>∀x a,c x=none->c a=none->a≠x->
 sp (.ref x::(vs++b)) (aP (aP c a (.own x)) x (.ins C a [])) (λv d=>v=.bn/\Q (.ref x) d) E
def Binds(K:Xu)(fd:FuncData)(ps:List Str)(ds:List Xw):Prop:=∀(s:Xt)(us:List Xw),K.In s.heap->(us++ds).length=ps.length->BindsTo s fd ⟨us,[]⟩ (ps.zip (us++ds))
def Binds.all{K:Xu}(h:∀us:List Xw,us.length=ps.length->bindArgs fd ⟨us,[]⟩=pure (ps.zip us)):Binds K fd ps []:=λs us _ a=>by rw[V3]at a ⊢;exact .of_eq (h us a)
def gy(CX:AG)(X:Cx)(E:XK):Prop:=∀(aa:List (Addr×Obj))(σ:St)(H:Hp)(s:Xt)(e:Xw)(a:Xt),Inv X aa σ H s->CX X.stack H s E e a->X.xe e a
section
variable{X:Cx}{CX:AG}{k:Nat}{f C:Addr}{fd:FuncData}{ps:List Str}{sp:Sp}{dvs:List V}{ds:List Xw}{E:XK}{x m:Str}{p pos apos:Pos}{e o:Expr}{es:List Expr}{ta:TE}{t:TA}
def xN(F:bG X.prog X.w X.K X.mg X.base CX k f fd ps sp)(c:dt k X.A)(d:Binds X.K fd ps ds)(hd:Vals dvs ds)(g:gy CX X E)
 (I:Inv X aa σ H s) (r:Vals vs us) (h:sp (vs++dvs) H Q E):wpAny (model X.prog X.w) X.A (call (.ref f) us) (EP X aa σ Q) X.xe s:=by
 have b:Vals (vs++dvs) (us++ds):=r.append hd;have i:(us++ds).length=ps.length:=by rw[<- b.length];exact F.len _ _ _ _ h
 refine wpAny_call (WI (F.run X.A X.stack s H ⟨us,[]⟩ (us++ds) (vs++dvs) Q E c I.QJ (d s us I.ol i) b h) λr j a=>?_);cases r with
 |error e=>exact g aa σ H s e j I a
 |ok fl=>
  cases fl with
  |ret u=>exact I.after a
  |next=>exact False.elim a
  |brk=>exact False.elim a
  |cont=>exact False.elim a
def tW(F:bG X.prog X.w X.K X.mg X.base CX k f fd ps sp)(d:dt k X.A)(g:Gl X x)(i:X.mg x=some (.ref f))(j:keepIn X.K (.ref f)=true)(l:Binds X.K fd ps ds)(hd:Vals dvs ds)(n:gy CX X E)
 (ha:PA X (e::es) t) (a:autoParam ((x==("__debug__" : Str))=false) am) (u:autoParam (starEach (e::es) X.env=(false,eval e X.env)::starEach es X.env) ae) (b:autoParam ((backTo pos (starEach es X.env)).any (·.1)=false) ae) :
 PE X (.Call (.Name x p) (e::es) [] pos) (yZ sp dvs E t):=by
 intro aa s σ H Q I h;refine VD (tT I g i ?_ a);refine W1 (h₀:=X.base) I.ok.mod.lT j (bR (ha pos aa s σ H _ I h) λus s1 ⟨vs,v,c,r,q⟩=>⟨c.ol,?_⟩) u b;exact xN F d l hd n c r q
def fY(v:PE X o ta)(c:ve X.K C)(g:Meth X.K C m f)(F:bG X.prog X.w X.K X.mg X.base CX k f fd ps sp)(y:dt k X.A)(B:Binds X.K fd ps ds)(hd:Vals dvs ds)(D:gy CX X E)(ha:PA X (e::es) t)
 (b:autoParam (starEach (e::es) X.env=(false,eval e X.env)::starEach es X.env) ae) (d:autoParam ((backTo pos (starEach es X.env)).any (·.1)=false) ae)
 (G:autoParam (eval (.Call (.Attribute o m apos) (e::es) [] pos) X.env=(do
   let i <- eval o X.env
   standAt apos.atName
   let (f,first) <- holding [i] (getMethod i m pl)
   callWith pos f first (backTo pos (starEach (e::es) X.env)) (backToKw pos (keywordEach [] X.env)))) ae) :
 PE X (.Call (.Attribute o m apos) (e::es) [] pos) (fV C m sp dvs E ta t):=by
 intro aa s σ H Q I h;refine PySem.W.methodCall_KW (pl:=pl) (bR (v aa s σ H _ I h) λu s1 z=>?_) G;obtain⟨x,J,j,L,a,N,fs,rfl,M,l,q⟩:=z;obtain rfl:u=Value.ref a:=L;refine pH j M c g l ?_;refine W1 (first:=[.ref a]) (h₀:=X.base) I.ok.mod.lT g.kp (bR (ha pos aa s1 σ J _ j q) λus s2 ⟨vs,O,n,r,q2⟩=>⟨n.ol,?_⟩) b d;exact xN (us:=.ref a::us) (vs:=.ref a::vs) F y B hd D n (.cons rfl r) q2
def pI(i:PE X o ta)(c:ve X.K C)(d:Meth X.K C m f)(F:bG X.prog X.w X.K X.mg X.base CX k f fd ps sp)(j:dt k X.A)(n:Binds X.K fd ps ds)(hd:Vals dvs ds)(r:gy CX X E)
 (v:autoParam (eval (.Call (.Attribute o m apos) [] [] pos) X.env=(do
   let g <- eval o X.env
   standAt apos.atName
   let (f,first) <- holding [g] (getMethod g m pl)
   callWith pos f first (backTo pos (starEach [] X.env)) (backToKw pos (keywordEach [] X.env)))) ae) :
 PE X (.Call (.Attribute o m apos) [] [] pos) (fV C m sp dvs E ta bz):=by
 intro aa s σ H Q I h;refine PySem.W.methodCall_KW (pl:=pl) (bR (i aa s σ H _ I h) λu s1 z=>?_) v;obtain⟨x,D,b,y,a,G,fs,rfl,B,l,q⟩:=z;obtain rfl:u=Value.ref a:=y;refine pH b B c d l ?_;exact PySem.W.callWith_K0 (first:=[.ref a]) b.ol d.kp (xN (us:=[.ref a]) (vs:=[.ref a]) F j n hd r b (.cons rfl .nil) q)
structure Mk(K:Xu) (C f:Addr):Prop where
 makes:PySem.W.makesIn K C=true
 init:findIn K (.ref C) "__init__"=some (some (.ref f))
 fn:isFn K (.ref f)=true
 kp:keepIn K (.ref C)=true
def vE(M:Mk X.K C f)(F:bG X.prog X.w X.K X.mg X.base CX k f fd ps sp)(i:dt (k+1) X.A)(j:Binds X.K fd ps ds)(hd:Vals dvs ds)
 (l:gy CX X E) (I:Inv X aa σ H s) (r:Vals vs us)
 (h:∀x b,H x=none->H b=none->b≠x->sp (.ref x::(vs++dvs)) (aP (aP H b (.own x)) x (.ins C b [])) (λv n=>v=.bn/\Q (.ref x) n) E) :
 wpAny (model X.prog X.w) X.A (call (.ref C) us) (EP X aa σ Q) X.xe s:=by
 have d:=h (s.heap.objs.size+1) s.heap.objs.size (I.aS.fresh (Nat.le_succ _)) (I.aS.fresh (Tt _)) (T5 (VB _));have c:=Inv.made (C:=C) I;have g:Vals (V.ref (s.heap.objs.size+1)::(vs++dvs)) (Value.ref (s.heap.objs.size+1)::(us++ds)):=.cons rfl (r.append hd);have q:(Value.ref (s.heap.objs.size+1)::us++ds).length=ps.length:=by have e:=g.length;rw[F.len _ _ _ _ d]at e;exact e.symm
 refine wpAny_call (Ck (f:=f) I.ol M.makes M.init (V_.mp M.fn) (WI (F.run _ X.stack _ _ ⟨Value.ref (s.heap.objs.size+1)::us,[]⟩ (Value.ref (s.heap.objs.size+1)::(us++ds)) _ _ E (i.make C us [])
  (c.QJ.make C us []) (j _ (Value.ref (s.heap.objs.size+1)::us) c.ol q) g d) λr y a=>?_))
 cases r with
 |error e=>exact l aa σ _ _ e y c a
 |ok fl=>
  cases fl with
  |ret u=>obtain⟨v,H',z,B,D,G⟩:=c.after a;subst D;exact⟨B,⟨V.ref (s.heap.objs.size+1),H',z,rfl,G⟩⟩
  |next=>exact False.elim a
  |brk=>exact False.elim a
  |cont=>exact False.elim a
def FN(M:Mk X.K C f)(F:bG X.prog X.w X.K X.mg X.base CX k f fd ps sp)(d:dt (k+1) X.A)(g:Gl X x)(i:X.mg x=some (.ref C))(j:Binds X.K fd ps ds)(hd:Vals dvs ds)(l:gy CX X E)
 (ha:PA X (e::es) t) (a:autoParam ((x==("__debug__" : Str))=false) am) (n:autoParam (starEach (e::es) X.env=(false,eval e X.env)::starEach es X.env) ae) (b:autoParam ((backTo pos (starEach es X.env)).any (·.1)=false) ae) :
 PE X (.Call (.Name x p) (e::es) [] pos) (y8 C sp dvs E t):=by
 intro aa s σ H Q I h;refine VD (tT I g i ?_ a);refine W1 (h₀:=X.base) I.ok.mod.lT M.kp (bR (ha pos aa s σ H _ I h) λus s1 ⟨vs,u,c,r,q⟩=>⟨c.ol,?_⟩) n b;exact vE M F d j hd l c r q
def Cm(M:Mk X.K C f)(F:bG X.prog X.w X.K X.mg X.base CX k f fd ps sp)(b:dt (k+1) X.A)(c:Gl X x)(d:X.mg x=some (.ref C))(g:Binds X.K fd ps ds)(hd:Vals dvs ds)(i:gy CX X E)
 (a:autoParam ((x==("__debug__" : Str))=false) am):PE X (.Call (.Name x p) [] [] pos) (y8 C sp dvs E bz):=by
 intro aa s σ H Q I h;refine VD (tT I c d ?_ a);exact PySem.W.callWith_K0 I.ol M.kp (vE (us:=[]) M F b g hd i I .nil h)
end
def PK(X:Cx)(a:List Keyword)(t:TA):Prop:=∀(b:Pos)(aa:List (Addr×Obj))(s:Xt)(σ:St)(H:Hp)(Q:List V->Hp->Prop),Inv X aa σ H s->t σ H Q->wpAny (model X.prog X.w) X.A (evalAll ((backToKw b (keywordEach a X.env)).map (·.2))) (AP X aa σ Q) X.xe s
section
variable{X:Cx}{x:Str}{pos kpos:Pos}{e:Expr}{kws:List Keyword}{te:TE}{t:TA}{nm:Option Str}
def J4:PK X [] bz:=λ_ _ _ _ H Q I h=>wpAny_evalAll_nil ⟨[],H,I,.nil,h⟩
def FO(ha:PE X e te)(a:PK X kws t):PK X (⟨nm,e,kpos⟩::kws) (aA te t):=by intro pos aa s σ H Q I h;show wpAny _ _ (evalAll ((do let v <- eval e X.env;standAt pos;pure v)::(backToKw pos (keywordEach kws X.env)).map (·.2))) _ _ s;refine wpAny_evalAll_cons (KE (bR (ha aa s σ H _ I h) λu s1 ⟨x,b,c,d,q1⟩=>KE (wpAny_standAt (Tu ?_))));exact bR (a pos aa s1 σ b _ c q1) λus s2 ⟨xs,f,g,i,q2⟩=>⟨x::xs,f,g,.cons d i,q2⟩
end
structure aR(N P:List Str) (sc:Scope):Prop where
 kind:sc.kind=.function
 co:sc.isCoroutine=false
 gen:sc.isGenerator=false
 nd:N.Nodup
 pre:N.take P.length=P
 par:∀x∈P,sc.names.lookup x=some .local\/sc.names.lookup x=some .cell
 M7:∀y∈sc.names,y.2≠.free
theorem sC{kindOf:Str->Option NameKind}:∀{binds:List (Str×Xw)}{m:Str->Option Xw},(∀v,(x,v)∉binds)->bindL kindOf binds m x=m x
 |[],_,_=>rfl
 |(n,v)::r,m,h=>by
  unfold bindL;rw[sC λw a=>h w (TB _ a)];split
  .have:x≠n:=by rintro rfl;exact h v TF
   simp[this]
  .rfl
theorem sD{kindOf:Str->Option NameKind}:∀{binds:List (Str×Xw)}{m:Str->Option Xw},(∀v,(x,v)∉binds)->bindC kindOf binds m x=m x
 |[],_,_=>rfl
 |(n,v)::r,m,h=>by
  unfold bindC;rw[sD λw a=>h w (TB _ a)];split
  .rfl
  .have:x≠n:=by rintro rfl;exact h v TF
   simp[this]
theorem sE{kindOf:Str->Option NameKind}:∀{P:List Str}{vs:List Xw}{i:Nat}{m:Str->Option Xw},P.Nodup->P[i]?=some x->vs[i]?=some v->kindOf x=some .local->
 bindL kindOf (P.zip vs) m x=some v
 |[],_,_,_,_,h,_,_=>by simp at h
 |_::_,[],_,_,_,_,h,_=>by simp at h
 |p::P,w::vs,0,m,nd,h1,a,b=>by simp at h1 a;subst h1;subst a;show bindL kindOf ((p,w)::P.zip vs) m p=_;unfold bindL;rw[sC λv c=>(UA.mp nd).1 (List.of_mem_zip c).1,Tv b];simp
 |p::P,w::vs,i+1,m,nd,h1,a,b=>by show bindL kindOf ((p,w)::P.zip vs) m x=_;unfold bindL;exact sE (i:=i) (UA.mp nd).2 (by simpa using h1) (by simpa using a) b
theorem sF{kindOf:Str->Option NameKind}:∀{P:List Str}{vs:List Xw}{i:Nat}{m:Str->Option Xw},P.Nodup->P[i]?=some x->vs[i]?=some v->kindOf x≠some .local->
 bindC kindOf (P.zip vs) m x=some v
 |[],_,_,_,_,h,_,_=>by simp at h
 |_::_,[],_,_,_,_,h,_=>by simp at h
 |p::P,w::vs,0,m,nd,h1,a,b=>by simp at h1 a;subst h1;subst a;show bindC kindOf ((p,w)::P.zip vs) m p=_;unfold bindC;rw[sD λv c=>(UA.mp nd).1 (List.of_mem_zip c).1,TJ b];simp
 |p::P,w::vs,i+1,m,nd,h1,a,b=>by show bindC kindOf ((p,w)::P.zip vs) m x=_;unfold bindC;exact sF (i:=i) (UA.mp nd).2 (by simpa using h1) (by simpa using a) b
noncomputable def cf(N:List Str)(vs:List V):St:=vs.map some++List.replicate (N.length-vs.length) none
noncomputable def xO(CX:AG)(P:Xv)(w:World)(K:Xu)(mg:Str->Option Xw)(base:Heap)(N:List Str)(qual:Str)(scope:Scope)(f:Addr)(cd:Xw)(A:Xx)(outer:List Env)(s:Xt)(H:Hp)(E:XK):Cx where
 prog:=P
 w:=w
 K:=K
 mg:=mg
 base:=base
 A:=A.deeper (envOfC qual scope s.heap.objs.size f cd)
 N:=N
 s₀:=s
 H₀:=H
 env:=envOfC qual scope s.heap.objs.size f cd
 outer:=outer
 stack:=envOfC qual scope s.heap.objs.size f cd::outer
 ex:=[]
 calm:=true
 fn:=λ_=>true
 pn:=[]
 xe:=λe s'=>wpAny (model P w) (A.deeper (envOfC qual scope s.heap.objs.size f cd)) (leaving (envOfC qual scope s.heap.objs.size f cd) e) (λ_ s''=>CX outer H s E e s'') (λe' s''=>CX outer H s E e' s'') s'
def vF{a:Scope}(h:a.names.lookup x=some .cell):∃c,(cellsFrom n a.names []).lookup x=some c:=by have q:=PySem.W.cellsFrom_some a.names n [] (.inl h);exact Option.isSome_iff_exists.mp q
def AH{CX:AG}{P:Xv}{w:World}{K:Xu}{mg:Str->Option Xw}{base:Heap}{N ps:List Str}{qual:Str}{scope:Scope}
 (S:aR N ps scope) (hd:A.handled=none) (e0:yP P w K mg base A outer s H) (B:vs.length=ps.length) (r:Vals vs us)
 (x:InCallC s s.heap.objs.size (bindL (envOfC qual scope s.heap.objs.size f cd).kindOf (ps.zip us) λ_=>none) (cellsFrom (s.heap.objs.size+1) scope.names []) (bindC (envOfC qual scope s.heap.objs.size f cd).kindOf (ps.zip us) λ_=>none) s1) :
 Inv (xO CX P w K mg base N qual scope f cd A outer s H E) [] (cf N vs) H s1:=by
 have o:ps.length<=N.length:=by have:=Vv List.length S.pre;rw[Vp]at this;lia
 obtain⟨h1,tk,rfl,j⟩:=x.done;have a:∀b:Addr,b∉(xO CX P w K mg base N qual scope f cd A outer s H E).ex:=λb z=>absurd (show b∈([]:List Addr)from z) (by simp);refine⟨⟨e0.mod,S.kind,rfl,rfl,Tt _,λy z c h1 l=>?_,λy hy=>?_,λy c _ h=>?_,λ_=>hd,Around.frames_deeper e0.frames,.inr ⟨rfl,rfl⟩,λb z=>absurd z (a b),e0.bs,e0.Fu,λb _ _=>a b,λb z=>absurd z (a b),e0.oo,e0.Jr,e0.kt⟩,
  rfl,e0.bare,Un.kept j,⟨_,x.toInCall.ns,λi y v h1 l C=>?_⟩,λy c h=>⟨_,x.cell y c h⟩,e0.aS.fresh (Tt _),λy c h=>?_,λp d=>absurd (show p∈([]:List (Addr×Obj))from d) (by simp),e0.aS.kept j,?_⟩
 .exact name_of_addr x.apart (Vc h1) (Vc l)
 .have hy:scope.names.lookup y=some .cell\/scope.names.lookup y=some .free:=hy;rcases hy with hy|hy
  .exact vF hy
  .exact absurd rfl (S.M7 _ (Vc hy))
 .exact WH (x.above y c (Vc h))
 .have D:i<vs.length:=by
   grind [cf]
  have ha:vs[i]?=some v:=by grind [cf]
  obtain⟨u,m,t⟩:=r.get ha;have d:ps[i]?=some y:=by rw[<- S.pre,List.getElem?_take_of_lt (by lia)];exact h1
  have g:ps.Nodup:=by rw[<- S.pre];exact S.nd.sublist (List.take_sublist _ _)
  refine⟨u,t,?_⟩;rcases S.par y (UH d)with k|k
  .exact .inl ⟨k,sE g d m k⟩
  .obtain⟨c,e⟩:=vF (n:=s.heap.objs.size+1) k;refine .inr ⟨.inl k,c,e,?_⟩;have q:=x.cell y c e;rw[sF g d m (by show scope.names.lookup y≠_;rw[k];decide)]at q;exact q
 .exact e0.aS.fresh (WH (x.above y c (Vc h)))
 .unfold cf;show _=N.length;rw[T_,TN,WJ];lia
def NI{CX:AG}{P:Xv}{w:World}{K:Xu}{mg:Str->Option Xw}{base:Heap}{k:Nat}{f:Addr}{name qual:Str}{a:Arguments}{body:List Stmt}{scope:Scope}{z kV doc pm cdv ct oc:Xw}{an od:Option Addr}
 {osl:Array (Option Xw)} {N ps:List Str} {sp:Sp} (lk:K.lookup f=some ⟨oc,od,.func (fnOf name qual a body scope z kV doc pm an cdv ct),osl⟩) (j:codeIn K cdv qual=true) (S:aR N ps scope)
 (len:∀vs H Q E,sp vs H Q E->vs.length=ps.length)
 (d:∀(A:Xx)(outer:List Env)(s:Xt)(H:Hp)(vs:List V)(Q:VK)(E:XK),dt k (A.deeper (envOfC qual scope s.heap.objs.size f cdv))->sp vs H Q E->
   ∃t,PSs (xO CX P w K mg base N qual scope f cdv A outer s H E) body t/\t {nx:=λ_ H'=>Q .bn H',rt:=Q} (cf N vs) H) :
 bG P w K mg base CX (k+1) f (fnOf name qual a body scope z kV doc pm an cdv ct) ps sp:=by
 refine⟨len,λA outer s H args us vs Q E l e0 C r h=>?_⟩;have D:=len _ _ _ _ h;have B:K.In s.heap:=e0.mod.lT.keeps λb o e=>(e0.bs b o e).1;have lim:s.heap.NoLimit:=e0.mod.nolimit.keeps λb o e=>(e0.bs b o e).1;have g:∀y∈ps.zip us,scope.names.lookup y.1=some .local\/(scope.names.lookup y.1=some .cell/\((cellsFrom (s.heap.objs.size+1) scope.names []).lookup y.1).isSome=true):=λ⟨n,v⟩ F=>by
  rcases S.par n (List.of_mem_zip F).1 with q|q
  .exact .inl q
  .exact .inr ⟨q,PySem.W.cellsFrom_some _ _ _ (.inl q)⟩
 refine codeAny_call_function l.depth (B _ _ lk) rfl S.co S.gen rfl (PySem.W.codeRec_of B j) (C _ _ _ _ ?_);refine wpAny_newFunctionEnv_cells S.kind g λenv G s1 x=>?_;subst G;refine⟨lim.keeps x.toInCall.keep,codeAny_func ?_⟩;obtain⟨t,L,M⟩:=d A outer s H vs Q E (l.deeper _) h;have I:Inv (xO CX P w K mg base N qual scope f cdv A outer s H E) [] (cf N vs) H s1:=AH S l.hd e0 D r x;refine U9 (L [] s1 (cf N vs) H _ I M) (λfl m hs=>?_) λe m hs=>hs;have i:∀{c:St}{H':Hp}{v:V}{u:Xw},Inv (xO CX P w K mg base N qual scope f cdv A outer s H E) [] c H' m->RelV v u->Q v H'->CE outer P w H s Q u m:=λ{c H' v u} J p q=>⟨v,H',J.os,J.bare,J.base,J.aS,p,q⟩;cases fl with
 |ret u=>obtain⟨v,c,H',J,p,q⟩:=hs;exact i J p q
 |next=>obtain⟨c,H',J,q⟩:=hs;exact i (v:=V.bn) (u:=Value.none) J rfl q
 |brk=>obtain⟨_,_,_,q⟩:=hs;exact False.elim q
 |cont=>obtain⟨_,_,_,q⟩:=hs;exact False.elim q
section
variable{X:Cx}{x:Str}{p pos:Pos}{e:Expr}{es:List Expr}{t:TA}{id T:String}{r:List V->Hp->VK->Prop}
noncomputable def FP(r:List V->Hp->VK->Prop)(t:TA):TE:=λσ H Q=>t σ H λvs a=>r vs a Q
def cW(c:CallR X (.builtin id) r) (d:Gl X x) (f:X.mg x=none) (g:bootBuiltins x=some (.builtin id)) (ha:PA X (e::es) t) (i:autoParam (x≠"__name__") am) (a:autoParam ((x==("__debug__" : Str))=false) am)
 (j:autoParam (starEach (e::es) X.env=(false,eval e X.env)::starEach es X.env) ae) (b:autoParam ((backTo pos (starEach es X.env)).any (·.1)=false) ae):PE X (.Call (.Name x p) (e::es) [] pos) (FP r t):=by
 intro aa s σ H Q I h;refine VD (jS I d f g ?_ i a);exact PyProof.Rows.callWith_builtin1 (bR (ha pos aa s σ H _ I h) λus s1 ⟨vs,k,l,m,q1⟩=>c aa s1 σ k vs us Q l m q1) j b
def nz(c:CallR X (.type T) r) (d:Gl X x) (f:X.mg x=none) (g:bootBuiltins x=some (.type T)) (ha:PA X (e::es) t) (i:autoParam (x≠"__name__") am) (a:autoParam ((x==("__debug__" : Str))=false) am)
 (j:autoParam (starEach (e::es) X.env=(false,eval e X.env)::starEach es X.env) ae) (b:autoParam ((backTo pos (starEach es X.env)).any (·.1)=false) ae):PE X (.Call (.Name x p) (e::es) [] pos) (FP r t):=by
 intro aa s σ H Q I h;refine VD (jS I d f g ?_ i a);exact U5 (bR (ha pos aa s σ H _ I h) λus s1 ⟨vs,k,l,m,q1⟩=>c aa s1 σ k vs us Q l m q1) j b
end
end L2
namespace HT
open PySem PyProof.Rows
noncomputable def lexLt:List Int->List Int->Bool
 |[],[]=>false
 |[],_::_=>true
 |_::_,[]=>false
 |x::xs,y::a=>if x=y then lexLt xs a else decide (x<y)
def xP(x y:Int)(xs a:List Int):lexLt (x::xs) (y::a)=if x=y then lexLt xs a else decide (x<y):=rfl
def rG:lexLt [] []=false:=rfl
def pJ(y:Int)(a:List Int):lexLt [] (y::a)=true:=rfl
def pK(x:Int)(xs:List Int):lexLt (x::xs) []=false:=rfl
def Co(A:Xx)(s:Xt)(a:Int)(t:Tok)(c:Int)(u:Tok):∃e,SeqAt.EqAt A s (.int a t) (.int c u) e/\(e=true↔a=c):=⟨(a==c),SeqAt.EqAt.int_int a t c u,by simp⟩
def rcLt_int(A:Xx)(s:Xt)(a:Int)(t:Tok)(c:Int)(u:Tok)(prog:Xv)(w:World)(E:Xw->Xt->Prop)(Q:Xw->Xt->Prop)(h:Q (.bool (decide (a<c))) s) :
 wpAny (model prog w) A (richCompare .Lt (.int a t) (.int c u)) Q E s:=
 (PyProof.Rows.lt_int h:wpAny (model prog w) A (compareOp .Lt (.int a t) (.int c u)) Q E s)
section
open PySem.SeqAt
open PySem.AutoSeq1 (wpAny_loadPart')
open PySem.MeetsSeq PySem.MeetsSeq2 PySem.MeetsSeq3
def rH(l b:Addr)(i f:Array Xw)(n M:Nat)(dd F:Option Addr)(sl G:Array (Option Xw))(ns D:List Int)(J:IntsAre i.toList ns)(K:IntsAre f.toList D) :
 Meets (Builtin.«tuple.__lt__» ⟨[.ref l,.ref b],[]⟩)
  (λ_ R s=>s.heap.get? l=some { cls:=.type "tuple",dict:=dd,data:=.seq i n,slots:=sl }/\s.heap.get? b=some { cls:=.type "tuple",dict:=F,data:=.seq f M,slots:=G }/\
    R (.ok (.ret (.bool (lexLt ns D)))) s):=
 .of_wp λprog w A R s h=>by
  obtain⟨E,g,d,tk,os⟩:=s;obtain⟨N,O,h⟩:=h;have S:=AutoSeq1.sub_tuple_tuple;have T:i.size=ns.length:=by rw[<- J.length];simp
  have U:f.size=D.length:=by rw[<- K.length];simp
  wp_walk using wpAny_loadPart' N,wpAny_loadPart' O,WP _ (λrest b H=>b.1=none/\H=⟨E,g,d,tk,os⟩/\∃(vs ws:List Xw)(j k:List Int),rest=vs.zip ws/\
   IntsAre vs j/\IntsAre ws k/\j.length+f.size=k.length+i.size/\R (.ok (.ret (.bool (lexLt j k)))) ⟨E,g,d,tk,os⟩) _
  case turn=>
   rintro⟨y,x⟩ rest b H ⟨r,rfl,vs,ws,j,k,hz,v,m,z,o⟩;cases v with
   |nil=>rw[List.zip_nil_left]at hz;cases hz
   |cons a t B=>
    cases m with
    |nil=>rw[List.zip_nil_right]at hz;cases hz
    |cons c u C=>
     rw[Wr]at hz;injection hz with hyx hrest;injection hyx with hy hx;subst hy hx;rw[xP]at o;simp only[T2]at z;obtain⟨e,P,p⟩:=Co A.in1 ⟨E,g,d,tk,os⟩ a t c u;refine KE (P prog w _ _ ?_);cases e with
     |true=>
      rw[Tv (p.mp rfl)]at o
      wp_walk
      exact⟨rfl,rfl,_,_,_,_,hrest,B,C,by lia,o⟩
     |false=>
      rw[TJ (λq=>absurd (p.mpr q) Uz)]at o;have I:=rcLt_int A.in1 ⟨E,g,d,tk,os⟩ a t c u prog w
      wp_walk using I
      exact⟨_,rfl,by simpa using o⟩
  case fin=>
   rintro⟨V,W⟩ H ⟨r,rfl,vs,ws,j,k,hz,v,m,z,o⟩;simp only at r;subst r;have L:lexLt j k=decide (i.size<f.size):=by
    cases v with
    |nil=>
     cases m with
     |nil=>simp only[Vj]at z;rw[rG];exact(Uc (by lia)).symm
     |cons c u Q=>simp only[Vj,T2]at z;rw[pJ];exact(T4 (by lia)).symm
    |cons a t L=>
     cases m with
     |nil=>simp only[Vj,T2]at z;rw[pK];exact(Uc (by lia)).symm
     |cons c u Q=>rw[Wr]at hz;cases hz
   rw[L]at o
   wp_walk
   exact⟨_,rfl,by simpa[Builtin.Tuple.tupleCompareSizes]using o⟩
  case h=>exact⟨rfl,rfl,i.toList,f.toList,ns,D,rfl,J,K,by lia,h⟩
end
section
variable{prog:Xv}{w:World}{A:Xx}{E:Xw->Xt->Prop}{s:Xt}
def lt_tupInts(k:IsTup s.heap l items)(m:IsTup s.heap b items2)(o:IntsAre items.toList ns)(p:IntsAre items2.toList ms)
 (q:A.units<cLine) (h:Q (.bool (lexLt ns ms)) s):wpAny (model prog w) A (compareOp .Lt (.ref l) (.ref b)) Q E s:=by
 obtain⟨⟨cls,dd,data,sl⟩,g,i,n,hd⟩:=id k;obtain⟨⟨j,e,data2,f⟩,a,c,r,d⟩:=id m;simp only at i hd c d;subst i hd c d;exact richCompare_meets_room (op:=.Lt) ⟨_,g,rfl⟩ ⟨_,a,rfl⟩ PySem.F.slot_tuple_lt PySem.F.entry_tuple_lt (PySem.F.args_tuple_lt_2 _ _) (rH l b items items2 n r dd e sl f ns ms o p)
  ⟨g,a,show Value.bool (lexLt ns ms)≠Value.notImplemented/\Q (.bool (lexLt ns ms)) s from⟨(λx=>nomatch x),h⟩⟩ q
def cat_tup(o:IsTup s.heap t vs.toArray)(p:IsTup s.heap b ws.toArray)(j:vs≠[])
 (h1:ws=[]->Q (.ref t) s) (q:ws≠[]->Q (.ref s.heap.objs.size) { s with heap:=s.heap.push { cls:=.type "tuple",data:=.seq (vs++ws).toArray } })
 (hsz:vs.length+ws.length<=sizeLine):wpAny (model prog w) A (binaryOp .Add (.ref t) (.ref b)) Q E s:=by
 obtain⟨⟨cls,dd,data,sl⟩,h,k,n,hd⟩:=id o;obtain⟨⟨l,c,data2,d⟩,a,f,m,g⟩:=id p;simp only at k hd f g;subst k hd f g;have e:vs.toArray++ws.toArray=(vs++ws).toArray:=by simp
 by_cases i:ws=[]
 .exact concat_meets ⟨_,h,rfl⟩ ⟨_,a,rfl⟩ noFill_tuple_add seq_tuple_add PySem.F.slot_tuple_add PySem.F.entry_tuple_add (PySem.F.args_tuple_add_2 _ _)
   (tuple_addW1 t b vs.toArray ws.toArray n m dd c sl d (by simpa using j) (by simp[i])) ⟨h,a,h1 i⟩
 .refine concat_meets ⟨_,h,rfl⟩ ⟨_,a,rfl⟩ noFill_tuple_add seq_tuple_add PySem.F.slot_tuple_add PySem.F.entry_tuple_add (PySem.F.args_tuple_add_2 _ _)
   (tuple_addW2 t b vs.toArray ws.toArray n m dd c sl d (by simpa using j) (by simpa using i) (by rw[TR,TR];exact hsz)) ⟨h,a,?_⟩
  rw[e];exact q i
noncomputable def sIx(n d:Nat):Option Int->Nat
 |none=>d
 |some v=>if v<0 then(v+(n:Int)).toNat else min v.toNat n
def sIx_nat(n d k:Nat):sIx n d (some (k:Int))=min k n:=by show(if(k:Int)<0 then((k:Int)+(n:Int)).toNat else min (k:Int).toNat n)=min k n;rw[TJ (by lia),Wy]
def J5(n d:Nat)(hd:d<=n)(o:Option Int):sIx n d o<=n:=by
 cases o with
 |none=>exact hd
 |some v=>
  show(if v<0 then(v+(n:Int)).toNat else min v.toNat n)<=n
  grind
def y9(v:Int)(n d:Nat):(if v<0 then max (v+(n:Int)) 0 else min v (n:Int))=((sIx n d (some v):Nat):Int):=by
 show(if v<0 then max (v+(n:Int)) 0 else min v (n:Int))=(((if v<0 then(v+(n:Int)).toNat else min v.toNat n):Nat):Int)
 grind
def xQ(lo a:Option Int)(n:Nat):Builtin.Slice.sliceAdjust lo a 1 (n:Int)=(((sIx n 0 lo:Nat):Int),((sIx n n a:Nat):Int)):=by
 have h1:¬((1:Int)<0):=by lia
 unfold Builtin.Slice.sliceAdjust;simp only[h1,UI];refine W2 ?_ ?_
 .cases lo with
  |none=>rfl
  |some v=>exact y9 v n 0
 .cases a with
  |none=>rfl
  |some v=>exact y9 v n n
def xR(i j:Nat):Builtin.Slice.slicePlaces (i:Int) (j:Int) 1=j-i:=by
 unfold Builtin.Slice.slicePlaces
 grind
def pL(p:IsPart v o)(h:Q o s):wpAny (model prog w) A (Builtin.Slice.slicePartIndex v) Q E s:=by
 cases p with
 |none=>exact slicePart_none h
 |int i t=>exact slicePart_int h
def sliceApplied_gen{lo a:Option Int}{n:Nat}{Q:Int×Int×Nat->Xt->Prop}(hs:s.heap.IsSliceOf sl vl vu .none)(pl:IsPart vl lo)(d:IsPart vu a)
 (h:Q (((sIx n 0 lo:Nat):Int),1,sIx n n a-sIx n 0 lo) s):wpAny (model prog w) A (Builtin.Slice.sliceApplied (.ref sl) (pure (n:Int))) Q E s:=by
 obtain⟨os,b,e,c⟩:=id hs;unfold Builtin.Slice.sliceApplied Builtin.Slice.sliceFields;refine KE (KE (Wz b c (x:=vl) rfl (KE (Wz b c (x:=vu) rfl (KE (Wz b c (x:=.none) rfl (Tu ?_)))))));refine KE (slicePart_none ?_);show wpAny _ _ (if((1:Int)==0)=true then _ else _) _ _ s;rw[TJ (by decide)];refine KE (pL pl (KE (pL d (KE (Tu ?_)))));show wpAny _ _ (match Builtin.Slice.sliceAdjust lo a 1 (n:Int)with|(lo,a)=>pure (lo,(1:Int),Builtin.Slice.slicePlaces lo a 1)) _ _ s;rw[xQ lo a n];show wpAny _ _ (pure (((sIx n 0 lo:Nat):Int),(1:Int),Builtin.Slice.slicePlaces ((sIx n 0 lo:Nat):Int) ((sIx n n a:Nat):Int) 1)) _ _ s;rw[xR];exact Tu h
def Cp(xs:Array Xw)(i k:Nat):((List.range k).filterMap λ(m:Nat)=>xs[((i:Int)+(m:Int)*1).toNat]?).toArray=((xs.toList.drop i).take k).toArray:=by
 have e:(λ(m:Nat)=>xs[((i:Int)+(m:Int)*1).toNat]?)=λm=>xs[i+m]?:=by grind
 rw[e];have:=pick_run xs i k;rw[List.filterMap_map]at this;have e2:((λx=>xs[x]?) ∘ λx=>i+x)=λm=>xs[i+m]?:=rfl;rw[e2]at this;rw[this]
def getItem_tuple_cut{i j:Xw}{lo b:Option Int}{Q:Xw->Xt->Prop}(c:IsTup s.heap t items)(hs:s.heap.IsSliceOf sl i j .none)(pl:IsPart i lo)(k:IsPart j b)
 (n:¬(sIx items.size 0 lo=0/\sIx items.size items.size b=items.size))
 (h:Q (.ref s.heap.objs.size) { s with heap:=s.heap.push { cls:=.type "tuple",data:=.seq ((items.toList.drop (sIx items.size 0 lo)).take (sIx items.size items.size b-sIx items.size 0 lo)).toArray } })
 (hsz:items.size<=sizeLine):wpAny (model prog w) A (getItem (.ref t) (.ref sl)) Q E s:=by
 have a:sizeOk (.seq ((items.toList.drop (sIx items.size 0 lo)).take (sIx items.size items.size b-sIx items.size 0 lo)).toArray):=by
  show((items.toList.drop (sIx items.size 0 lo)).take (sIx items.size items.size b-sIx items.size 0 lo)).toArray.size<=sizeLine
  grind
 have o:sIx items.size items.size b<=items.size:=J5 _ _ (Tt _) b;obtain⟨os,d,e,l⟩:=id hs;have f:s.TypeIs (.ref sl) "slice":=⟨os,d,e⟩;unfold getItem
 try with_reducible refine UJ ?_
 first|refine KE (Tu ?_)|skip
 refine KE (wpAny_sequenceKey c.typeIs (by decide) ?_);refine KE (U6 (name:=Str.ofString "__getitem__") c.typeIs UN
  (Us UN c.typeIs entry_tuple_getitem ?_ (args_tuple_getitem _ _)))
 show wpAny _ _ (Builtin.Tuple.tupleItemsOf (.ref t) >>= _) _ _ s;refine KE (tupleItemsOf_ c ?_);refine KE (WK f ?_);rw[Tv (by decide)];refine KE (sliceApplied_gen hs pl k ?_);have g:¬((((sIx items.size 0 lo:Nat):Int)==0&&(1:Int)==1&&(sIx items.size items.size b-sIx items.size 0 lo)==items.size)=true):=by grind
 show wpAny _ _ (if(((sIx items.size 0 lo:Nat):Int)==0&&(1:Int)==1&&(sIx items.size items.size b-sIx items.size 0 lo)==items.size)=true then _ else _) _ _ s;rw[TJ g,Cp]
 first
  |exact KE (m:=Builtin.Tuple.tupleExact _) (Ux (Tu ⟨_,rfl,Tu h⟩) a)
  |exact KE (m:=Builtin.Tuple.tupleExact _) (Ux (KE (Tu (Tu ⟨_,rfl,Tu h⟩))) a)
  |exact KE (KE (m:=Builtin.Tuple.tupleExact _) (Ux (Tu (Tu ⟨_,rfl,Tu h⟩)) a))
  |exact KE (KE (m:=Builtin.Tuple.tupleExact _) (Ux (Tu ⟨_,rfl,Tu h⟩) a))
end
end HT
namespace L2
open PySem PySem.Spec PyProof.Rows
abbrev TO:=St->Hp->(Option Int->Hp->Prop)->Prop
def PO(X:Cx)(e:Option Expr)(t:TO):Prop:=
 ∀(aa:List (Addr×Obj))(s:Xt)(σ:St)(H:Hp)(Q:Option Int->Hp->Prop),Inv X aa σ H s->t σ H Q->
  wpAny (model X.prog X.w) X.A (evalPart e X.env) (λu a=>∃o H',Inv X aa σ H' a/\IsPart u o/\Q o H') X.xe s
noncomputable def FQ:TO:=λ_ H Q=>Q none H
noncomputable def NJ(t:TE):TO:=λσ H Q=>t σ H λx a=>∃i,x=.int i/\Q (some i) a
def pM:∀{us:List Xw},Vals (ns.map V.int) us->IntsAre us ns:=by
 induction ns with
 |nil=>intro us r;rw[VE]at r;cases r;exact .nil
 |cons n ns a=>
  intro us r;rw[Tw]at r;cases r with
  |cons b c=>obtain⟨t,e⟩:=b;subst e;exact .cons n t (a c)
section
variable{X:Cx}{e:Expr}{te:TE}{lo hi:Option Expr}{tl th:TO}{pos p2:Pos}
def FR:PO X none FQ:=by intro aa s σ H Q I h;rw[evalPart_none];exact Tu ⟨none,H,I,.none,h⟩
def FS(h:PE X e te):PO X (some e) (NJ te):=by intro aa s σ H Q I a;rw[evalPart_some];refine bR (h aa s σ H _ I a) λu s1 ⟨x,b,c,d,q1⟩=>?_;obtain⟨i,rfl,q⟩:=q1;obtain⟨t,rfl⟩:=d;exact⟨some i,b,c,.int i t,q⟩
def SlR(X:Cx)(r:V->Option Int->Option Int->Hp->VK->Prop):Prop:=
 ∀(aa:List (Addr×Obj))(s:Xt)(σ:St)(H:Hp)(x:V)(v a b:Xw)(lo hi:Option Int)(sl:Addr)(Q:VK),Inv X aa σ H s->RelV x v->s.heap.IsSliceOf sl a b .none->IsPart a lo->IsPart b hi->r x lo hi H Q->
  ∃T id,typeLookup (.type T) "__getitem__"=pure (some (.builtin id))/\s.TypeIs v T/\wpAny (model X.prog X.w) X.A (getItem v (.ref sl)) (EP X aa σ Q) X.xe s
def SlR.or(h:SlR X r)(h':SlR X r'):SlR X (λx lo hi H Q=>r x lo hi H Q\/r' x lo hi H Q):=by
 intro aa s σ H x v a b lo hi sl Q I c hs pl d q;rcases q with q|q
 .exact h aa s σ H x v a b lo hi sl Q I c hs pl d q
 .exact h' aa s σ H x v a b lo hi sl Q I c hs pl d q
noncomputable def SZ(r:V->Option Int->Option Int->Hp->VK->Prop)(te:TE)(tl th:TO):TE:=λσ H Q=>te σ H λx a=>tl σ a λl b=>th σ b λu c=>r x l u c Q
def Cq(f:SlR X r)(g:PE X e te)(i:PO X lo tl)(j:PO X hi th):PE X (.Subscript e (.Slice lo hi none p2) pos) (SZ r te tl th):=by intro aa s σ H Q I h;refine Subscript_ (bR (g aa s σ H _ I h) λv s1 ⟨x,k,m,n,q1⟩=>?_);refine wpAny_Slice (bR (i aa s1 σ k _ m q1) λc s2 ⟨l,o,p,pl,q2⟩=>bR (j aa s2 σ o _ p q2) λvu a ⟨u,d,t,y,z⟩=>?_);rw[evalPart_none];refine Tu ?_;have B:Inv X aa σ d { a with heap:=a.heap.push { cls:=.type "slice",data:=.fields #[c,vu,.none] } }:=t.kept (t':=a.toks) λb F q=>RW _ q;obtain⟨T,id,C,D,E⟩:=f aa { a with heap:=a.heap.push { cls:=.type "slice",data:=.fields #[c,vu,.none] } } σ d x v c vu l u a.heap.objs.size Q B n (Heap.IsSliceOf.new ..) pl y z;show wpAny (model X.prog X.w) X.A (subscriptTail e (.Slice lo hi none p2) v (.ref a.heap.objs.size)) (EP X aa σ Q) X.xe { a with heap:=a.heap.push { cls:=.type "slice",data:=.fields #[c,vu,.none] } };exact tail_any (ops:=[.ref a.heap.objs.size,v]) D C E (by with_unfolding_all rfl)
def vG(xs:List V)(lo hi:Option Int):List V:=(xs.drop (HT.sIx xs.length 0 lo)).take (HT.sIx xs.length xs.length hi-HT.sIx xs.length 0 lo)
def oz(xs:List V)(lo hi:Option Int):(vG xs lo hi).length<=xs.length:=by unfold vG;rw[Vp,Xj];lia
def Re(K:Xu):V->Option Int->Option Int->Hp->VK->Prop:=λx lo hi H Q=>∃a xs,x=.ref a/\SqT K H a xs/\
 ¬(HT.sIx xs.length 0 lo=0/\HT.sIx xs.length xs.length hi=xs.length)/\∀p,H p=none->Q (.ref p) (aP H p (.tup (vG xs lo hi)))
def sl_tup:SlR X (Re X.K):=by
 intro aa s σ H x v k l lo hi sl Q I f hs pl g h;obtain⟨a,xs,rfl,i,j,q⟩:=h;cases f;obtain⟨its,r,d,hz⟩:=I.tuple i;have c:its.toArray.size=xs.length:=by rw[TR];exact r.length.symm
 refine⟨"tuple",_,UN.lookup,d.typeIs,?_⟩;refine HT.getItem_tuple_cut d hs pl g (by rw[c];exact j) ?_ (by rw[c];exact hz);rw[c];refine⟨.ref s.heap.objs.size,_,I.laid (t':=s.toks) (o:=.tup (vG xs lo hi)) (λb m q=>RW _ q) (Tt _) ?_,rfl,q _ (I.aS.fresh (Tt _))⟩;exact⟨Ua (oz xs lo hi) hz,_,(r.drop (HT.sIx xs.length 0 lo)).take (HT.sIx xs.length xs.length hi-HT.sIx xs.length 0 lo),IsTup.new _ _⟩
def NK(K:Xu):R2:=λx y H Q=>∃a b xs c,x=.ref a/\y=.ref b/\SqT K H a xs/\SqT K H b c/\xs≠[]/\xs.length+c.length<=sizeLine/\
 (c=[]->Q (.ref a) H)/\(c≠[]->∀p,H p=none->Q (.ref p) (aP H p (.tup (xs++c))))
def Vals.vc(r:Vals xs us):us=[]↔xs=[]:=by
 cases r with
 |nil=>simp
 |cons _ _=>simp
def op_catT:OpR X (binaryOp .Add) (NK X.K):=by intro aa s σ H x y v u Q I g i h;obtain⟨a,b,xs,j,rfl,rfl,ha,k,l,hz,q1,q2⟩:=h;cases g;cases i;obtain⟨its,d,p1,_⟩:=I.tuple ha;obtain⟨f,c,p2,_⟩:=I.tuple k;refine HT.cat_tup p1 p2 (λz=>l (d.vc.mp z)) (λz=>⟨.ref a,H,I,rfl,q1 (c.vc.mp z)⟩) (λz=>?_) (by rw[<- d.length,<- c.length];exact hz);refine⟨.ref s.heap.objs.size,_,I.laid (t':=s.toks) (o:=.tup (xs++j)) (λb m q=>RW _ q) (Tt _) ?_,rfl,q2 (λw=>z (c.vc.mpr w)) _ (I.aS.fresh (Tt _))⟩;exact⟨by rw[T_];exact hz,_,d.append c,IsTup.new _ _⟩
end
noncomputable def B6(n:Nat)(i:Int):Option Nat:=if 0<=i then(if i<n then some i.toNat else none)else if -(n:Int)<=i then some (i+n).toNat else none
def fP{α:Type}(xs:List α)(i:Int):Option α:=(B6 xs.length i).bind λj=>xs[j]?
def FT(h:B6 n i=some j):seqIndex? i n=some j/\j<n/\-(n:Int)<=i/\i<n:=by
 unfold B6 at h;by_cases a:0<=i
 .rw[Tv a]at h;by_cases h1:i<n
  .rw[Tv h1]at h;have e:i.toNat=j:=UL h;exact⟨by rw[seqIndex_of a h1,e],by lia,by lia,h1⟩
  .rw[TJ h1]at h;cases h
 .rw[TJ a]at h;by_cases h1:-(n:Int)<=i
  .rw[Tv h1]at h;have e:(i+n).toNat=j:=UL h;exact⟨by rw[seqIndex_neg (by lia) h1,e],by lia,h1,by lia⟩
  .rw[TJ h1]at h;cases h
def tX{α:Type}{xs:List α}{i:Int}{v:α}(h:fP xs i=some v):∃j,seqIndex? i xs.length=some j/\xs[j]?=some v/\j<xs.length/\-(xs.length:Int)<=i/\i<xs.length:=by
 unfold fP at h;cases e:B6 xs.length i with
 |none=>rw[e]at h;cases h
 |some j=>rw[e]at h;obtain⟨h1,a,b,c⟩:=FT e;exact⟨j,h1,h,a,b,c⟩
def y_{α:Type}{xs:List α}{j:Nat}{v:α}(h:xs[j]?=some v):fP xs (j:Int)=some v:=by grind [B6,fP]
def tY(b:Expr):Prop:=∀o i,subscripted b false o i=operate [o,i] (getItem o i)
def IxR(X:Cx)(r:R2):Prop:=
 ∀(b a:Expr)(aa:List (Addr×Obj))(s:Xt)(σ:St)(H:Hp)(x y:V)(v u:Xw)(Q:VK),Inv X aa σ H s->RelV x v->RelV y u->r x y H Q->
  subscripted a false v u=operate [v,u] (getItem v u)->wpAny (model X.prog X.w) X.A (subscriptTail b a v u) (EP X aa σ Q) X.xe s
def J6(X:Cx)(id:String)(r:V->List V->Hp->VK->Prop):Prop:=
 ∀(aa:List (Addr×Obj))(s:Xt)(σ:St)(H:Hp)(x:V)(xs:List V)(v:Xw)(us:List Xw)(Q:VK),Inv X aa σ H s->RelV x v->Vals xs us->r x xs H Q->
  wpAny (model X.prog X.w) X.A (call (.builtin id) (v::us)) (EP X aa σ Q) X.xe s
section
variable{X:Cx}{a b:Expr}{ta tb:TE}{pos:Pos}
def IxR.or(h:IxR X r)(h':IxR X r'):IxR X (λx y H Q=>r x y H Q\/r' x y H Q):=by
 intro c d aa s σ H x y v u Q I e f q hs;rcases q with q|q
 .exact h c d aa s σ H x y v u Q I e f q hs
 .exact h' c d aa s σ H x y v u Q I e f q hs
def bA(c:IxR X r)(ha:PE X a ta)(d:PE X b tb)(hs:tY b):PE X (.Subscript a b pos) (lL r ta tb):=by intro aa s σ H Q I h;exact Subscript_ (JQ ha d I h λv u s2 x y e f g i q=>c a b aa s2 σ e x y v u Q f g i q (hs _ _))
def J7(K:Xu):R2:=λx y H Q=>∃p xs i v,x=.ref p/\y=.int i/\SqL K H p xs/\fP xs i=some v/\Q v H
def pN(K:Xu):R2:=λx y H Q=>∃p xs i v,x=.ref p/\y=.int i/\SqT K H p xs/\fP xs i=some v/\Q v H
def NL:R2:=λx y H Q=>∃z i c,x=.str z/\y=.int i/\z.length<=sizeLine/\fP z.cps.toList i=some c/\Q (.str ⟨#[c]⟩) H
def ix_list:IxR X (J7 X.K):=by
 intro d e aa s σ H x y v u Q I m n h hs;obtain⟨p,xs,i,z,rfl,rfl,o,A,q⟩:=h;cases m;obtain⟨t,rfl⟩:=n;obtain⟨its,r,pl,hz⟩:=I.list o;obtain⟨j,h1,B,G,C,D⟩:=tX A;obtain⟨w,k,f⟩:=r.get B;have E:=r.length;have J:=nv;have c:EP X aa σ Q w s:=⟨z,H,I,f,q⟩;by_cases l:0<=i
 .have g:i.toNat=j:=by rw[seqIndex_of l D]at h1;exact UL h1
  exact item_listR pl.isList l (by lia) (by rw[g];simpa using k) c hs
 .have g:(i+(its.toArray.size:Int)).toNat=j:=by rw[seqIndex_neg (by lia) C]at h1;rw[TR,<- E];exact UL h1
  exact subscriptTail_builtinR (x:=w) pl.isList.typeIs slot_list_getitem.lookup
   (wpAny_getItem_list_neg (Q:=λr F=>r=w/\EP X aa σ Q r F) pl.isList (by lia) (by rw[TR]<;>lia) (by lia) (by rw[g];simpa using k) ⟨rfl,c⟩) hs
def ix_tup:IxR X (pN X.K):=by
 intro c d aa s σ H x y v u Q I g k h hs;obtain⟨p,xs,i,z,rfl,rfl,l,m,q⟩:=h;cases g;obtain⟨t,rfl⟩:=k;obtain⟨its,r,pl,hz⟩:=I.tuple l;obtain⟨j,h1,n,C,D,E⟩:=tX m;obtain⟨w,o,e⟩:=r.get n;have A:=r.length;have F:=nv;have f:EP X aa σ Q w s:=⟨z,H,I,e,q⟩;exact subscriptTail_builtinR (x:=w) pl.typeIs slot_tuple_getitem.lookup
  (getItem_tuple (j:=j) (Q:=λr B=>r=w/\EP X aa σ Q r B) pl (by lia) (by lia) (by rw[TR,<- A];exact h1) (by simpa using o) ⟨rfl,f⟩) hs
def J8:IxR X NL:=by
 intro d e aa s σ H x y v u Q I f g h hs;obtain⟨z,i,c,rfl,rfl,hz,k,q⟩:=h;obtain⟨t,rfl⟩:=f;obtain⟨t',rfl⟩:=g;obtain⟨j,h1,l,p,m,n⟩:=tX k;have o:z.cps.toList.length=z.length:=by simp[Str.length]
 rw[o]at h1 m n;have r:=nv;exact tail_any (typeIs_str s z t) slot_str_getitem.lookup (getItem_str (c:=c) (by have e1:decide (i < -(2^63:Int))=false:=Uc (by lia);have e2:decide (i>=2^63)=false:=Uc (by lia);rw[e1,e2,Bool.or_false]) (by rw[h1];simpa using l) ⟨.str ⟨#[c]⟩,H,I.tok _,⟨_,rfl⟩,q⟩) hs
def S1(K:Xu):R2:=λx y H Q=>J7 K x y H Q\/pN K x y H Q\/NL x y H Q
def J9:IxR X (S1 X.K):=ix_list.or (ix_tup.or J8)
def tZ(lo c:Option Int)(n:Nat):(sliceBounds lo c none n).1=((HT.sIx n 0 lo:Nat):Int)/\(sliceBounds lo c none n).2.1=((HT.sIx n n c:Nat):Int)/\(sliceBounds lo c none n).2.2=1:=by
 refine⟨?_,?_,rfl⟩
 .cases lo with
  |none=>simp[sliceBounds,HT.sIx]
  |some i=>
   simp only[sliceBounds,HT.sIx,Xk,show(1:Int)>0 by decide,Vd]
   grind
 .cases c with
  |none=>simp[sliceBounds,HT.sIx]
  |some i=>
   simp only[sliceBounds,HT.sIx,Xk,show(1:Int)>0 by decide,Vd]
   grind
def rJ(its:List Xw)(lo c:Option Int):slicePick its.toArray lo c none=((its.drop (HT.sIx its.length 0 lo)).take (HT.sIx its.length its.length c-HT.sIx its.length 0 lo)).toArray:=by obtain⟨h1,d,e⟩:=tZ lo c its.toArray.size;unfold slicePick;rw[h1,d,e];simp only[sliceRange_one,pick_run,TR]<;>rfl
def Rf(K:Xu):V->Option Int->Option Int->Hp->VK->Prop:=λx lo c H Q=>∃a xs,x=.ref a/\SqL K H a xs/\∀p,H p=none->Q (.ref p) (aP H p (.lst (vG xs lo c)))
def sl_list:SlR X (Rf X.K):=by intro aa s σ H x v j k lo c sl Q I e hs pl f h;obtain⟨a,xs,rfl,g,q⟩:=h;cases e;obtain⟨its,r,d,hz⟩:=I.list g;have i:=r.length;refine⟨"list",_,slot_list_getitem.lookup,d.isList.typeIs,?_⟩;refine wpAny_getItem_list_slice d.isList hs pl f .none (by simp) ?_ (by rw[TR]<;>lia);rw[rJ,<- i];refine⟨.ref s.heap.objs.size,_,I.laid (t':=s.toks) (o:=.lst (vG xs lo c)) (λb l q=>RW _ q) (Tt _) ?_,rfl,q _ (I.aS.fresh (Tt _))⟩;exact⟨Ua (oz xs lo c) hz,_,0,(r.drop (HT.sIx xs.length 0 lo)).take (HT.sIx xs.length xs.length c-HT.sIx xs.length 0 lo),Tz _ rfl⟩
def call_len_seq:CallR X (.builtin "len") (λxs H Q=>∃p c,xs=[.ref p]/\(SqL X.K H p c\/SqT X.K H p c)/\Q (.int c.length) H):=by
 intro aa s σ H xs us Q I r h;obtain⟨p,c,rfl,hq,q⟩:=h;obtain⟨u,rfl,f⟩:=eF r;cases f;have g:=nv;rcases hq with hq|hq
 .obtain⟨its,d,pl,hz⟩:=I.list hq;have e:=d.length;exact Calls.call_len_list pl.isList (by simp only[TR]<;>lia) ⟨.int c.length,H,I.tok _,⟨s.toks+1,by rw[TR,e]⟩,q⟩
 .obtain⟨its,d,pl,hz⟩:=I.tuple hq;have e:=d.length;exact len_tuple pl (by simp only[TR]<;>lia) ⟨.int c.length,H,I.tok _,⟨s.toks+1,by rw[TR,e]⟩,q⟩
def t3:CallR X (.builtin "len") (λxs H Q=>∃z,xs=[.str z]/\z.length<=sizeLine/\Q (.int z.length) H):=by intro aa s σ H xs us Q I r h;obtain⟨z,rfl,hz,q⟩:=h;obtain⟨u,rfl,t,rfl⟩:=eF r;have c:=nv;exact len_str (by lia) ⟨.int z.length,H,I.tok _,⟨_,rfl⟩,q⟩
def CallR.or(h:CallR X f r)(h':CallR X f r'):CallR X f (λxs H Q=>r xs H Q\/r' xs H Q):=by
 intro aa s σ H xs us Q I rs q;rcases q with q|q
 .exact h aa s σ H xs us Q I rs q
 .exact h' aa s σ H xs us Q I rs q
def t4:CallR X (.type "list") (λxs H Q=>∃p c,xs=[.ref p]/\(SqL X.K H p c\/SqT X.K H p c)/\∀l,H l=none->Q (.ref l) (aP H l (.lst c))):=by
 intro aa s σ H xs us Q I r h;obtain⟨p,c,rfl,hq,q⟩:=h;obtain⟨u,rfl,m⟩:=eF r;cases m;have g:∀(its:List Xw),Vals c its->c.length<=sizeLine->∀(h':Heap)(d:Nat),(∀b k,s.heap.get? b=some k->h'.get? b=some k)->
  h'.get? s.heap.objs.size=some { cls:=.type "list",dict:=none,data:=.seq its.toArray d,slots:=#[] }->EP X aa σ Q (.ref s.heap.objs.size) {s with heap:=h'}:=λits f hz h' d kp e=>
  ⟨.ref s.heap.objs.size,_,I.laid (t':=s.toks) kp (Tt _) (show ObjOk X.prog X.w _ h' _ (.lst c)from⟨hz,its,d,f,e⟩),rfl,q _ (I.aS.fresh (Tt _))⟩
 rcases hq with hq|hq
 .obtain⟨its,f,pl,hz⟩:=I.list hq;have t:=f.length;obtain⟨o,i,j,n,hd⟩:=pl.isList;exact call_list_seq p (.inl rfl) i j hd (λh' d kp e=>g its f hz h' d kp e) (by simp only[TR]<;>lia)
 .obtain⟨its,f,pl,hz⟩:=I.tuple hq;have t:=f.length;obtain⟨o,i,j,n,hd⟩:=pl;exact call_list_seq p (.inr rfl) i j hd (λh' d kp e=>g its f hz h' d kp e) (by simp only[TR]<;>lia)
def rK:CallR X (.type "tuple") (λxs H Q=>∃p c,xs=[.ref p]/\((SqL X.K H p c/\∀l,H l=none->Q (.ref l) (aP H l (.tup c)))\/(SqT X.K H p c/\Q (.ref p) H))):=by
 intro aa s σ H xs us Q I r h;obtain⟨p,c,rfl,h⟩:=h;obtain⟨u,rfl,i⟩:=eF r;cases i;rcases h with⟨d,q⟩|⟨d,q⟩
 .obtain⟨its,f,pl,hz⟩:=I.list d;have k:=f.length;refine call_tuple_list pl.isList (λh' kp=>?_) (by simp only[TR]<;>lia);have g:Inv X aa σ H {s with heap:=h'}:=I.kept (t':=s.toks) kp;have j:Inv X aa σ (aP H h'.objs.size (.tup c)) { s with heap:=h'.push { cls:=.type "tuple",data:=.seq its.toArray } }:=g.laid (t':=s.toks) (λb o e=>RW _ e) (Tt _) (show ObjOk X.prog X.w _ _ _ (.tup c)from⟨hz,its,f,IsTup.new _ _⟩);exact⟨.ref h'.objs.size,_,j,rfl,q _ (g.aS.fresh (Tt _))⟩
 .obtain⟨its,f,pl,hz⟩:=I.tuple d;exact call_tuple_same pl ⟨.ref p,H,I,rfl,q⟩
def Rg(K:Xu)(T:String)(x:V)(H:Hp):Prop:=match x with
 |.str _=>T="str"
 |.int _=>T="int"
 |.ref p=>(T="list"/\∃xs,SqL K H p xs)\/(T="tuple"/\∃o,K.lookup p=some o/\o.cls=.type "tuple"/\o.dict=none)\/
  (T="dict"/\((∃kvs,H p=some (.dK kvs))\/∃kvs,H p=some (.dT kvs)))\/(T="set"/\∃S n,H p=some (.set S n))
 |_=>False
def Cr(I:Inv X aa σ H s)(r:RelV x v)(ty:Rg X.K T x H) :
 s.TypeIs v T/\∀a,v=.ref a->∃f,s.heap.get? a=some f/\f.dict=none:=by
 cases x with
 |str z=>obtain⟨t,rfl⟩:=r;cases(show T="str" from ty);exact⟨typeIs_str s z t,λ_ e=>nomatch e⟩
 |int i=>obtain⟨t,rfl⟩:=r;cases(show T="int" from ty);exact⟨typeIs_int s i t,λ_ e=>nomatch e⟩
 |ref p=>
  cases r;rcases ty with⟨rfl,xs,g⟩|⟨rfl,o,d,h,hd⟩|⟨rfl,d⟩|⟨rfl,S,n,d⟩
  .obtain⟨its,_,pl,_⟩:=I.list g;refine⟨pl.isList.typeIs,λa e=>?_⟩;cases e;obtain⟨o,n,e,c,hd,_⟩:=pl;exact⟨o,e,hd⟩
  .refine⟨⟨o,I.ol p o d,h⟩,λa e=>?_⟩;cases e;exact⟨o,I.ol _ o d,hd⟩
  .have z:∃o,s.heap.get? p=some o/\o.ExactDict:=by
    rcases d with⟨kvs,d⟩|⟨kvs,d⟩
    .obtain⟨_,_,_,_,o,_,_,e,ex,_⟩:=I.aS p _ d;exact⟨o,e,ex⟩
    .obtain⟨_,_,_,_,o,_,_,e,ex,_⟩:=I.aS p _ d;exact⟨o,e,ex⟩
   obtain⟨o,e,ex⟩:=z;refine⟨⟨o,e,ex.1⟩,λa e2=>?_⟩;cases e2;exact⟨o,e,ex.2.1⟩
  .obtain⟨o,_,_,_,e,ex,_⟩:=I.aS p _ d;refine⟨⟨o,e,ex.1⟩,λa e2=>?_⟩;cases e2;exact⟨o,e,ex.2.1⟩
 |_=>exact False.elim ty
noncomputable def J_(K:Xu)(T:String)(r:V->List V->Hp->VK->Prop)(to:TE):TE:=λσ H Q=>to σ H λx c=>Rg K T x c/\r x [] c Q
noncomputable def NM(K:Xu)(T:String)(r:V->List V->Hp->VK->Prop)(to:TE)(t:TA):TE:=λσ H Q=>to σ H λx c=>Rg K T x c/\t σ c λxs d=>r x xs d Q
variable{o e:Expr}{es:List Expr}{to:TE}{t:TA}{name:Str}{apos cpos:Pos}{T id:String}{r:V->List V->Hp->VK->Prop}
def Cs(j:PlainAttrs T)(slot:Slot T name id)(f:typeOf (.builtin id)=pure (.type "method_descriptor")) (k:J6 X id r) (l:PE X o to)
 (c:autoParam (attributeBase o name X.env (eval o X.env)=eval o X.env) ae) (d:autoParam ((apos.endLine==cpos.line)=true) ae):PE X (.Call (.Attribute o name apos) [] [] cpos) (J_ X.K T r to):=by
 intro aa s σ H Q I h;refine Ws c d (bR (l aa s σ H _ I h) λv s1 ⟨x,m,g,i,ty,q1⟩=>?_);obtain⟨h1,n⟩:=Cr g i ty;exact⟨T,id,j,slot,f,h1,n,UE rfl (WX (k aa s1 σ m x [] v [] Q g i .nil q1))⟩
def iN(m:PlainAttrs T)(slot:Slot T name id)(i:typeOf (.builtin id)=pure (.type "method_descriptor")) (n:J6 X id r) (p:PE X o to) (ha:PA X (e::es) t)
 (d:autoParam (attributeBase o name X.env (eval o X.env)=eval o X.env) ae)
 (g:autoParam (((backTo cpos (starEach (e::es) X.env)).all (λx=>!x.1)&&(backToKw cpos (keywordEach [] X.env)).all (λx=>x.1.isSome)
   && decide ((e::es).length+([]:List Keyword).length+(if([]:List Keyword).isEmpty then 0 else 1)<30))=true) ae)
 (f:autoParam ((apos.endLine==cpos.line)=true) ae) (hs:autoParam (starEach (e::es) X.env=(false,eval e X.env)::starEach es X.env) ae) (c:autoParam ((backTo cpos (starEach es X.env)).any (·.1)=false) ae) :
 PE X (.Call (.Attribute o name apos) (e::es) [] cpos) (NM X.K T r to t):=by
 intro aa s σ H Q I h;refine wpAny_Call_method_late d g f rfl (bR (p aa s σ H _ I h) λv s1 ⟨x,q,j,k,ty,q1⟩=>?_);obtain⟨h1,u⟩:=Cr j k ty;refine⟨T,id,m,slot,i,h1,u,?_⟩;have l:=ha cpos aa s1 σ q _ j q1;rw[hs]at l ⊢;refine UE (by show(false ||(backTo cpos (starEach es X.env)).any (·.1))=false;rw[c]<;>rfl) (Vr ?_);exact bR l λus s2 ⟨vs,w,y,z,q2⟩=>n aa s2 σ w x vs v us Q y k z q2
end
def S3(X:Cx)(id:String)(r:V->List V->Hp->VK->Prop):Prop:=
 ∀(aa:List (Addr×Obj))(s:Xt)(σ:St)(H:Hp)(x:V)(xs:List V)(v:Xw)(us:List Xw)(Q:VK),Inv X aa σ H s->RelV x v->Vals xs us->r x xs H Q->
  wpAny (model X.prog X.w) X.A (call (.builtin id) (v::us)) (EP X aa σ Q) X.xe s
def Vals.one{x:V}{us:List Xw}(h:Vals [x] us):∃u,us=[u]/\RelV x u:=eF h
section
variable{X:Cx}{aa:List (Addr×Obj)}{σ:St}{H:Hp}{s:Xt}{l:Addr}{xs ys:List V}
def Inv.Su{its its':List Xw}{f:Array Xw->Array Xw}(I:Inv X aa σ H s)(a:H l=some (.lst xs))
 (e:s.heap.get? l=some { cls:=.type "list",data:=.seq its.toArray n }) (b:f its.toArray=its'.toArray) (c:Vals ys its') (hz:ys.length<=sizeLine) :
 Inv X aa σ (aP H l (.lst ys)) {s with heap:=s.heap.update l (Obj.mapSeq f),toks:=t'}:=by
 have q:=PySem.IsL.update e f;rw[b]at q;refine I.write (x:=l) (e:=l) (by rw[a];exact trivial) (.inl rfl) (λh u d g=>(Ud s.heap (Obj.mapSeq f) (UM d)).trans g) ⟨_,q⟩ ?_;exact⟨hz,its',_,c,q⟩
def Inv.SB(I:Inv X aa σ H s)(a:Vals ys its)(hz:ys.length<=sizeLine) :
 Inv X aa σ (aP H s.heap.objs.size (.lst ys)) { s with heap:=s.heap.push { cls:=.type "list",data:=.seq its.toArray },toks:=t' }:=
 I.laid (λ_ _ q=>RW _ q) (Tt _) ⟨hz,its,0,a,Tz _ rfl⟩
theorem Inv.fresh(I:Inv X aa σ H s):H s.heap.objs.size=none:=I.aS.fresh (Tt _)
def Inv.Sy(I:Inv X aa σ H s)(a:H l=some (.lst xs)):xs.length<=sizeLine/\∃(its:List Xw)(n:Nat),Vals xs its/\xs.length=its.length/\s.heap.get? l=some { cls:=.type "list",data:=.seq its.toArray n }:=by obtain⟨z,its,n,r,e⟩:=I.aS l _ a;exact⟨z,its,n,r,r.length,e⟩
end
section
variable{X:Cx}
def t5:V->List V->Hp->VK->Prop:=λx vs H Q=>∃l xs y,x=.ref l/\vs=[y]/\H l=some (.lst xs)/\xs.length<sizeLine/\Q .bn (aP H l (.lst (xs++[y])))
def du:S3 X "list.append" t5:=by intro aa s σ H x vs v us Q I b c h;obtain⟨l,xs,y,rfl,rfl,a,hz,q⟩:=h;cases b;obtain⟨u,rfl,d⟩:=c.one;obtain⟨z,its,n,r,f,e⟩:=I.Sy a;refine call_meets F.slot_list_append ⟨_,e,rfl⟩ F.entry_list_append (F.args_list_append_2 _ _) (PySem.list_append l its.toArray n u (by rw[TR];lia)) ⟨e,?_⟩;refine⟨.bn,_,I.Su (its':=its++[u]) a e (by simp) (r.append (.cons d .nil)) ?_,rfl,q⟩;rw[T_,WL];lia
end
section
variable{κ:Type}[DecidableEq κ]
noncomputable def cS(kvs:List (κ×V))(k:κ):Option V:=(kvs.find? λkv=>decide (kv.1=k)).map (·.2)
noncomputable def ce(kvs:List (κ×V))(k:κ)(v:V):List (κ×V):=if(kvs.any λkv=>decide (kv.1=k))=true then kvs.map (λkv=>if kv.1=k then(kv.1,v)else kv)else kvs++[(k,v)]
noncomputable def lA(kvs:List (κ×V))(k:κ):List (κ×V):=kvs.filter λkv=>decide (kv.1≠k)
def gz{p:κ×V}(e:p.1=k):cS (p::r) k=some p.2:=by simp[cS,VA,e]
def gA{p:κ×V}(e:¬p.1=k):cS (p::r) k=cS r k:=by simp[cS,VA,e]
theorem jU(k:κ):∀kvs:List (κ×V),(kvs.any λkv=>decide (kv.1=k))=(cS kvs k).isSome
 |[]=>rfl
 |p::r=>by
  rw[VF];by_cases e:p.1=k
  .simp only[gz e,T4 e,Bool.true_or,Option.isSome_some]
  .rw[gA e,Uc e,Xc];exact jU k r
theorem fD(kvs:List (κ×V))(k:κ)(v:V):(ce kvs k v).length<=kvs.length+1:=by grind [ce]
def pO{kvs:List (κ×V)}(v:V)(h:cS kvs k=none):ce kvs k v=kvs++[(k,v)]:=by unfold ce;rw[jU,h];exact TJ (by decide)
def RelO.gw(r:RelO o u):o.isSome=u.isSome:=by
 cases o with
 |none=>cases u with
  |none=>rfl
  |some _=>exact(show False from r).elim
 |some _=>cases u with
  |none=>exact(show False from r).elim
  |some _=>rfl
theorem RelO.getD(r:RelO o u)(rd:RelV d d'):RelV (o.getD d) (u.getD d'):=by
 cases o with
 |none=>cases u with
  |none=>exact rd
  |some _=>exact(show False from r).elim
 |some _=>cases u with
  |none=>exact(show False from r).elim
  |some _=>exact r
def KV.val{kvs:List (κ×V)}(r:KV kvs vs)(k:κ):RelO (cS kvs k) (valueAt vs k):=by
 unfold KV at r;induction r with
 |nil=>exact True.intro
 |@cons p q ps a h t d=>
  obtain⟨h1,f⟩:=h;by_cases e:p.1=k
  .have c:q.1=k:=h1.symm.trans e;have b:valueAt (q::a) k=some q.2:=by simp[valueAt,VA,c]
   rw[gz e,b];exact f
  .have c:¬q.1=k:=λz=>e (h1.trans z);have b:valueAt (q::a) k=valueAt a k:=by simp[valueAt,VA,c]
   rw[gA e,b];exact d
theorem KV.any(r:KV kvs vs)(k:κ):(kvs.any λkv=>decide (kv.1=k))=vs.any λkv=>decide (kv.1=k):=by
 unfold KV at r;induction r with
 |nil=>rfl
 |cons h t a=>rw[VF,VF,a,h.1]
def KV.Ng(r:KV kvs vs)(k:κ)(b:RelV y u) :
 KV (kvs.map λkv=>if kv.1=k then(kv.1,y)else kv) (vs.map λkv=>if kv.1=k then(kv.1,u)else kv):=by
 unfold KV at r ⊢;induction r with
 |nil=>exact .nil
 |@cons p q ps c h t a=>
  rw[Tw,Tw];refine .cons ?_ a
  grind
def KV.put(r:KV kvs vs)(k:κ)(a:RelV y u):KV (ce kvs k y) (stored vs k u):=by
 unfold ce stored;rw[r.any k];by_cases e:(vs.any λkv=>decide (kv.1=k))=true
 .rw[Tv e,Tv e];exact r.Ng k a
 .rw[TJ e,TJ e];exact Paired.snoc r ⟨rfl,a⟩
theorem KV.drop(r:KV kvs vs)(k:κ):KV (lA kvs k) (without vs k):=by
 unfold KV at r ⊢;unfold lA without;induction r with
 |nil=>exact .nil
 |@cons p q ps g h t c=>
  obtain⟨h1,d⟩:=h;rw[VY,VY];by_cases e:p.1=k
  .grind
  .have f:¬q.1=k:=λz=>e (h1.trans z);have a:decide (p.1≠k)=true:=by simp[e]
   have b:decide (q.1≠k)=true:=by simp[f]
   rw[Tv a,Tv b];exact .cons ⟨h1,d⟩ c
theorem KV.length(r:KV kvs vs):kvs.length=vs.length:=Wo r
def Ct(kvs:List (κ×V))(k:κ):(lA kvs k).length<=kvs.length:=List.length_filter_le _ _
end
def jH(r:RelV (kV k) u):(aF P w).is k u=true:=by
 cases k with
 |inl i=>obtain⟨t,e⟩:=(show ∃t,u=Value.int i t from r);subst e;exact vj P w i t
 |inr x=>obtain⟨t,e⟩:=(show ∃t,u=Value.str x t from r);subst e;exact vk P w x t
theorem sG:∀{ks:List bm}{us:List Xw},Vals (ks.map kV) us->ItemsAre (aF P w) ks us
 |[],_,r=>by rw[VE]at r;cases r;exact .nil
 |k::ks,_,r=>by
  rw[Tw]at r;cases r with
  |cons h t=>exact .cons (jH h) (sG t)
abbrev KT(H:Hp):List (List bm×V)->List (List bm×Addr×Xw)->Prop:=Paired λp q=>p.1=q.1/\H q.2.1=some (.tup (p.1.map kV))/\RelV p.2 q.2.2
def KT.val{H:Hp}(r:KT H kvs xs)(k:List bm):RelO (cS kvs k) ((atKey xs k).map (·.2)):=by
 induction r with
 |nil=>exact True.intro
 |@cons p q ps a h t d=>
  obtain⟨h1,_,f⟩:=h;by_cases e:p.1=k
  .have c:q.1=k:=h1.symm.trans e;have b:atKey (q::a) k=some q.2:=by simp[atKey,VA,c]
   rw[gz e,b];exact f
  .have c:¬q.1=k:=λz=>e (h1.trans z);have b:atKey (q::a) k=atKey a k:=by simp[atKey,VA,c]
   rw[gA e,b];exact d
def KT.Ng(r:KT H kvs xs)(k:List bm)(b:RelV y u) :
 KT H (kvs.map λkv=>if kv.1=k then(kv.1,y)else kv) (xs.map (putAt k u)):=by
 induction r with
 |nil=>exact .nil
 |@cons p q ps c h t a=>
  rw[Tw,Tw];refine .cons ?_ a;obtain⟨h1,d,e⟩:=h;unfold putAt
  grind
def KT.put(r:KT H kvs xs)(k:List bm)(c:H b=some (.tup (k.map kV)))(a:RelV y u) :
 KT H (ce kvs k y) (storedH xs k b u):=by
 have e:(kvs.any λkv=>decide (kv.1=k))=(atKey xs k).isSome:=by rw[jU,(r.val k).gw,W_]
 unfold ce storedH;rw[e];by_cases q:(atKey xs k).isSome=true
 .rw[Tv q,Tv q];exact r.Ng k a
 .rw[TJ q,TJ q];exact Paired.snoc r ⟨rfl,c,a⟩
def KT.keeps(r:KT H kvs xs)(c:∀b a,H b=some (.tup a)->H' b=some (.tup a)):KT H' kvs xs:=Paired.MU r λ_ _ z=>⟨z.1,c _ _ z.2.1,z.2.2⟩
section
variable{P:Xv}{w:World}{H:Hp}{h:Heap}{a:Addr}
def Ig(ok:HOk P w H h)(e:Rd H a u):ObjOk P w H h a u:=e.ok ok
def l_(ok:HOk P w H h)(e:Rd H a (.dK kvs)):kvs.length<=sizeLine/\(a==sysModules)=false/\∃vs,KV kvs vs/\h.DictOf (aF P w) a vs:=show ObjOk P w H h a (.dK kvs)from Ig ok e
def vH(ok:HOk P w H h)(e:H a=some (.dK kvs)):kvs.length<=sizeLine/\(a==sysModules)=false/\∃vs,KV kvs vs/\h.DictOf (aF P w) a vs:=l_ ok (.inl e)
theorem eV(ok:HOk P w H h)(e:H a=some (.tup (ks.map kV))):(tupleKind (aF P w)).is h ks a:=by obtain⟨_,its,r,o,h1,b,n,c⟩:=(show ObjOk P w H h a (.tup (ks.map kV))from ok a _ e);exact⟨o,its.toArray,n,h1,b,c,by simpa using sG r⟩
def mi(ok:HOk P w H h)(e:Rd H a (.dT kvs)):kvs.length<=sizeLine/\(a==sysModules)=false/\
 ∃xs,KT H kvs xs/\h.DictOfH (tupleKind (aF P w)) a xs:=by
 obtain⟨z,y,xs,r,o,es,c,h1,d,f,g,i⟩:=(show ObjOk P w H h a (.dT kvs)from Ig ok e);refine⟨z,y,xs,r,o,es,c,h1,d,f,g,λx b=>?_,i⟩;have all:∀{l:List (List bm×V)}{m:List (List bm×Addr×Xw)},KT H l m->∀x∈m,(tupleKind (aF P w)).is h x.1 x.2.1:=by
  intro l m q;induction q with
  |nil=>intro x b;exact nomatch b
  |@cons p q ps j k t n=>grind [eV]
 exact all r x b
def Ih(ok:HOk P w H h)(e:H a=some (.dT kvs)):kvs.length<=sizeLine/\(a==sysModules)=false/\
 ∃xs,KT H kvs xs/\h.DictOfH (tupleKind (aF P w)) a xs:=mi ok (.inl e)
end
def DGet(H:Hp)(a:Addr)(y:V)(r:Option V):Prop:=(∃kvs k,Rd H a (.dK kvs)/\y=kV k/\r=cS kvs k)\/∃kvs k b,Rd H a (.dT kvs)/\y=.ref b/\H b=some (.tup (k.map kV))/\r=cS kvs k
def DPut(H:Hp)(a:Addr)(y v:V)(H':Hp):Prop:=
 (∃kvs k,H a=some (.dK kvs)/\y=kV k/\kvs.length<sizeLine/\H'=aP H a (.dK (ce kvs k v)))\/
 ∃kvs k b,H a=some (.dT kvs)/\y=.ref b/\H b=some (.tup (k.map kV))/\kvs.length<sizeLine/\H'=aP H a (.dT (ce kvs k v))
def DGet.t{kvs:List (List bm×V)}{k:List bm}(e:H a=some (.dT kvs))(c:H b=some (.tup (k.map kV))):DGet H a (.ref b) (cS kvs k):=.inr ⟨kvs,k,b,.inl e,rfl,c,rfl⟩
theorem DPut.k{kvs:List (bm×V)}{k:bm}{v:V}(e:H a=some (.dK kvs))(b:kvs.length<sizeLine):DPut H a (kV k) v (aP H a (.dK (ce kvs k v))):=.inl ⟨kvs,k,e,rfl,b,rfl⟩
def DPut.t{kvs:List (List bm×V)}{k:List bm}{v:V}(e:H a=some (.dT kvs))(c:H b=some (.tup (k.map kV)))(d:kvs.length<sizeLine) :
 DPut H a (.ref b) v (aP H a (.dT (ce kvs k v))):=.inr ⟨kvs,k,b,e,rfl,c,d,rfl⟩
section
variable{X:Cx}{aa:List (Addr×Obj)}{σ:St}{H:Hp}{s:Xt}{a:Addr}{y v:V}{u r:Xw}{o:Option V}{A:Xx}{E:Xw->Xt->Prop}
def Inv.big(I:Inv X aa σ H s):sysModules<s.heap.objs.size:=by have h:mainGlobals<s.heap.objs.size:=(I.mod.glob.keeps I.bk).lt;exact Nat.lt_trans (by decide) h
def AI(t:A.units+1<cLine)(I:Inv X aa σ H s)(g:DGet H a y (some v))(n:RelV y u)(h:∀f q,Inv X aa σ H q->RelV v f->Q f q) :
 wpAny (model X.prog X.w) A (getItem (.ref a) u) Q E s:=by
 rcases g with⟨kvs,k,e,i,l⟩|⟨kvs,k,b,e,i,x,l⟩
 .subst i;obtain⟨z,hd,vs,c,dd⟩:=l_ I.aS e;obtain⟨f,j,d⟩:=RelO.some_of (v:=v) (o:=valueAt vs k) (by rw[l];exact c.val k);exact wpAny_getItem_of (jH n) dd.mapOf j (h f _ (I.tok _) d)
 .subst i;cases(show u=Value.ref b from n);obtain⟨z,hd,xs,c,dd⟩:=mi I.aS e;obtain⟨f,j,d⟩:=RelO.some_of (v:=v) (o:=(atKey xs k).map (·.2)) (by rw[l];exact c.val k);obtain⟨p,B,m⟩:=UF.mp j;refine wpAny_getItem_heap (U7 t) (eV I.aS x) dd B ?_;rw[m];exact h f _ (I.tok _) d
def Rh(j:A.units+1<cLine)(I:Inv X aa σ H s)(g:DGet H a y o)(f:RelV y u)(h:∀i,Inv X aa σ H i->Q (.bool o.isSome) i) :
 wpAny (model X.prog X.w) A (compareOp .In u (.ref a)) Q E s:=by
 rcases g with⟨kvs,k,e,d,l⟩|⟨kvs,k,b,e,d,m,l⟩
 .subst d;obtain⟨z,hd,vs,c,dd⟩:=l_ I.aS e;refine wpAny_in_of (jH f) hd dd.mapOf ?_;rw[<- (c.val k).gw,<- l];exact h _ (I.tok _)
 .subst d;cases(show u=Value.ref b from f);obtain⟨z,hd,xs,c,dd⟩:=mi I.aS e;refine wpAny_in_heap (U7 j) (eV I.aS m) hd dd ?_;have q:=(c.val k).gw;rw[W_]at q;rw[<- q,<- l];exact h _ (I.tok _)
def kT(I:Inv X aa σ H s)(mu:Ni (H a))(hs:Heap.SameBut a s.heap h')(c:∃q,h'.get? a=some q)(new:ObjOk X.prog X.w (aP H a ob) h' a ob) :
 Inv X aa σ (aP H a ob) {s with heap:=h',toks:=t'}:=
 I.write (x:=a) (e:=a) mu (.inl rfl) (λb q d z=>(hs.2 b d).trans z) c new
def t7(z:kvs.length<=sizeLine)(hd:(a==sysModules)=false)(b:KV kvs vs)(dd:h'.DictOf (aF P w) a vs) :
 ObjOk P w H' h' a (.dK kvs):=⟨z,hd,vs,b,dd⟩
def kU(D:A.units+1<cLine)(I:Inv X aa σ H s)(g:DPut H a y v H')(p:RelV y u)(t:RelV v r)(h:∀x,Inv X aa σ H' x->Q () x) :
 wpAny (model X.prog X.w) A (setItem (.ref a) u r) Q E s:=by
 rcases g with⟨kvs,k,e,j,l,m⟩|⟨kvs,k,b,e,j,B,l,m⟩
 .subst j m;obtain⟨z,hd,vs,d,dd⟩:=vH I.aS e;have hz:vs.length<=sizeLine:=by rw[<- d.length];exact z
  have n:(ce kvs k v).length<=sizeLine:=by have:=fD kvs k v;lia
  refine wpAny_setItem_pairs (hsz:=hz) (jH p) dd λh' f hs=>h _ ?_;have F:∃q,h'.get? a=some q:=let ⟨q,_,_,i,_⟩:=f;⟨q,i⟩;exact kT I (by rw[e];exact True.intro) hs F (t7 n hd (d.put k t) f)
 .subst j m;cases(show u=Value.ref b from p);obtain⟨z,hd,xs,d,dd⟩:=Ih I.aS e;have hz:xs.length<=sizeLine:=by rw[<- Wo d];exact z
  have n:(ce kvs k v).length<=sizeLine:=by have:=fD kvs k v;lia
  refine wpAny_setItem_heap (hsz:=hz) (U7 D) (eV I.aS B) dd λh' f hs=>h _ ?_;obtain⟨q,es,G,i,J,K,L,_,M⟩:=f;refine kT I (by rw[e];exact True.intro) hs ⟨q,i⟩ ⟨n,hd,_,(d.put k B t).keeps λc N C=>?_,q,es,G,i,J,K,L,M⟩;rw[af (yW C e (λz=>nomatch z))];exact C
end
section
variable{X:Cx}{aa:List (Addr×Obj)}{σ:St}{H:Hp}{s:Xt}{a:Addr}{kvs:List (bm×V)}{k:bm}{u:Xw}{A:Xx}{E:Xw->Xt->Prop}
def NN(I:Inv X aa σ H s)(e:H a=some (.dK kvs))(f:RelV (kV k) u)(l:cS kvs k=some v)(j:more=[]\/∃x,more=[x])
 (h:∀c m,Inv X aa σ (aP H a (.dK (lA kvs k))) m->RelV v c->Q c m):wpAny (model X.prog X.w) A (call (.builtin "dict.pop") (.ref a::u::more)) Q E s:=by
 obtain⟨z,hd,vs,b,dd⟩:=vH I.aS e;obtain⟨c,n,g⟩:=RelO.some_of (v:=v) (o:=valueAt vs k) (by rw[<- l];exact b.val k);have p:(keyPart u).isSome=true:=by
  cases k with
  |inl i=>obtain⟨t,q⟩:=(show ∃t,u=Value.int i t from f);subst q;rfl
  |inr x=>obtain⟨t,q⟩:=(show ∃t,u=Value.str x t from f);subst q;rfl
 have ha:argsOk "dict.pop" ⟨.ref a::u::more,[]⟩:=by
  rcases j with q|⟨x,q⟩
  .subst q;exact PySem.F.args_dict_pop_2 _ _
  .subst q;exact PySem.F.args_dict_pop_3 _ _ _
 refine Vk PySem.F.slot_dict_pop dd.typeIs PySem.F.entry_dict_pop ha (meets_dict_pop_there (aF X.prog X.w) a (jH f) more j p)
  ⟨vs,c,dd,by rw[<- b.length];exact z,n,λh' d hs=>h c _ ?_ g⟩
 have r:∃q,h'.get? a=some q:=let ⟨q,_,_,y,_⟩:=d;⟨q,y⟩;exact kT I (by rw[e];exact True.intro) hs r (t7 (Ua (Ct kvs k) z) hd (b.drop k) d)
end
def Ka(i:Expr):Prop:=∀a b,subscripted i false a b=operate [a,b] (getItem a b)
def FU{E:Xw->Xt->Prop}{env:Env}{b a:Expr}{l:Pos}{T id:String}{Q:Xw->Xt->Prop}
 (n:typeLookup (.type T) "__getitem__"=pure (some (.builtin id))) (hs:Ka a)
 (h:wpAny (model prog w) A (eval b env) (λo e=>wpAny (model prog w) A (eval a env) (λi c=>c.TypeIs o T/\wpAny (model prog w) A (getItem o i) Q E c) E e) E s) :
 wpAny (model prog w) A (eval (.Subscript b a l) env) Q E s:=by
 refine Subscript_ (U9 h (λo e j=>U9 j (λi c d=>?_) λ_ _ x=>x) λ_ _ x=>x);obtain⟨m,d⟩:=d;unfold subscriptTail;refine KE ?_;rw[getitemInPython_of_ne m.not_modules];refine KE (wpAny_specialOf m n ?_);have g:wpAny (model prog w) A (subscripted a false o i) (λr f=>wpAny (model prog w) A (letTemporaryGo b o r >>= λ_=>pure r) Q E f) E c:=by rw[hs o i];exact wpAny_operating (U9 d (λr f k=>KE (wpAny_letTemporaryGo (Tu k))) λ_ _ x=>x)
 first
  |exact Tu (KE g)
  |exact KE (Tu (KE g))
  |exact KE g
def vI(I:Inv X aa σ H s)(g:DGet H a y o):s.TypeIs (.ref a) "dict":=by
 rcases g with⟨kvs,k,e,_,_⟩|⟨kvs,k,b,e,_,_,_⟩
 .obtain⟨_,_,vs,_,dd⟩:=l_ I.aS e;exact dd.typeIs
 .obtain⟨_,_,xs,_,dd⟩:=mi I.aS e;exact dd.typeIs
noncomputable def Ii(td ty:TE):TE:=λσ H Q=>td σ H λx c=>ty σ c λy b=>∃a v,x=.ref a/\DGet b a y (some v)/\Q v b
noncomputable def Cu(td ty c:TE):TS:=λD σ H=>c σ H λv d=>td σ d λx e=>ty σ e λy f=>∃a b,x=.ref a/\DPut f a y v b/\D.nx σ b
section
variable{X:Cx}{o i value:Expr}{pos pos':Pos}{td ty tv:TE}
def za(d:X.A.units+1<cLine)(e:PE X o td)(f:PE X i ty)(hs:Ka i):PE X (.Subscript o i pos) (Ii td ty):=by intro aa s σ H Q I h;refine FU PySem.F.slot_dict_getitem.lookup hs (bR (e aa s σ H _ I h) λu s1 ⟨x,j,k,l,q1⟩=>bR (f aa s1 σ j _ k q1) λq s2 ⟨y,m,c,n,a,v,ex,g,q2⟩=>?_);subst ex;obtain rfl:u=Value.ref a:=l;exact⟨vI c g,AI d c g n λr t p b=>⟨v,m,p,b,q2⟩⟩
def FV(b:X.A.units+1<cLine)(c:PE X o td)(d:PE X i ty)(e:PE X value tv)(hs:swapsWith value (some (.Subscript o i pos')) pos.line X.env=pure false) :
 PS X (.Assign [.Subscript o i pos'] value pos) (Cu td ty tv):=by
 intro aa s σ H D I h;refine wpAny_Assign_Subscript (bR (e aa s σ H _ I h) λr s1 ⟨v,f,j,k,q1⟩=>bR (c aa s1 σ f _ j q1) λu s2 ⟨x,l,m,n,q2⟩=>bR (d aa s2 σ l _ m q2) λB C ⟨y,E,p,q,a,t,ex,g,w⟩=>?_) hs;subst ex;obtain rfl:u=Value.ref a:=n;exact kU b p g q k λF z=>⟨σ,t,z,w⟩
end
def vJ(h:Heap)(a:sysModules<h.objs.size):ObjOk P w H (h.push { cls:=.type "dict",data:=.dict #[] }) h.objs.size (.dK []):=⟨Ul _,VS.mpr (UM (T5 a)),[],.nil,Heap.DictOf.new h⟩
def Cv(h:Heap)(a:sysModules<h.objs.size):ObjOk P w H (h.push { cls:=.type "dict",data:=.dict #[] }) h.objs.size (.dT []):=⟨Ul _,VS.mpr (UM (T5 a)),[],.nil,_,#[],0,Tz _ rfl,⟨rfl,rfl,rfl⟩,rfl,rfl,Ub⟩
def Cw:TE:=λ_ H Q=>∀p,H p=none->Q (.ref p) (aP H p (.dK []))
def nA:TE:=λ_ H Q=>∀p,H p=none->Q (.ref p) (aP H p (.dT []))
section
variable{X:Cx}{pos:Pos}
def vK:PE X (.Dict [] [] pos) Cw:=λaa s σ H Q I h=>wpAny_Dict_empty ⟨.ref s.heap.objs.size,_,I.laid (a:=s.heap.objs.size) (o:=.dK []) (t':=s.toks) (λ_ _ q=>RW _ q) (Tt _) (vJ s.heap I.big),rfl,h _ (I.aS.fresh (Tt _))⟩
def iO:PE X (.Dict [] [] pos) nA:=λaa s σ H Q I h=>wpAny_Dict_empty ⟨.ref s.heap.objs.size,_,I.laid (a:=s.heap.objs.size) (o:=.dT []) (t':=s.toks) (λ_ _ q=>RW _ q) (Tt _) (Cv s.heap I.big),rfl,h _ (I.aS.fresh (Tt _))⟩
end
noncomputable def xS:List (TE×TE)->St->Hp->(List (V×V)->Hp->Prop)->Prop
 |[],_,H,Q=>Q [] H
 |(tk,a)::r,σ,H,Q=>tk σ H λx b=>a σ b λy c=>xS r σ c λps d=>Q ((x,y)::ps) d
abbrev VV:List (V×V)->List (Xw×Xw)->Prop:=Paired λp q=>RelV p.1 q.1/\RelV p.2 q.2
def QP(X:Cx)(b:Pos)(keys:List (Option Expr))(a:List Expr)(c:List (TE×TE)):Prop:=
 ∀(aa:List (Addr×Obj))(s:Xt)(σ:St)(H:Hp)(Q:List (V×V)->Hp->Prop),Inv X aa σ H s->xS c σ H Q->
  wpAny (model X.prog X.w) X.A (evalPairs (pairTrees keys a X.env b)) (λvs d=>∃ps H',Inv X aa σ H' d/\VV ps vs/\Q ps H') X.xe s
def FW:QP X pos [] [] []:=λaa s σ H Q I h=>pairTrees_nil_walk ⟨[],H,I,.nil,h⟩
def Cy(b:PE X k tk)(c:PE X v tv)(d:QP X pos ks vs trs) :
 QP X pos (some k::ks) (v::vs) ((tk,tv)::trs):=λaa s σ H Q I h=>
 pairTrees_cons_walk (bR (b aa s σ H _ I h) λu s1 ⟨x,e,f,g,q1⟩=>bR (c aa s1 σ e _ f q1) λp s2 ⟨y,i,j,l,q2⟩=>bR (d aa s2 σ i _ j q2) λws q ⟨ps,m,n,a,o⟩=>⟨(x,y)::ps,m,n,.cons ⟨g,l⟩ a,o⟩)
def nB(kvs more:List (bm×V)):List (bm×V):=more.foldl (λa kv=>ce a kv.1 kv.2) kvs
def KV.merge:∀{more:List (bm×V)}{rs:List (bm×Xw)}{kvs:List (bm×V)}{vs:List (bm×Xw)},KV more rs->KV kvs vs->KV (nB kvs more) (merged vs rs):=by
 intro more rs kvs vs r;unfold KV at r;induction r generalizing kvs vs with
 |nil=>intro q;exact q
 |@cons p q ps c h t a=>
  intro b;have e:KV (ce kvs p.1 p.2) (stored vs q.1 q.2):=by have:=b.put p.1 h.2;rw[<- h.1];exact this
  exact a e
theorem lB:∀(more kvs:List (bm×V)),(nB kvs more).length<=kvs.length+more.length
 |[],kvs=>by show kvs.length<=kvs.length+0;lia
 |p::r,kvs=>by
  have h1:=lB r (ce kvs p.1 p.2)
  grind [fD,nB,ce]
theorem pP:∀{kvs:List (bm×V)}{ws:List (Xw×Xw)},VV (kvs.map λkv=>(kV kv.1,kv.2)) ws->∃rs,Carries (aF P w) ws rs/\KV kvs rs
 |[],_,r=>by rw[VE]at r;cases r;exact⟨[],True.intro,.nil⟩
 |p::kvs,_,r=>by
  rw[Tw]at r;cases r with
  |@cons a b e bs h t=>obtain⟨rs,c,q⟩:=pP (P:=P) (w:=w) t;obtain⟨f,d⟩:=b;exact⟨(p.1,d)::rs,⟨jH h.1,rfl,c⟩,.cons ⟨rfl,h.2⟩ q⟩
def NO(a:List (TE×TE)):TE:=λσ H Q=>∀p,H p=none->xS a σ (aP H p (.dK [])) λps b=>b p=some (.dK [])/\∃kvs:List (bm×V),ps=kvs.map (λkv=>(kV kv.1,kv.2))/\kvs.length<=15/\Q (.ref p) (aP b p (.dK (nB [] kvs)))
def FX(h:QP X pos keys values trs)(b:keys.all (·.isSome)=true)(j:keys.length=values.length)(k:keys≠[])
 (f:keys.length<=15):PE X (.Dict keys values pos) (NO trs):=by
 intro aa s σ H Q I q;have l:=I.aS.fresh (Tt s.heap.objs.size);have m:=I.laid (a:=s.heap.objs.size) (o:=.dK []) (h':=s.heap.push { cls:=.type "dict",data:=.dict #[] }) (t':=s.toks) (λ_ _ q=>RW _ q) (Tt _) (vJ s.heap I.big);refine wpAny_Dict_walk (knd:=aF X.prog X.w) b j k f (bR (h aa _ σ _ _ m (q _ l)) λws s2 ⟨ps,v,i,g,e,kvs,n,lk,q2⟩=>?_);subst n;obtain⟨rs,c,rk⟩:=pP (P:=X.prog) (w:=X.w) g;obtain⟨z,hd,p,r,dd⟩:=vH i.aS e;cases r;refine⟨rs,c,dd,λh' d hs=>⟨.ref s.heap.objs.size,_,?_,rfl,q2⟩⟩;have hz:(nB [] kvs).length<=sizeLine:=by have h1:=lB kvs [];rw[Vj]at h1;rw[Uj];lia
 have t:∃q,h'.get? s.heap.objs.size=some q:=let ⟨q,_,_,u,_⟩:=d;⟨q,u⟩;exact kT i (by rw[e];exact True.intro) hs t (t7 hz hd (rk.merge .nil) d)
structure M1(X:Cx) (o:Expr) (m:Str) (apos:Pos) (e:Expr) (cpos:Pos):Prop where
 base:attributeBase o m X.env (eval o X.env)=eval o X.env
 m_:((backTo cpos (starEach [e] X.env)).all (λx=>!x.1)&&(backToKw cpos (keywordEach [] X.env)).all (λx=>x.1.isSome)
  && decide (([e]:List Expr).length+([]:List Keyword).length+(if([]:List Keyword).isEmpty then 0 else 1)<30))=true
 line:(apos.endLine==cpos.line)=true
 trees:backTo cpos (starEach [e] X.env)=[(false,eval e X.env)]
structure M2(X:Cx) (o:Expr) (m:Str) (apos:Pos) (e f:Expr) (cpos:Pos):Prop where
 base:attributeBase o m X.env (eval o X.env)=eval o X.env
 m_:((backTo cpos (starEach [e,f] X.env)).all (λx=>!x.1)&&(backToKw cpos (keywordEach [] X.env)).all (λx=>x.1.isSome)
  && decide (([e,f]:List Expr).length+([]:List Keyword).length+(if([]:List Keyword).isEmpty then 0 else 1)<30))=true
 line:(apos.endLine==cpos.line)=true
 trees:backTo cpos (starEach [e,f] X.env)=[(false,eval e X.env),(false,eval f X.env)]
def Ij(H:Hp)(a:Addr):Prop:=(∃kvs,Rd H a (.dK kvs))\/∃kvs,Rd H a (.dT kvs)
def nC(I:Inv X aa σ H s)(d:Ij H a) :
 s.TypeIs (.ref a) "dict"/\(∀b,Value.ref a=.ref b->∃c,s.heap.get? b=some c/\c.dict=none)/\(a==sysModules)=false:=by
 rcases d with⟨kvs,e⟩|⟨kvs,e⟩
 .obtain⟨_,hd,vs,_,dd⟩:=l_ I.aS e;refine⟨dd.typeIs,λb q=>?_,hd⟩;cases q;obtain⟨c,_,_,h1,f,_⟩:=dd;exact⟨c,h1,f.2.1⟩
 .obtain⟨_,hd,xs,_,dd⟩:=mi I.aS e;refine⟨dd.typeIs,λb q=>?_,hd⟩;cases q;obtain⟨c,_,_,h1,f,_⟩:=dd;exact⟨c,h1,f.2.1⟩
section
variable{X:Cx}{aa:List (Addr×Obj)}{σ:St}{H:Hp}{s:Xt}{a:Addr}{y d:V}{u r:Xw}{o:Option V}{A:Xx}{E:Xw->Xt->Prop}
def Cz(n:A.units+1<cLine)(I:Inv X aa σ H s)(g:DGet H a y o)(i:RelV y u)(h:∀j m,Inv X aa σ H m->RelV (o.getD .bn) j->Q j m) :
 wpAny (model X.prog X.w) A (call (.builtin "dict.get") [.ref a,u]) Q E s:=by
 rcases g with⟨kvs,k,e,f,l⟩|⟨kvs,k,b,e,f,p,l⟩
 .subst f;obtain⟨z,hd,vs,c,dd⟩:=l_ I.aS e;refine Vk Uo dd.typeIs UU (VT _ _) (meets_dict_get (aF X.prog X.w) a (jH i) hd) ⟨_,dd.mapOf,h _ _ (I.tok _) ?_⟩;rw[l];exact(c.val k).getD rfl
 .subst f;cases(show u=Value.ref b from i);obtain⟨z,hd,xs,c,dd⟩:=mi I.aS e;refine Vk Uo dd.typeIs UU (VT _ _) (meetsH_dict_get (tupleKind (aF X.prog X.w)) a b hd) ⟨U7 n,k,xs,eV I.aS p,dd,h _ _ (I.tok _) ?_⟩;rw[l];exact(c.val k).getD rfl
def CA(n:A.units+1<cLine)(I:Inv X aa σ H s)(g:DGet H a y o)(i:RelV y u)(rd:RelV d r)(h:∀j m,Inv X aa σ H m->RelV (o.getD d) j->Q j m) :
 wpAny (model X.prog X.w) A (call (.builtin "dict.get") [.ref a,u,r]) Q E s:=by
 rcases g with⟨kvs,k,e,f,l⟩|⟨kvs,k,b,e,f,p,l⟩
 .subst f;obtain⟨z,hd,vs,c,dd⟩:=l_ I.aS e;refine Vk Uo dd.typeIs UU (VU _ _ _) (meets_dict_get_default (aF X.prog X.w) a (jH i) hd r) ⟨_,dd.mapOf,h _ _ (I.tok _) ?_⟩;rw[l];exact(c.val k).getD rd
 .subst f;cases(show u=Value.ref b from i);obtain⟨z,hd,xs,c,dd⟩:=mi I.aS e;refine Vk Uo dd.typeIs UU (VU _ _ _) (meetsH_dict_get_default (tupleKind (aF X.prog X.w)) a b hd r) ⟨U7 n,k,xs,eV I.aS p,dd,h _ _ (I.tok _) ?_⟩;rw[l];exact(c.val k).getD rd
end
noncomputable def xT(td ty:TE):TE:=λσ H Q=>td σ H λx b=>∃a,x=.ref a/\Ij b a/\ty σ b λy c=>∃o,DGet c a y o/\Q (o.getD .bn) c
noncomputable def lM(td ty d:TE):TE:=λσ H Q=>td σ H λx b=>∃a,x=.ref a/\Ij b a/\ty σ b λy e=>d σ e λz c=>∃o,DGet c a y o/\Q (o.getD z) c
def pQ(td ty:TE):TE:=λσ H Q=>td σ H λx b=>∃a,x=.ref a/\Ij b a/\ty σ b λy c=>∃kvs k v,c a=some (.dK kvs)/\y=kV k/\cS kvs k=some v/\Q v (aP c a (.dK (lA kvs k)))
section
variable{X:Cx}{o e f:Expr}{apos cpos:Pos}{td ty tx:TE}
def CB(i:X.A.units+1<cLine)(j:PE X o td)(k:PE X e ty)(m:M1 X o "get" apos e cpos):PE X (.Call (.Attribute o "get" apos) [e] [] cpos) (xT td ty):=by intro aa s σ H Q I h;refine Wa m.base m.m_ m.line T9 Uo V4 (bR (j aa s σ H _ I h) λu s1 ⟨x,l,c,n,a,ex,d,q1⟩=>?_);subst ex;obtain rfl:u=Value.ref a:=n;obtain⟨p,q,_⟩:=nC c d;refine⟨p,q,?_⟩;rw[m.trees];refine UE rfl (Vr (U2 (bR (k aa s1 σ l _ c q1) λz s2 ⟨y,r,t,v,B,g,q2⟩=>Vz ?_)));exact Cz i t g v λC D w b=>⟨_,r,w,b,q2⟩
def pR(i:X.A.units+1<cLine)(j:PE X o td)(k:PE X e ty)(l:PE X f tx)(m:M2 X o "get" apos e f cpos):PE X (.Call (.Attribute o "get" apos) [e,f] [] cpos) (lM td ty tx):=by intro aa s σ H Q I h;refine Wa m.base m.m_ m.line T9 Uo V4 (bR (j aa s σ H _ I h) λu s1 ⟨x,n,c,p,a,ex,d,q1⟩=>?_);subst ex;obtain rfl:u=Value.ref a:=p;obtain⟨q,r,_⟩:=nC c d;refine⟨q,r,?_⟩;rw[m.trees];refine UE rfl (Vr (U2 (bR (k aa s1 σ n _ c q1) λG s2 ⟨y,t,v,w,q2⟩=>U2 (bR (l aa s2 σ t _ v q2) λJ K ⟨z,B,C,D,L,g,E⟩=>Vz ?_))));exact CA i C g w D λM N F b=>⟨_,B,F,b,E⟩
def vL(g:PE X o td)(i:PE X e ty)(m:M1 X o "pop" apos e cpos):PE X (.Call (.Attribute o "pop" apos) [e] [] cpos) (pQ td ty):=by intro aa s σ H Q I h;refine Wa m.base m.m_ m.line T9 PySem.F.slot_dict_pop PySem.F.type_dict_pop (bR (g aa s σ H _ I h) λu s1 ⟨x,j,c,n,a,ex,d,q1⟩=>?_);subst ex;obtain rfl:u=Value.ref a:=n;obtain⟨p,q,_⟩:=nC c d;refine⟨p,q,?_⟩;rw[m.trees];refine UE rfl (Vr (U2 (bR (i aa s1 σ j _ c q1) λB s2 z=>Vz ?_)));obtain⟨y,C,r,t,kvs,k,v,w,rfl,l,q2⟩:=z;exact NN r w t l (.inl rfl) λD E A b=>⟨v,_,A,b,q2⟩
end
end L2
namespace Att
open PySem PySem.W PySem.Calls PyProof.Rows
def oS:∀(ns:List Int)(vs:List Xw),WellAll P h vs (ns.map WData.int)->IntsAre vs ns:=by
 intro ns;induction ns with
 |nil=>intro vs w;rw[VE]at w;cases w;exact .nil
 |cons n ns c=>
  intro vs w;rw[Tw]at w;cases w with
  |cons a b=>cases a;exact .cons _ _ (c _ b)
def AJ{l:OpenLaw}{n:Nat}(j:l.most=some n){P:Params}
 (b:l.row.toRowW.claim.pre args=true) (f:WellAll P h vals args) :
 ∃a vs ns,vals=[Value.ref a]/\args=[WData.list (ns.map WData.int)]/\h.get? a=some { cls:=.type "list",data:=.seq vs.toArray }/\IntsAre vs ns/\ns.length<=n:=by
 have g:WShape.hasAll [] args [.list .int]=true:=(pre_splitW b).1;have i:l.pre.holds [] {args:=args}=true:=(pre_splitW b).2;obtain⟨d,r,rfl,h1,k⟩:=hasAllW_cons g;obtain rfl:=hasAllW_nil k;obtain⟨xs,rfl,m⟩:=hasW_list h1;obtain⟨ns,rfl⟩:=items_int m;have o:ns.length<=n:=by
  unfold OpenLaw.pre at i;have e:(WTm.not (.lt (.lit (.int (n:Int))) (.len (.arg 0)))).holds [] {args:=[.list (ns.map .int)]}=true:=by have e:=(holds_andW i).1;rw[j]at e;exact e
  have t:=condW_of e (w_not (w_lt w_lit (w_len_list (w_arg rfl))))
  grind
 cases f with
 |cons p q=>
  cases q;cases p with
  |list s c=>exact⟨_,_,ns,rfl,rfl,s,oS ns _ c,o⟩
def AK(l:OpenLaw)(args:List WData):l.row.toRowW.claim.post args (.bool true) args=true:=
 postW_of (r:=l.row.toRowW) (X:=(true==true))
  (show WShape.has [] (.bool true) .bool=true by first|rfl|decide|simp[WShape.has,WShape.arms,WShape.armsAll])
  (show(WTm.eq .res (.lit (.bool true))).value [] {args:=args,res:=some (.bool true),after:=args}=some (.bool (true==true))from w_eq_bool (w_res rfl) w_lit) rfl
def attach_call{l:OpenLaw}{n:Nat}{t:(Str->Option Xw)->Heap->Prop}{u:World->Heap->Prop}
 (z:l.most=some n) (j:d.params.defaults=[])
 (call:∀(w:World)(s₀ b:Xt)(mg k:Str->Option Xw)(fa:Addr)(o:Obj)(pm h doc:Xw)(a:Addr)(vs:List Xw)(ns:List Int),
   Ground q loose [] t w s₀ mg k b.heap->u w b.heap->
   b.heap.get? fa=some o->o.data=.func (docDef d.name d.params d.body d.scope pm h doc)->b.heap.CodeRec h d.name->mg d.name=some (.ref fa)->
   b.heap.get? a=some { cls:=.type "list",data:=.seq vs.toArray }->IntsAre vs ns->ns.length<=n->b.gens=#[]->
   codeAny (model l.prog w) callerA (.call (.ref fa) ⟨[.ref a],[]⟩) (λr i=>r=.ok (.ret (.bool true))/\OldK b.heap i.heap/\i.os=b.os/\AllBare i.gens) b) :
 WalkO q loose t u l.row.toRowW d [] (λf vs=>PySem.call f vs):=by
 intro w s₀ b mg k G Y fa o pm h doc A kV B hd m v p C args x M e y D s E;obtain rfl:A=.none:=Dflts.none v j;obtain rfl:kV=.none:=Dflts.noKw v;obtain⟨a,vs,ns,rfl,rfl,g,c,F⟩:=AJ z e s;refine enter_call (WI (call w s₀ b mg k fa o pm h doc a vs ns G Y B (fd_plain hd) m p g c F C) λr i H=>?_);obtain⟨rfl,I,J,K⟩:=H;exact⟨.inl ⟨.bool true,.bool true,[],rfl,λ_=>rfl,.bool true,AK l _,λ_=>⟨List.Pairwise.nil,λ_ L=>(nomatch L)⟩⟩,I,J,K⟩
end Att
namespace L2
open PySem PySem.Spec PyProof.Rows
noncomputable def fZ(s:Stmt)(j:Nat):Stmt:=match s with
 |.ClassDef _ _ _ body _ _ _ _ _ _ _=>body.getD j (.Pass ⟨0,0,0,0⟩)
 |_=>.Pass ⟨0,0,0,0⟩
noncomputable def dE(s:Stmt):Arguments:=match s with
 |.FunctionDef _ a _ _ _ _ _ _ _ _=>a
 |_=>{posonlyargs:=[],args:=[],vararg:=none,kwonlyargs:=[],kw_defaults:=[],kwarg:=none,defaults:=[]}
noncomputable def cL(s:Stmt):List Stmt:=match s with
 |.FunctionDef _ _ b _ _ _ _ _ _ _=>b
 |_=>[]
noncomputable def ay(s:Stmt):Scope:=match s with
 |.FunctionDef _ _ _ _ _ _ a _ _ _=>a
 |_=>{kind:=.function,names:=[],isGenerator:=false,isCoroutine:=false}
noncomputable abbrev jd:AG:=λ_ _ _ _ _ _=>False
noncomputable abbrev E0:XK:=λ_ _ _=>False
def gB:gy jd X E0:=λ_ _ _ _ _ _ _ h=>h.elim
structure Ft(K:Xu) (x qual:Str) (st:Stmt) (f:Addr) (fd:FuncData):Prop where
 ex:∃(oc:Xw)(od:Option Addr)(kV doc pm:Xw)(an:Option Addr)(cdv ct:Xw)(osl:Array (Option Xw)),
  fd=fnOf x qual (dE st) (cL st) (ay st) .none kV doc pm an cdv ct/\K.lookup f=some ⟨oc,od,.func fd,osl⟩/\codeIn K cdv qual=true
 kp:keepIn K (.ref f)=true
section
variable{P:Xv}{w:World}{K:Xu}{mg:Str->Option Xw}{base:Heap}
def Ft.ok{x qual:Str}{st:Stmt}{f:Addr}{fd:FuncData}{N ps:List Str}{k:Nat}{sp:Sp}(F:Ft K x qual st f fd)(S:aR N ps (ay st))(len:∀vs H Q E,sp vs H Q E->vs.length=ps.length)
 (a:∀(cdv:Xw)(A:Xx)(outer:List Env)(s:Xt)(H:Hp)(vs:List V)(Q:VK)(E:XK),dt k (A.deeper (envOfC qual (ay st) s.heap.objs.size f cdv))->sp vs H Q E->
   ∃t,PSs (xO jd P w K mg base N qual (ay st) f cdv A outer s H E).QD (cL st) t/\t {nx:=λ_ H'=>Q .bn H',rt:=Q} (cf N vs) H):bG P w K mg base jd (k+1) f fd ps sp:=by
 obtain⟨oc,od,kV,doc,pm,an,cdv,ct,osl,rfl,lk,b⟩:=F.ex;refine NI lk b S len λA outer s H vs Q E d c=>?_;obtain⟨t,h,q⟩:=a cdv A outer s H vs Q E d c;exact⟨t,h.QD,q⟩
def Ft.binds{x qual:Str}{st:Stmt}(F:Ft K x qual st f fd)
 (h:∀(kV doc pm:Xw)(an:Option Addr)(cdv ct:Xw)(us:List Xw),us.length=ps.length->bindArgs (fnOf x qual (dE st) (cL st) (ay st) .none kV doc pm an cdv ct) ⟨us,[]⟩=pure (ps.zip us)):Binds K fd ps []:=by
 obtain⟨oc,od,kV,doc,pm,an,cdv,ct,osl,rfl,lk,a⟩:=F.ex;exact .all (h kV doc pm an cdv ct)
def CC{x qual:Str}{st:Stmt}{f:Addr}{oc:Xw}{od an:Option Addr}{osl:Array (Option Xw)}{kV doc pm cdv ct:Xw}(l:K.lookup f=some ⟨oc,od,.func (fnOf x qual (dE st) (cL st) (ay st) .none kV doc pm an cdv ct),osl⟩)
 (c:codeIn K cdv qual=true) (k:keepIn K (.ref f)=true):Ft K x qual st f (fnOf x qual (dE st) (cL st) (ay st) .none kV doc pm an cdv ct):=⟨⟨oc,od,kV,doc,pm,an,cdv,ct,osl,rfl,l,c⟩,k⟩
end
def sH(a:dt k A):A.units+1<cLine:=UQ (WY (by decide:1<=64) _) a.units
section
variable{X:Cx}
def pv(i:Nat)(b:autoParam (X.N[i]?=some x) ae) (c:autoParam (QM X.env.scope x) XA._auto_1) (hd:autoParam ((x==("__debug__" : Str))=false) am)
 (a:autoParam ((x==("__classdict__" : Str))=false) am):PE X (.Name x pos) (aI i):=JG b c hd a
end
def xU{A B:Prop}(h:B):if false=true then A else B:=by rw[TJ Uz];exact h
def vM{A B:Prop}(h:A):if true=true then A else B:=by rw[Tv rfl];exact h
def Rj{c A B:Prop}[Decidable c](h1:c->A)(a:¬c->B):if c then A else B:=by
 by_cases h:c
 .rw[Tv h];exact h1 h
 .rw[TJ h];exact a h
def Same(H H':Hp):Prop:=∀b o,H b=some o->H' b=some o
def Same.refl(H:Hp):Same H H:=λ_ _ h=>h
def Same.trans(a:Same H H1)(b:Same H1 H2):Same H H2:=λc o h=>b c o (a c o h)
def Same.free(e:Same H H')(h:H' l=Option.none):H l=Option.none:=by
 cases q:H l with
 |none=>rfl
 |some o=>rw[e l o q]at h;cases h
abbrev TX:=St->Hp->VK->XK->Prop
end L2
namespace L2
open PySem PySem.Spec PySem.Calls PyProof.Rows
section
variable{prog:Xv}{w:World}
abbrev tK(prog:Xv)(w:World):=tupleKind (aF prog w)
def o5(x:(tK prog w).is h k a)(e:∀b o,h.get? b=some o->h'.get? b=some o):(tK prog w).is h' k a:=by obtain⟨o,c,n,h1,r⟩:=x;exact⟨o,c,n,e _ _ h1,r⟩
end
section
variable{X:Cx}{aa:List (Addr×Obj)}{σ:St}{H:Hp}{s:Xt}{a:Addr}
def Inv.Sw(I:Inv X aa σ H s)(e:H a=some (.dT [])):Inv X aa σ (aP H a (.dK [])) s:=by
 obtain⟨z,y,xs,r,o,es,d,h1,f,g,c,i⟩:=(show ObjOk X.prog X.w H s.heap a (.dT [])from I.aS a _ e);cases r;exact I.write (x:=a) (e:=a) (t':=s.toks) (h':=s.heap) (by rw[e];exact True.intro) (.inl rfl) (λb u _ q=>q) ⟨o,h1⟩ ⟨z,y,[],.nil,o,es,d,h1,f,g,by
  have e:es=#[]:=by simpa using c
  subst e;intro x h;simp at h,by
  have e:es=#[]:=by simpa using c
  subst e;constructor,Ub⟩
def Inv.QE(I:Inv X aa σ H s)(e:H a=some (.dK [])):Inv X aa σ (aP H a (.dT [])) s:=by
 obtain⟨z,y,vs,r,o,es,d,h1,f,g,h,c⟩:=(show ObjOk X.prog X.w H s.heap a (.dK [])from I.aS a _ e);cases r;exact I.write (x:=a) (e:=a) (t':=s.toks) (h':=s.heap) (by rw[e];exact True.intro) (.inl rfl) (λb u _ q=>q) ⟨o,h1⟩ ⟨z,y,[],.nil,o,es,d,h1,f,g,(by
  generalize es.toList=l at c;obtain⟨c,_⟩:=c;cases l with
  |nil=>rfl
  |cons x r=>cases c),Ub⟩
end
def oB(H:Hp)(a:Addr)(y:V)(r:Option V):Prop:=DGet H a y r\/(Rd H a (.dT [])/\(∃k,y=kV k)/\r=none)\/(Rd H a (.dK [])/\(∃(b:Addr)(k:List bm),y=.ref b/\H b=some (.tup (k.map kV)))/\r=none)
def Ik(H:Hp)(a:Addr)(y v:V)(H':Hp):Prop:=DPut H a y v H'\/(H a=some (.dT [])/\∃k,y=kV k/\H'=aP H a (.dK [(k,v)]))\/(H a=some (.dK [])/\∃(b:Addr)(k:List bm),y=.ref b/\H b=some (.tup (k.map kV))/\H'=aP H a (.dT [(k,v)]))
section
variable{X:Cx}{aa:List (Addr×Obj)}{σ:St}{H:Hp}{s:Xt}{a:Addr}{y v:V}{u r:Xw}{o:Option V}{A:Xx}{E:Xw->Xt->Prop}
def nE(x:ObjOk P w H h a (.dT [])):(a==sysModules)=false/\h.DictOf (aF P w) a []:=by
 obtain⟨z,y,xs,r,o,es,b,h1,c,d,g,i⟩:=x;cases r;have e:es=#[]:=by grind
 subst e;exact⟨y,o,#[],b,h1,c,d,λx f=>by simp at f,by constructor,Ub⟩
def xV(x:ObjOk P w H h a (.dK [])):(a==sysModules)=false/\h.DictOfH (tupleKind (aF P w)) a []:=by
 obtain⟨z,y,vs,r,o,es,c,h1,d,e,g,b⟩:=x;cases r;refine⟨y,o,es,c,h1,d,e,?_,λx f=>(nomatch f),Ub⟩;generalize es.toList=l at b;obtain⟨b,_⟩:=b;cases l with
 |nil=>rfl
 |cons x r=>cases b
def NP(d:A.units+1<cLine)(I:Inv X aa σ H s)(g:oB H a y o)(c:RelV y u)(h:∀f,Inv X aa σ H f->Q (.bool o.isSome) f) :
 wpAny (model X.prog X.w) A (compareOp .In u (.ref a)) Q E s:=by
 rcases g with g|⟨e,⟨k,rfl⟩,rfl⟩|⟨e,⟨b,k,rfl,i⟩,rfl⟩
 .exact Rh d I g c h
 .obtain⟨y,dd⟩:=nE (e.ok I.aS);exact wpAny_in_of (jH c) y dd.mapOf (h _ (I.tok _))
 .obtain rfl:u=Value.ref b:=c;obtain⟨y,dd⟩:=xV (e.ok I.aS);exact wpAny_in_heap (U7 d) (eV I.aS i) y dd (h _ (I.tok _))
def xW(f:A.units+1<cLine)(I:Inv X aa σ H s)(g:Ik H a y v H')(i:RelV y u)(j:RelV v r)(h:∀c,Inv X aa σ H' c->Q () c) :
 wpAny (model X.prog X.w) A (setItem (.ref a) u r) Q E s:=by
 rcases g with g|⟨e,k,rfl,rfl⟩|⟨e,b,k,rfl,l,rfl⟩
 .exact kU f I g i j h
 .refine kU f (I.Sw e) (DPut.k (kvs:=[]) (k:=k) (v:=v) ag (by decide)) i j λc d=>?_;rw[yV]at d;exact h c d
 .refine kU f (I.QE e) (DPut.t (kvs:=[]) (k:=k) (v:=v) ag (by rw[af (yW l e (λz=>nomatch z))];exact l) (by decide)) i j λc d=>?_;rw[yV]at d;exact h c d
end
section
variable{X:Cx}{value o i:Expr}{td ty tv:TE}{pos pos':Pos}
noncomputable def CD(td ty tv:TE):TS:=λD σ H=>tv σ H λv c=>td σ c λx d=>ty σ d λy e=>∃a b,x=.ref a/\Ik e a y v b/\D.nx σ b
def CF(b:X.A.units+1<cLine)(c:PE X o td)(d:PE X i ty)(e:PE X value tv)(hs:swapsWith value (some (.Subscript o i pos')) pos.line X.env=pure false) :
 PS X (.Assign [.Subscript o i pos'] value pos) (CD td ty tv):=by
 intro aa s σ H D I h;refine wpAny_Assign_Subscript (bR (e aa s σ H _ I h) λr s1 ⟨v,f,j,k,q1⟩=>bR (c aa s1 σ f _ j q1) λu s2 ⟨x,l,m,n,q2⟩=>bR (d aa s2 σ l _ m q2) λB C ⟨y,E,p,q,a,t,ex,g,w⟩=>?_) hs;subst ex;obtain rfl:u=Value.ref a:=n;exact xW b p g q k λF z=>⟨σ,t,z,w⟩
end
section
variable{X:Cx}{aa:List (Addr×Obj)}{σ:St}{H:Hp}{s:Xt}{a:Addr}{y d:V}{u r:Xw}{o:Option V}{A:Xx}{E:Xw->Xt->Prop}
def FY(f:A.units+1<cLine)(I:Inv X aa σ H s)(g:oB H a y o)(c:RelV y u)(rd:RelV d r)(h:∀i j,Inv X aa σ H j->RelV (o.getD d) i->Q i j) :
 wpAny (model X.prog X.w) A (call (.builtin "dict.get") [.ref a,u,r]) Q E s:=by
 rcases g with g|⟨e,⟨k,rfl⟩,rfl⟩|⟨e,⟨b,k,rfl,l⟩,rfl⟩
 .exact CA f I g c rd h
 .obtain⟨y,dd⟩:=nE (e.ok I.aS);exact Vk Uo dd.typeIs UU (VU _ _ _) (meets_dict_get_default (aF X.prog X.w) a (jH c) y r) ⟨_,dd.mapOf,h _ _ (I.tok _) rd⟩
 .obtain rfl:u=Value.ref b:=c;obtain⟨y,dd⟩:=xV (e.ok I.aS);exact Vk Uo dd.typeIs UU (VU _ _ _) (meetsH_dict_get_default (tupleKind (aF X.prog X.w)) a b y r) ⟨U7 f,k,[],eV I.aS l,dd,h _ _ (I.tok _) rd⟩
end
noncomputable def FZ(td ty d:TE):TE:=λσ H Q=>td σ H λx b=>∃a,x=.ref a/\Ij b a/\ty σ b λy e=>d σ e λz c=>∃o,oB c a y o/\Q (o.getD z) c
section
variable{X:Cx}{o e f:Expr}{apos cpos:Pos}{td ty tx:TE}
def AM(i:X.A.units+1<cLine)(j:PE X o td)(k:PE X e ty)(l:PE X f tx)(m:M2 X o "get" apos e f cpos):PE X (.Call (.Attribute o "get" apos) [e,f] [] cpos) (FZ td ty tx):=by intro aa s σ H Q I h;refine Wa m.base m.m_ m.line T9 Uo V4 (bR (j aa s σ H _ I h) λu s1 ⟨x,n,c,p,a,ex,d,q1⟩=>?_);subst ex;obtain rfl:u=Value.ref a:=p;obtain⟨q,r,_⟩:=nC c d;refine⟨q,r,?_⟩;rw[m.trees];refine UE rfl (Vr (U2 (bR (k aa s1 σ n _ c q1) λG s2 ⟨y,t,v,w,q2⟩=>U2 (bR (l aa s2 σ t _ v q2) λJ K ⟨z,B,C,D,L,g,E⟩=>Vz ?_))));exact FY i C g w D λM N F b=>⟨_,B,F,b,E⟩
end
noncomputable def iz:HO->Prop
 |.dK _=>True
 |.dT _=>True
 |_=>False
section
variable{X:Cx}{aa:List (Addr×Obj)}{σ:St}{H H':Hp}{s:Xt}{d:Addr}{o:Obj}{u:HO}
def Inv.view(I:Inv X aa σ H s)(hn:∀b,H b=none->H' b=none)(ht:∀b xs,H b=some (.tup xs)->H' b=some (.tup xs))(hf:∀b o u,X.H₀ b=some (.aZ o u)->H' b=some (.aZ o u))
 (hb:∀b ps,H b=some (.xn ps)->H' b=some (.xn ps)) (aS:HOk X.prog X.w H' s.heap):Inv X aa σ H' s where
 ok:=I.ok
 os:=I.os
 bare:=I.bare
 base:=⟨I.base.keep,I.base.slot,λb o e n hx=>hn b (I.base.free b o e n hx),I.base.there,λb xs e=>ht b xs (I.base.rA b xs e),hf,λb ps e=>let ⟨m,q⟩:=I.base.xA b ps e;⟨m,hb b _ q⟩⟩
 loc:=I.loc
 cell:=I.cell
 free:=hn _ I.free
 i_:=λx c e=>hn c (I.i_ x c e)
 pin:=λp hp=>let ⟨a,b,c⟩:=I.pin p hp;⟨a,hn _ b,c⟩
 aS:=aS
 len:=I.len
def zb(ok:HOk P w H h)(hd:∃u,H d=some u/\(∀y,u≠.own y)/\∀xs,u≠.tup xs)(new:ObjOk P w (aP H d u') h d u'):HOk P w (aP H d u') h:=λb v e=>by
 obtain⟨u,a,h1,g⟩:=hd;by_cases f:b=d
 .subst f;rw[ag]at e;cases e;exact new
 .rw[af f]at e;refine(ok b v e).stay (λ_ _ _ q=>q) (λc q=>?_) λc xs q=>?_
  .rw[af]
   .exact q
   .rintro rfl;rw[a]at q;cases q;exact h1 _ rfl
  .rw[af]
   .exact q
   .rintro rfl;rw[a]at q;cases q;exact g _ rfl
def zc(h:iz u):(∀y,u≠.own y)/\(∀xs,u≠.tup xs)/\(∀ps,u≠.xn ps)/\∀o v,u≠.aZ o v:=by cases u<;>first|exact h.elim|exact⟨λ_ z=>(nomatch z),λ_ z=>(nomatch z),λ_ z=>(nomatch z),λ_ _ z=>(nomatch z)⟩
def sI(a:iz u)(x:ObjOk P w H h d u)(c:∀b xs,H b=some (.tup xs)->H' b=some (.tup xs)):ObjOk P w H' h d u:=by
 cases u with
 |dK kvs=>exact x
 |dT kvs=>obtain⟨z,y,xs,r,q⟩:=x;exact⟨z,y,xs,Paired.MU r λp q z=>⟨z.1,c _ _ z.2.1,z.2.2⟩,q⟩
 |_=>exact a.elim
theorem Inv.aZ(I:Inv X aa σ H s)(e:H d=some u)(c:iz u)(h:s.heap.get? d=some o):Inv X aa σ (aP H d (.aZ o u)) s:=by
 obtain⟨i,f,j,k⟩:=zc c;have g:∀b xs,H b=some (.tup xs)->aP H d (.aZ o u) b=some (.tup xs):=λb xs q=>by
  rw[af]
  .exact q
  .rintro rfl;rw[e]at q;cases q;exact f _ rfl
 refine I.view (λb a=>?_) g (λb l u' q=>?_) (λb ps q=>?_) (zb I.aS ⟨u,e,i,f⟩ ⟨h,sI c (I.aS d u e) g⟩)
 .rw[af]
  .exact a
  .rintro rfl;rw[e]at a;cases a
 .have q:=I.base.oY b l u' q;rw[af]
  .exact q
  .rintro rfl;rw[e]at q;cases q;exact k _ _ rfl
 .rw[af]
  .exact q
  .rintro rfl;rw[e]at q;cases q;exact j _ rfl
def Inv.Js(I:Inv X aa σ H s)(e:H d=some u)(a:iz u):∀o v,X.H₀ d≠some (.aZ o v):=λo v q=>by have:=I.base.oY d o v q;rw[e]at this;cases this;exact(zc a).2.2.2 _ _ rfl
def Inv.Jt(I:Inv X aa σ H s)(e:H d=some (.aZ o u))(f:iz u)(g:∀o v,X.H₀ d≠some (.aZ o v)):Inv X aa σ (aP H d u) s:=by
 have c:∀b xs,H b=some (.tup xs)->aP H d u b=some (.tup xs):=λb xs q=>by
  rw[af]
  .exact q
  .rintro rfl;rw[e]at q;cases q
 have x:ObjOk X.prog X.w H s.heap d u:=(show ObjOk X.prog X.w H s.heap d (.aZ o u)from I.aS d _ e).2;refine I.view (λb a=>?_) c (λb h u' q=>?_) (λb ps q=>?_) (zb I.aS ⟨_,e,λ_ z=>(nomatch z),λ_ z=>(nomatch z)⟩ (sI f x c))
 .rw[af]
  .exact a
  .rintro rfl;rw[e]at a;cases a
 .have q2:=I.base.oY b h u' q;rw[af]
  .exact q2
  .rintro rfl;exact g _ _ q
 .rw[af]
  .exact q
  .rintro rfl;rw[e]at q;cases q
end
def F0(h:(aF P w).is k u=true):RelV (kV k) u:=by
 rcases bo (show lw k u=true from h)with⟨i,t,rfl,rfl⟩|⟨x,t,rfl,rfl⟩
 .exact⟨t,rfl⟩
 .exact⟨t,rfl⟩
def pS{P:Xv}{w:World}{h h':Heap}(x:h.DictAt (aF P w) d vs ep)(e:h.get? d=some o)(b:h'.get? d=some o):h'.DictAt (aF P w) d vs ep:=by obtain⟨c,es,a,r⟩:=x;rw[e]at a;cases a;exact⟨o,es,b,r⟩
section
variable{X:Cx}
def Kb(I:Inv X aa σ H s)(e:Rd H a (.dK kvs)\/(Rd H a (.dT [])/\kvs=[])) :
 kvs.length<=sizeLine/\(a==sysModules)=false/\∃vs,KV kvs vs/\s.heap.DictOf (aF X.prog X.w) a vs:=by
 rcases e with e|⟨e,rfl⟩
 .exact l_ I.aS e
 .obtain⟨y,dd⟩:=nE (e.ok I.aS);exact⟨Ul _,y,[],.nil,dd⟩
end
section
variable{prog:Xv}{w:World}{A:Xx}{E:Xw->Xt->Prop}{s:Xt}
def Kc{k:bm}{key dflt:Xw}{Q:Xw->Xt->Prop}(j:(aF prog w).is k key=true)(v:s.heap.DictOf (aF prog w) d vs)(m:valueAt vs k=none)
 (h:∀h',h'.DictOf (aF prog w) d (stored vs k dflt)->Heap.SameBut d s.heap h'->Q dflt {s with heap:=h',toks:=s.toks+1}) (hsz:vs.length<=sizeLine):wpAny (model prog w) A (dictSetDefault d key dflt) Q E s:=by
 obtain⟨o,es,y,n,z,hd,t,p,B⟩:=v;have q:es.size<=sizeLine:=by
  have e1:=p.length;have e2:es.toList.length=es.size:=by simp
  lia
 have c:vs.findIdx? (λkv=>decide (kv.1=k))=none:=by
  rw[List.findIdx?_eq_none_iff];intro x C;refine Uc λe=>?_;have:(valueAt vs k).isSome=true:=by unfold valueAt;rw[W_,List.find?_isSome];exact⟨x,C,T4 e⟩
  rw[m]at this;cases this
 have i:(es.findIdx? λe=>(aF prog w).is k e.key)=none:=by
  have:(es.findIdx? λe=>(aF prog w).is k e.key)=vs.findIdx? λkv=>decide (kv.1=k):=by rw[<- p.findIdx k];obtain⟨l⟩:=es;simp
  rw[this];exact c
 have f:k∉vs.map (·.1):=not_mem_of_findIdx_none c;have g:¬(vs.any λkv=>decide (kv.1=k))=true:=by rw[List.any_eq_true];rintro⟨kv,r,D⟩;exact f (TV.mpr ⟨kv,r,UO D⟩)
 unfold dictSetDefault
 try with_reducible refine UJ ?_
 refine KE ((aF prog w).pyHash j ?_);refine KE (wpAny_dictFind_of (s:={s with toks:=s.toks+1}) j n hd t ?_);rw[i];refine KE (WU (KE (wpAny_updateDictKeys (hz:=q) (s:={s with toks:=s.toks+1}) n hd (Tu (h _ ⟨_,_,y+1,UR _ n (Obj.isFreed_of_dict (We hd _)),z.mapDictKeys _,We hd _,t.push j _,?_,?_⟩ (Uu ..))))))
 .rw[stored,TJ g];have:=p.append j ((aF prog w).hash k) dflt;obtain⟨l⟩:=es;simpa using this
 .rw[stored,TJ g,UB,VM];refine⟨B,by simp,?_⟩;intro a ha b u;simp only[Tw,VE,T8]at u;subst u;exact λe=>f (e▸ha)
end
section
variable{X:Cx}
def Il:V->List V->Hp->VK->Prop:=λx xs H Q=>∃a k y kvs,x=.ref a/\xs=[kV k,y]/\(H a=some (.dK kvs)\/(H a=some (.dT [])/\kvs=[]))/\kvs.length<sizeLine/\
 ((∃v,cS kvs k=some v/\Q v H)\/(cS kvs k=none/\Q y (aP H a (.dK (ce kvs k y)))))
def F1:J6 X "dict.setdefault" Il:=by
 intro aa s σ H x xs v us Q I t rs q;obtain⟨a,k,y,kvs,rfl,rfl,ha,hz,q⟩:=q;obtain rfl:v=Value.ref a:=t;obtain⟨u1,u2,rfl,h,b⟩:=vz rs;obtain⟨L,u,vs,i,c⟩:=Kb I (ha.imp .inl λ⟨e,w⟩=>⟨.inl e,w⟩);have n:=jH (P:=X.prog) (w:=X.w) h;refine Us Uq c.typeIs WQ ?_ (WM _ _ _);unfold Builtin.«dict.setdefault»;refine KE ?_;unfold Builtin.Dict.keyAndDefault;refine KE (WN c.typeIs (show wpAny _ _ (pure (a,u1,some u2)) _ _ s from Tu ?_));show wpAny _ _ (if(a==sysModules)=true then _ else(dictSetDefault a u1 u2 >>= _)) _ _ s;rw[TJ (by grind)];have A:vs.length<=sizeLine:=by rw[<- i.length];lia
 have j:s.heap.DictLe a sizeLine:=λo es M B hd=>by
  obtain⟨N,C,D,d,_,f,_,E,_⟩:=id c;rw[B]at d;cases d;rw[hd]at f;cases f;have e1:=E.length;have e2:es.toList.length=es.size:=by simp
  lia
 have F:=i.val k;rcases q with⟨v,p,q⟩|⟨p,q⟩
 .obtain⟨O,r,l⟩:=RelO.some_of (v:=v) (o:=valueAt vs k) (by grind);refine KE (wpAny_dictSetDefault_of (hz:=j) n c.mapOf (λR e=>?_) λe=>?_)
  .rw[r]at e;cases e;exact Tu ⟨_,rfl,v,H,I.tok _,l,q⟩
  .rw[r]at e;cases e
 .have m:valueAt vs k=none:=by
   have:=F.gw;rw[p]at this;cases z:valueAt vs k with
   |none=>rfl
   |some _=>rw[z]at this;cases this
  refine KE (Kc n c m (λh' g hs=>Tu ⟨_,rfl,?_⟩) A);have G:∃q,h'.get? a=some q:=let ⟨q,_,_,J,_⟩:=g;⟨q,J⟩;have mu:Ni (H a):=by rcases ha with e|⟨e,_⟩<;>(rw[e];exact True.intro)
  have K:(ce kvs k y).length<=sizeLine:=by have:=fD kvs k y;lia
  exact⟨y,_,kT (t':=s.toks+1) I mu hs G (t7 K u (i.put k b) g),b,q⟩
end
end L2
namespace ST
open PySem PySem.SetTable
noncomputable def st(m:Nat)(h:Int):Probe:={j:=bits h%(m+1),more:=runEnd m (bits h%(m+1))-bits h%(m+1),i:=bits h%(m+1),perturb:=bits h,dummy:=none}
noncomputable def rs(m:Nat)(p:Nat×Nat):Probe:={j:=p.1,more:=runEnd m p.1-p.1,i:=p.1,perturb:=p.2,dummy:=none}
noncomputable def xX(m:Nat)(p:Probe):Probe:=if p.more>0 then {p with j:=p.j+1,more:=p.more-1}else {p with j:=(leap m p.i p.perturb).1,more:=runEnd m (leap m p.i p.perturb).1-(leap m p.i p.perturb).1,i:=(leap m p.i p.perturb).1,perturb:=(leap m p.i p.perturb).2}
def xY(t:SetTable)(p:Probe):t.advance p=xX t.mask p:=rfl
def it(m:Nat):Nat->Probe->Probe
 |0,p=>p
 |n+1,p=>it m n (xX m p)
def gC(m:Nat):∀(a b:Nat)(p:Probe),it m (a+b) p=it m b (it m a p):=by intro a b;induction a<;>grind [it,xX]
def F2(m n:Nat)(p:Probe):it m (n+1) p=xX m (it m n p):=gC m n 1 p
structure Va(m:Nat) (p:Probe):Prop where
 i:p.i<=m
 more:p.more<=9
 j:p.j+p.more<=m
 q:p.perturb<2^64
 d:p.dummy=none
def t8(h:Int):bits h<2^64:=by
 unfold bits
 grind
def lN(m i:Nat)(h:i<=m):runEnd m i-i<=9/\i+(runEnd m i-i)<=m:=by unfold runEnd;split<;>lia
theorem Va.rs(h1:p.1<=m)(a:p.2<2^64):Va m (rs m p):=⟨h1,(lN m _ h1).1,(lN m _ h1).2,a,rfl⟩
theorem Va.st(m:Nat)(h:Int):Va m (st m h):=by have:bits h%(m+1)<=m:=Xa (Xr _ (Nat.succ_pos m));exact⟨this,(lN m _ this).1,(lN m _ this).2,t8 h,rfl⟩
def t9(m i q:Nat):(leap m i q).1<=m:=by exact Xa (Xr _ (Nat.succ_pos m))
def xZ(m i q:Nat):(leap m i q).2=q/32:=rfl
theorem Va.xX(v:Va m p):Va m (xX m p):=by
 unfold ST.xX;split
 .exact⟨v.i,by dsimp only;have:=v.more;lia,by dsimp only;have:=v.j;lia,v.q,v.d⟩
 .have l:=t9 m p.i p.perturb;exact⟨l,(lN m _ l).1,(lN m _ l).2,by dsimp only;rw[xZ];have:=v.q;have:=Nat.div_le_self p.perturb 32;lia,v.d⟩
theorem Va.it:∀{n:Nat}{p:Probe},Va m p->Va m (it m n p)
 |0,_,v=>v
 |n+1,_,v=>Va.it (n:=n) v.xX
def Va.SR(v:Va m p):p.j<=m:=by have:=v.j;lia
def o6:∀(k:Nat)(p:Probe),p.more=k->Va m p->it m (k+1) p=rs m (leap m p.i p.perturb):=by intro k;induction k<;>grind [Va,it,rs,xX]
noncomputable def lp(m:Nat):Nat->Nat×Nat->Nat×Nat
 |0,p=>p
 |n+1,p=>lp m n (leap m p.1 p.2)
def Ke(m:Nat):∀(a b:Nat)(p:Nat×Nat),lp m (a+b) p=lp m b (lp m a p):=by intro a b;induction a<;>grind [lp]
theorem NQ(m:Nat):∀(n:Nat)(p:Nat×Nat),(lp m n p).2=p.2/32^n
 |0,p=>by simp[lp]
 |n+1,p=>by show(lp m n (leap m p.1 p.2)).2=_;rw[NQ m n,xZ,Nat.div_div_eq_div_mul,Nat.pow_succ,Nat.mul_comm]
theorem Im(m:Nat):∀(n:Nat)(p:Nat×Nat),p.1<=m->(lp m n p).1<=m
 |0,p,h=>h
 |n+1,p,_=>Im m n _ (t9 m _ _)
theorem vN:∀(L:Nat)(p:Probe),Va m p->∃n,n<=10*(L+1)/\it m n p=rs m (lp m (L+1) (p.i,p.perturb))
 |0,p,v=>⟨p.more+1,by have:=v.more;lia,o6 _ p rfl v⟩
 |L+1,p,v=>by
  have h1:=o6 _ p rfl v;have a:Va m (rs m (leap m p.i p.perturb)):=by rw[<- h1];exact v.it
  obtain⟨n,b,e⟩:=vN L _ a;refine⟨p.more+1+n,by have:=v.more;lia,?_⟩;rw[gC,h1,e];rfl
noncomputable def f5(m i:Nat):Nat:=(i*5+1)%(m+1)
def fN(m:Nat):Nat->Nat->Nat
 |0,i=>i
 |n+1,i=>fN m n (f5 m i)
def CG(m:Nat):Nat->Nat->List Nat
 |0,_=>[]
 |n+1,i=>i::CG m n (f5 m i)
theorem vP(m:Nat):∀(n i k:Nat),k<n->(CG m n i)[k]?=some (fN m k i)
 |n+1,i,0,_=>rfl
 |n+1,i,k+1,h=>vP m n _ k (by lia)
theorem vQ(m:Nat):∀(n i:Nat),(CG m n i).length=n
 |0,_=>rfl
 |n+1,i=>by show(CG m n _).length+1=_;rw[vQ]
theorem t_(m:Nat):∀(a b i:Nat),fN m (a+b) i=fN m b (fN m a i)
 |0,b,i=>by rw[Nat.zero_add];rfl
 |a+1,b,i=>by rw[Nat.succ_add];exact t_ m a b _
def Rk(m:Nat):Bool:=((List.range (m+1)).all λj=>(CG m (m+1) 0).contains j)&&(fN m (m+1) 0==0)
def xB(m:Nat):Prop:=m=7\/m=31\/m=127\/m=511
def zd(h:xB m):Rk m=true:=by rcases h with rfl|rfl|rfl|rfl<;>decide +kernel
def CH(h:xB m)(c:j<=m):∃n,n<=m/\fN m n 0=j:=by have:=zd h;unfold Rk at this;simp only[Um,UK]at this;have h1:=this.1 j (Ur.mpr (by lia));rw[List.contains_iff_mem,TZ]at h1;obtain⟨n,a⟩:=h1;have b:=(TL.mp a).1;rw[vQ]at b;rw[vP m _ _ _ b]at a;exact⟨n,by lia,UL a⟩
def Kf(h:xB m)(e:i<=m)(f:j<=m):∃n,n<=m/\fN m n i=j:=by
 obtain⟨a,ha,c⟩:=CH h e;obtain⟨b,k,d⟩:=CH h f;by_cases g:a<=b
 .refine⟨b-a,by lia,?_⟩;rw[<- c,<- t_,show a+(b-a)=b by lia,d]
 .refine⟨m+1+b-a,by lia,?_⟩;have z:=zd h;unfold Rk at z;simp only[Um,V_]at z;rw[<- c,<- t_,show a+(m+1+b-a)=m+1+b by lia,t_,z.2,d]
theorem ze(m:Nat):∀(n i:Nat),lp m n (i,0)=(fN m n i,0)
 |0,_=>rfl
 |n+1,i=>by show lp m n (leap m i 0)=_;have:leap m i 0=(f5 m i,0):=rfl;rw[this];exact ze m n _
def vR(h:xB m)(b:j<=m)(p:Nat×Nat)(h1:p.1<=m)(c:p.2<2^64):∃n,13<=n/\n<=m+13/\(lp m n p).1=j:=by
 have a:(2:Nat)^64<32^13:=by decide
 have d:(lp m 13 p).2=0:=by rw[NQ];exact Nat.div_eq_of_lt (by lia)
 obtain⟨n,f,e⟩:=Kf h (Im m 13 p h1) b;refine⟨13+n,by lia,by lia,?_⟩;rw[Ke]
 grind [lp,ze]
def Ip(h:xB m)(a:j<=m)(v:Va m p):∃n,n<10*turns m/\(it m n p).j=j:=by obtain⟨L,h1,c,e⟩:=vR h a (p.i,p.perturb) v.i v.q;obtain⟨n,b,en⟩:=vN (L-1) p v;rw[show L-1+1=L by lia]at en b;refine⟨n,by unfold turns;lia,?_⟩;rw[en];exact e
def F3(xs:List Nat):Prop:=xs.Pairwise (·< ·)
theorem pT(m:F3 xs.toList):∀(d lo c:Nat),lo<=c->c<=xs.size->c-lo<=d->
 (∀i (h:i<xs.size),i<lo->xs[i]<j)->(∀i (h:i<xs.size),c<=i->j<=xs[i])->
 below.go xs j d lo c<=xs.size/\(∀i (h:i<xs.size),i<below.go xs j d lo c->xs[i]<j)/\∀i (h:i<xs.size),below.go xs j d lo c<=i->j<=xs[i]
 |0,lo,c,h1,g,s,k,l=>by
  have:lo=c:=by lia
  subst this;exact⟨g,k,l⟩
 |f+1,lo,c,h1,g,s,k,l=>by
  have mono:∀a b (ha:a<xs.size) (q:b<xs.size),a<=b->xs[a]<=xs[b]:=by
   intro a b ha q n;rcases Nat.lt_or_eq_of_le n with h|h
   .have:=T6.mp m a b (by simpa using ha) (by simpa using q) h;simpa using WH this
   .subst h;exact Tt _
  unfold below.go;by_cases r:lo<c
  .rw[Tv r];have o:(lo+c)/2<xs.size:=by lia
   have t:xs.getD ((lo+c)/2) j=xs[(lo+c)/2]:=by simp[Array.getD,o]
   dsimp only;rw[t];by_cases p:xs[(lo+c)/2]<j
   .rw[Tv p];refine pT m f _ _ (by lia) g (by lia) (λi h e=>?_) l;exact UQ (mono i _ h o (by lia)) p
   .rw[TJ p];refine pT m f _ _ (by lia) (by lia) (by lia) k λi h e=>?_;exact Ua (by lia) (mono _ i o h e)
  .rw[TJ r];have:lo=c:=by lia
   subst this;exact⟨g,k,l⟩
def dg(j:Nat)(a:F3 xs.toList):below xs j<=xs.size/\(∀i (h:i<xs.size),i<below xs j->xs[i]<j)/\∀i (h:i<xs.size),below xs j<=i->j<=xs[i]:=by unfold below;exact pT a xs.size 0 xs.size (Ul _) (Tt _) (by lia) (λi h z=>by lia) λi h z=>by lia
def CI(d:F3 xs.toList)(h:i<xs.size):below xs xs[i]=i:=by
 obtain⟨a,b,c⟩:=dg xs[i] d;rcases WA (below xs xs[i]) i with q|q|q
 .have e:below xs xs[i]<xs.size:=by lia
  have h1:=c (below xs xs[i]) e (Tt _);have f:=T6.mp d _ i (by grind) (by grind) q;simp at f;lia
 .exact q
 .have:=b i h q;lia
theorem sJ(j:Nat):has #[] j=false:=rfl
structure Tb(t:SetTable):Prop where
 fQ:xB t.mask
 Nx:t.dummies=#[]
 xx:F3 t.place.toList
 le:∀j∈t.place.toList,j<=t.mask
theorem sK(h:Tb t)(a:i<t.place.size):t.slot t.place[i]=.live i:=by unfold slot;dsimp only;rw[CI h.xx a];rw[Tv];simp[a]
def x4(h:Tb t)(a:j∉t.place.toList):t.slot j=.empty:=by
 unfold slot;dsimp only;rw[TJ,h.Nx,sJ]
 .rfl
 .grind
def x5(h:Tb t)(j:Nat):(j∉t.place.toList/\t.slot j=.empty)\/∃i,∃b:i<t.place.size,t.place[i]=j/\t.slot j=.live i:=by
 by_cases a:j∈t.place.toList
 .right;obtain⟨i,b,e⟩:=Wf.mp a
  grind [sK]
 .exact .inl ⟨a,x4 h a⟩
def Lv(t:SetTable)(j:Nat):Prop:=j∈t.place.toList
inductive kM(t:SetTable) (ha:Nat->Int) (h:Int) (p:Probe):Option Met->Prop
 |em (n:Nat) (e:¬Lv t (it t.mask n p).j) (b:∀k,k<n->∃i,∃hi:i<t.place.size,t.place[i]=(it t.mask k p).j/\ha i≠h):kM t ha h p (some (.empty (it t.mask n p).j none))
 |ca (n i:Nat) (hi:i<t.place.size) (e:t.place[i]=(it t.mask n p).j) (q:ha i=h) (b:∀k,k<n->∃i,∃hi:i<t.place.size,t.place[i]=(it t.mask k p).j/\ha i≠h) :
  kM t ha h p (some (.candidate (it t.mask n p).j i (it t.mask (n+1) p)))
theorem vS(h:Tb t)(ha:Nat->Int)(x:Int):∀(c:Nat)(p:Probe),Va t.mask p->(∃n,n<c/\¬Lv t (it t.mask n p).j)->kM t ha x p (probe.go t ha x c p)
 |0,p,v,⟨n,w,_⟩=>by lia
 |f+1,p,v,⟨n,w,r⟩=>by
  unfold probe.go;rcases x5 h p.j with⟨h1,e⟩|⟨i,g,h1,e⟩
  .rw[e];dsimp only;have:=kM.em (t:=t) (ha:=ha) (h:=x) (p:=p) 0 h1 λk s=>by lia
   rw[v.d];exact this
  .rw[e];dsimp only;by_cases l:ha i=x
   .rw[Tv (by simpa using l)];exact kM.ca (t:=t) (ha:=ha) (h:=x) (p:=p) 0 i g h1 l λk s=>by lia
   .rw[TJ (by simpa using l),xY];have y:n≠0:=by rintro rfl;exact r (by show p.j∈t.place.toList;rw[<- h1];simp)
    have u:=vS h ha x f (xX t.mask p) v.xX ⟨n-1,by lia,by
     have:it t.mask (n-1) (xX t.mask p)=it t.mask n p:=by show _=it t.mask n p;rw[show n=(n-1)+1 by lia];rfl
     rw[this];exact r⟩
    have a:∀{nn:Nat},(∀k,k<nn->∃i,∃g:i<t.place.size,t.place[i]=(it t.mask k (xX t.mask p)).j/\ha i≠x)->∀k,k<nn+1->∃i,∃g:i<t.place.size,t.place[i]=(it t.mask k p).j/\ha i≠x:=by
     intro nn b k s;cases k with
     |zero=>exact⟨i,g,h1,l⟩
     |succ k=>exact b k (by lia)
    generalize probe.go t ha x f (xX t.mask p)=B at u;cases u with
    |em m o b=>exact kM.em (t:=t) (ha:=ha) (h:=x) (p:=p) (m+1) o (a b)
    |ca m z q o A b=>exact kM.ca (t:=t) (ha:=ha) (h:=x) (p:=p) (m+1) z q o A (a b)
theorem pU:∀(b c:List Nat),b.Nodup->(∀x∈b,x∈c)->b.length<=c.length
 |[],_,_,_=>Ul _
 |a::b,c,nd,hs=>by
  have ha:a∈c:=hs a (TF ..);have d:=pU b (c.erase a) (UA.mp nd).2 λx e=>by grind
  grind
def pV(h:Tb t)(hs:t.place.size<=t.mask):∃j,j<=t.mask/\¬Lv t j:=by refine Vh λc=>?_;have a:∀j,j<=t.mask->j∈t.place.toList:=λj b=>Vh λz=>c ⟨j,b,z⟩;have:=pU (List.range (t.mask+1)) t.place.toList VZ λj b=>a j (by grind);simp at this;lia
def pW(h:Tb t)(hs:t.place.size<=t.mask)(ha:Nat->Int)(x:Int)(v:Va t.mask p):kM t ha x p (t.probe ha x p):=by obtain⟨j,a,b⟩:=pV h hs;obtain⟨n,h1,c⟩:=Ip h.fQ a v;unfold probe;exact vS h ha x _ p v ⟨n,h1,by grind⟩
def Rea(m:Nat)(a:Nat->Prop)(h:Int)(j:Nat):Prop:=∃n,(it m n (st m h)).j=j/\∀k,k<n->a (it m k (st m h)).j
def Rea.mono(r:Rea m lv h j)(s:∀j,lv j->lv' j):Rea m lv' h j:=let ⟨n,e,b⟩:=r;⟨n,e,λk a=>s _ (b k a)⟩
structure rD{V:Type} (t:SetTable) (es:Array (Int×V)):Prop where
 tb:Tb t
 len:t.place.size=es.size
 Nv:∀q∈t.place.toList.zip es.toList,Rea t.mask (·∈ t.place.toList) q.2.1 q.1
def lC(t:SetTable):Prop:=t.place.size*5<t.mask*3
def insertAt_toList{α:Type}(xs:Array α)(p:Nat)(x:α)(h:p<=xs.size):(insertAt xs p x).toList=xs.toList.take p++x::xs.toList.drop p:=by unfold insertAt;simp[Array.toList_extract,List.extract_eq_drop_take,UG]
def insertAt_size{α:Type}(xs:Array α)(p:Nat)(x:α)(h:p<=xs.size):(insertAt xs p x).size=xs.size+1:=by rw[<- UY,insertAt_toList xs p x h];simp;lia
def mj(h:Tb t)(j:Nat):(t.put j).1={t with place:=insertAt t.place (below t.place j) j}:=by
 unfold put;dsimp only;rw[h.Nx]
 grind [sJ]
def o7(t:SetTable)(j:Nat):(t.put j).2=below t.place j:=rfl
def x6{α b:Type}(xs:List α)(a:List b)(p:Nat)(x:α)(y:b)(h:xs.length=a.length):(xs.take p++x::xs.drop p).zip (a.take p++y::a.drop p)=(xs.zip a).take p++(x,y)::(xs.zip a).drop p:=by rw[List.zip_append (by simp[h]),Wr];simp[List.zip,List.take_zipWith,List.drop_zipWith]
def x8{V:Type}{t:SetTable}{es:Array (Int×V)}(h:rD t es){j:Nat}(x:j∉t.place.toList)(m:j<=t.mask){g:Int}{v:V}(r:Rea t.mask (·∈ t.place.toList) g j) :
 rD (t.put j).1 (insertAt es (t.put j).2 (g,v))/\(t.put j).1.mask=t.mask/\(t.put j).1.place.size=t.place.size+1:=by
 obtain⟨a,b,c⟩:=dg j h.tb.xx;rw[mj h.tb,o7];have o:below t.place j<=es.size:=by rw[<- h.len];exact a
 have el:=insertAt_toList t.place _ j a;have u:=insertAt_toList es (below t.place j) (g,v) o;have mem:∀k,k∈(insertAt t.place (below t.place j) j).toList↔k=j\/k∈t.place.toList:=by
  intro k;rw[el,T1,TH];constructor
  .grind
  .rintro(rfl|z)
   .exact .inr (.inl rfl)
   .rw[<- VG (below t.place j) t.place.toList,T1]at z;exact z.elim .inl λz=>.inr (.inr z)
 refine⟨⟨⟨h.tb.fQ,h.tb.Nx,?_,λk d=>?_⟩,?_,λq f=>?_⟩,rfl,insertAt_size _ _ _ a⟩
 .show F3 (insertAt t.place (below t.place j) j).toList;rw[el];unfold F3;rw[WS];refine⟨h.tb.xx.sublist (List.take_sublist _ _),?_,?_⟩
  .rw[UC];refine⟨λk d=>?_,h.tb.xx.sublist (List.drop_sublist _ _)⟩;obtain⟨i,p,e⟩:=Wf.mp d
   grind
  .intro k d l hl;obtain⟨i,p,e⟩:=Wf.mp d;rw[Vp]at p;have n:i<t.place.size:=by grind
   have e2:t.place[i]=k:=by grind
   have s:=b i n (by lia);rw[e2]at s;rw[TH]at hl;rcases hl with rfl|hl
   .exact s
   .obtain⟨y,w,A⟩:=Wf.mp hl
    grind
 .rcases(mem k).mp d with rfl|z
  .exact m
  .exact h.tb.le k z
 .show(insertAt t.place (below t.place j) j).size=_;rw[insertAt_size _ _ _ a,insertAt_size _ _ _ o,h.len]
 .have f:q∈(insertAt t.place (below t.place j) j).toList.zip (insertAt es (below t.place j) (g,v)).toList:=f;rw[el,u,x6 _ _ _ _ _ (by simpa using h.len)]at f;have sub:∀k,k∈t.place.toList->k∈(insertAt t.place (below t.place j) j).toList:=λk d=>(mem k).mpr (.inr d);rw[T1,TH]at f;rcases f with z|rfl|z
  .exact(h.Nv q (Vs z)).mono sub
  .exact r.mono sub
  .exact(h.Nv q (List.mem_of_mem_drop z)).mono sub
def ow(owner:Array (Option Nat))(j:Nat):Prop:=∃k,owner[j]?=some (some k)
theorem ua(i q:Nat):∀k,k<=runEnd m i-i->it m k (rs m (i,q))={j:=i+k,more:=runEnd m i-i-k,i:=i,perturb:=q,dummy:=none}
 |0,_=>rfl
 |k+1,h=>by
  rw[F2,ua i q k (by lia)]
  grind [xX]
theorem sL(hs:owner.size=m+1):∀(a i q:Nat),i<=m->q<2^64->(∃L,L<a/\¬ow owner (lp m L (i,q)).1)->
 ∃j,layClean.free m owner a i q=some j/\j<=m/\¬ow owner j/\∃n,(it m n (rs m (i,q))).j=j/\∀k,k<n->ow owner (it m k (rs m (i,q))).j
 |0,i,q,_,_,⟨L,h,_⟩=>by lia
 |f+1,i,q,l,t,⟨L,A,o⟩=>by
  obtain⟨B,C⟩:=lN m i l;have v:runEnd m i+1-i=(runEnd m i-i)+1:=by
   have:i<=runEnd m i:=by unfold runEnd;split<;>lia
   lia
  have p:∀k,k<=runEnd m i-i->((owner.getD (i+k) (some 0)).isNone=true↔¬ow owner (i+k)):=by
   intro k d;have g:i+k<owner.size:=by lia
   have e:owner[i+k]?=some owner[i+k]:=by simp[g]
   have e2:owner.getD (i+k) (some 0)=owner[i+k]:=by simp[Array.getD,g]
   unfold ow;rw[e2,e];cases owner[i+k]<;>simp
  unfold layClean.free;cases r:(List.range (runEnd m i+1-i)).find? λk=>(owner.getD (i+k) (some 0)).isNone with
  |some k=>
   dsimp only;rw[List.find?_range_eq_some]at r;obtain⟨h1,u,D⟩:=r;have u:=Ur.mp u;have d:k<=runEnd m i-i:=by lia
   refine⟨i+k,rfl,by lia,(p k d).mp h1,k,by rw[ua i q k d],λE w=>?_⟩
   grind [ua]
  |none=>
   dsimp only;rw[List.find?_range_eq_none]at r;have b:∀k,k<=runEnd m i-i->ow owner (i+k):=by grind
   have x:L≠0:=by rintro rfl;exact o (b 0 (Ul _))
   have y:=sL hs f (leap m i q).1 (leap m i q).2 (t9 m i q) (by rw[xZ];have:=Nat.div_le_self q 32;lia) ⟨L-1,by lia,by
    have:lp m L (i,q)=lp m (L-1) (leap m i q):=by rw[show L=(L-1)+1 by lia];rfl
    rw[this]at o;exact o⟩
   obtain⟨j,e,z,s,n,en,g⟩:=y;refine⟨j,e,z,s,runEnd m i-i+1+n,?_,λk d=>?_⟩
   .rw[gC,o6 (runEnd m i-i) (rs m (i,q)) rfl (Va.rs l t)];exact en
   .by_cases c:k<=runEnd m i-i
    .rw[ua i q k c];exact b k c
    .have:it m k (rs m (i,q))=it m (k-(runEnd m i-i+1)) (rs m (leap m i q)):=by rw[show k=(runEnd m i-i+1)+(k-(runEnd m i-i+1)) by lia,gC,o6 (runEnd m i-i) (rs m (i,q)) rfl (Va.rs l t)];congr 1;lia
     rw[this];exact g _ (by lia)
structure Own(m:Nat) (hs:List Int) (owner:Array (Option Nat)):Prop where
 size:owner.size=m+1
 all:∀k:Nat,k<hs.length->∃j:Nat,owner[j]?=some (some k)
 lt:∀j k:Nat,owner[j]?=some (some k)->k<hs.length
 Nv:∀(j k:Nat)(h:Int),owner[j]?=some (some k)->hs[k]?=some h->Rea m (ow owner) h j
 inj:∀j j' k:Nat,owner[j]?=some (some k)->owner[j']?=some (some k)->j=j'
def Own.QA(o:Own m hs owner)(q:hs.length<=m):∃j,j<=m/\¬ow owner j:=by
 refine Vh λl=>?_;have d:∀j,j<=m->ow owner j:=λj c=>Vh λz=>l ⟨j,c,z⟩
 let g:Nat->Nat:=λj=>((owner[j]?).getD none).getD 0
 have h:∀j,j<=m->owner[j]?=some (some (g j)):=λj c=>by
  obtain⟨k,r⟩:=d j c
  grind
 have nd:((List.range (m+1)).map g).Nodup:=by unfold List.Nodup;rw[VN];have:=VZ (n:=m+1);refine VO (λ{a b} ha i f e=>f ?_) this;have ha:=Ur.mp ha;have i:=Ur.mp i;exact o.inj a b (g a) (h a (by lia)) (by grind)
 have:=pU _ (List.range hs.length) nd λx p=>by obtain⟨j,c,rfl⟩:=TV.mp p;have c:=Ur.mp c;exact Ur.mpr (o.lt j _ (h j (by lia)))
 simp at this;lia
def CJ(t:xB m)(o:Own m hs owner)(u:hs.length<=m)(h:Int) :
 ∃j,layClean.free m owner (turns m) (bits h%(m+1)) (bits h)=some j/\Own m (hs++[h]) (owner.setIfInBounds j (some hs.length)):=by
 obtain⟨A,l,v⟩:=o.QA u;have d:bits h%(m+1)<=m:=Xa (Xr _ (Nat.succ_pos m));obtain⟨L,B,C,el⟩:=vR t l (bits h%(m+1),bits h) d (t8 h);obtain⟨j,e,D,p,n,en,w⟩:=sL o.size (turns m) _ _ d (t8 h) ⟨L,by unfold turns;lia,by grind⟩;refine⟨j,e,?_⟩;have x:j<owner.size:=by rw[o.size];lia
 have get:∀i,(owner.setIfInBounds j (some hs.length))[i]?=if i=j then some (some hs.length)else owner[i]?:=by grind
 have sub:∀i,ow owner i->ow (owner.setIfInBounds j (some hs.length)) i:=by
  rintro i ⟨k,b⟩;by_cases c:i=j
  .exact⟨_,by rw[get,Tv c]⟩
  .exact⟨k,by grind⟩
 have a:∀i k,(owner.setIfInBounds j (some hs.length))[i]?=some (some k)->(i=j/\k=hs.length)\/(i≠j/\owner[i]?=some (some k)):=by grind
 refine⟨by rw[Array.size_setIfInBounds,o.size],λk b=>?_,λi k b=>?_,λi k h' b g=>?_,λi q k h1 y=>?_⟩
 .rw[T_,WL]at b;by_cases f:k=hs.length
  .exact⟨j,by grind⟩
  .obtain⟨i,d⟩:=o.all k (by lia);refine⟨i,?_⟩;rw[get,TJ]
   .exact d
   .rintro rfl;exact p ⟨k,d⟩
 .rw[T_,WL];rcases a i k b with⟨_,rfl⟩|⟨_,z⟩
  .lia
  .have:=o.lt i k z;lia
 .rcases a i k b with⟨rfl,rfl⟩|⟨c,z⟩
  .rw[US (Tt _),Nat.sub_self]at g;cases g;exact⟨n,en,λk b=>sub _ (w k b)⟩
  .have f:=o.lt i k z;rw[Vi f]at g;exact(o.Nv i k h' z g).mono sub
 .rcases a i k h1 with⟨rfl,rfl⟩|⟨c,z⟩<;>rcases a q _ y with⟨rfl,E⟩|⟨r,s⟩
  .rfl
  .have:=o.lt _ _ s;lia
  .have:=o.lt _ _ z;lia
  .exact o.inj i q k z s
theorem CL(d:xB m):∀(b pre:List Int)(owner:Array (Option Nat)),Own m pre owner->pre.length+b.length<=m->
 ∃a,b.foldl (λc h=>do
  let (owner,k) <- c
  let j <- layClean.free m owner (turns m) (bits h%(m+1)) (bits h)
  pure (owner.setIfInBounds j (some k),k+1)) (some (owner,pre.length))=some (a,pre.length+b.length)/\Own m (pre++b) a
 |[],pre,owner,o,_=>⟨owner,rfl,by grind⟩
 |h::b,pre,owner,o,f=>by
  simp only[T2]at f;obtain⟨j,e,g⟩:=CJ d o (by lia) h;obtain⟨a,e2,i⟩:=CL d b (pre++[h]) _ g (by simp;lia)
  grind
def Kg(a:xB m)(hs:Array Int)(d:hs.size<=m):∃owner,layClean m hs=some owner/\Own m hs.toList owner:=by
 have b:Own m [] (Array.replicate (m+1) none):=by
  have no:∀j k:Nat,(Array.replicate (m+1) (none:Option Nat))[j]?=some (some k)->False:=by grind
  exact⟨by simp,λk c=>by simp at c,λj k h=>(no j k h).elim,λj k _ h=>(no j k h).elim,λj _ k h=>(no j k h).elim⟩
 obtain⟨owner,e,o⟩:=CL a hs.toList [] _ b (by grind);refine⟨owner,?_,by grind⟩;unfold layClean
 grind
theorem CM{α:Type}(es:Array α):∀(l:List Nat),(∀k∈l,k<es.size)->(l.filterMap (es[·]?)).length=l.length/\∀i:Nat,(l.filterMap (es[·]?))[i]?=(l[i]?).bind (es[·]?)
 |[],_=>⟨rfl,λi=>by simp⟩
 |k::l,h=>by
  have c:k<es.size:=h k (TF ..);have e:es[k]?=some es[k]:=by simp[c]
  obtain⟨a,b⟩:=CM es l λk c=>h k (TB _ c);rw[List.filterMap_cons_some e];refine⟨by simp[a],λi=>?_⟩;cases i with
  |zero=>simp[e]
  |succ i=>simpa using b i
theorem pX(o:Nat->Option Nat):∀l:List Nat,(l.filterMap λj=>(o j).map (j,·)).map Prod.fst=l.filter λj=>(o j).isSome
 |[]=>rfl
 |j::l=>by
  rw[Wl,VY];cases e:o j with
  |none=>simpa using pX o l
  |some k=>simpa using pX o l
def CN(owner:Array (Option Nat))(m:Nat)(hs:owner.size=m+1)(j k:Nat):(j,k)∈((List.range (m+1)).filterMap λj=>(owner.getD j none).map (j,·))↔owner[j]?=some (some k):=by
 rw[Wp];constructor
 .rintro⟨a,h1,c⟩;have h1:=Ur.mp h1;have b:a<owner.size:=by lia
  have e:owner.getD a none=owner[a]:=by simp[Array.getD,b]
  rw[e]at c;obtain⟨d,e1,e2⟩:=UF.mp c;cases e2;rw[show owner[j]?=some owner[j] by simp[b],e1]
 .intro h;obtain⟨b,e⟩:=U_.mp h;refine⟨j,Ur.mpr (by lia),?_⟩;have e2:owner.getD j none=owner[j]:=by simp[Array.getD,b]
  rw[e2,e];rfl
structure Laid{V:Type} (m:Nat) (es es':Array (Int×V)) (t':SetTable):Prop where
 xn:rD t' es'
 mask:t'.mask=m
 size:es'.size=es.size
 mem:∀x,x∈es'.toList↔x∈es.toList
 pw:∀R:Int×V->Int×V->Prop,(∀x y,R x y->R y x)->es.toList.Pairwise R->es'.toList.Pairwise R
def vT{V:Type}{m:Nat}(D:xB m)(es:Array (Int×V))(J:es.size<=m)(finger moves:Nat)(led plain:Bool) :
 ∃t' c,laid m finger moves led plain (es.map (·.1))=some (t',c)/\Laid m es (c.filterMap (es[·]?)) t'/\t'.led=led/\t'.plain=plain/\c.toList.Perm (List.range es.size):=by
 obtain⟨owner,K,o⟩:=Kg D (es.map (·.1)) (by simpa using J);have len:(es.map (·.1)).toList.length=es.size:=by simp
 let live:=(List.range (m+1)).filterMap λj=>(owner.getD j none).map (j,·)
 have l:∀j k,(j,k)∈live↔owner[j]?=some (some k):=CN owner m o.size;have xx:F3 (live.map Prod.fst):=by show F3 (((List.range (m+1)).filterMap λj=>(owner.getD j none).map (j,·)).map Prod.fst);rw[pX];exact List.pairwise_lt_range.sublist (List.filter_sublist)
 have n:(live.map Prod.snd).Nodup:=by unfold List.Nodup;unfold F3 at xx;rw[VN]at xx ⊢;refine VO (λ{a b} ha g s e=>?_) xx;have h1:=(l a.1 a.2).mp ha;have f:=(l b.1 b.2).mp g;rw[<- e]at f;have:=o.inj _ _ _ h1 f;lia
 have lt:∀k∈live.map Prod.snd,k<es.size:=by
  intro k d;obtain⟨p,r,rfl⟩:=TV.mp d;have:=o.lt p.1 p.2 ((l p.1 p.2).mp r)
  rwa [len]at this
 have all:∀k,k<es.size->k∈live.map Prod.snd:=by intro k d;obtain⟨j,t⟩:=o.all k (by rw[len];exact d);exact TV.mpr ⟨(j,k),(l j k).mpr t,rfl⟩
 have E:live.length=es.size:=by have a:=pU _ (List.range es.size) n λk d=>Ur.mpr (lt k d);have b:=pU (List.range es.size) (live.map Prod.snd) VZ λk d=>all k (Ur.mp d);simp at a b;lia
 obtain⟨F,A⟩:=CM es (live.map Prod.snd) lt;refine⟨{mask:=m,place:=(live.map (·.1)).toArray,dummies:=#[],finger,led,moves,plain},(live.map (·.2)).toArray,?_,?_,rfl,rfl,(List.perm_ext_iff_of_nodup n VZ).mpr λk=>⟨λh=>Ur.mpr (lt k h),λh=>all k (Ur.mp h)⟩⟩
 .unfold laid;rw[K];rfl
 .have el:((live.map (·.2)).toArray.filterMap (es[·]?)).toList=(live.map Prod.snd).filterMap (es[·]?):=by simp
  have u:((live.map (·.2)).toArray.filterMap (es[·]?)).size=es.size:=by rw[<- UY,el,F,TN,E]
  refine⟨⟨⟨D,rfl,by simpa using xx,λj t=>?_⟩,?_,λq y=>?_⟩,rfl,u,λx=>?_,λR L pw=>?_⟩
  .have t:j∈live.map Prod.fst:=by simpa using t
   obtain⟨p,r,rfl⟩:=TV.mp t;obtain⟨g,_⟩:=U_.mp ((l p.1 p.2).mp r);show p.1<=m;have:=o.size;lia
  .rw[u];simpa using E
  .have y:q∈(live.map Prod.fst).zip ((live.map Prod.snd).filterMap (es[·]?)):=by rw[el]at y;simpa using y
   obtain⟨i,G⟩:=TZ.mp y;rw[Wh,A]at G;obtain⟨h1,f⟩:=G;rw[T3]at h1 f;obtain⟨p,r,e1⟩:=UF.mp h1;rw[r]at f;have f:es[p.2]?=some q.2:=f;have M:=(l p.1 p.2).mp (TZ.mpr ⟨i,r⟩);have N:(es.map (·.1)).toList[p.2]?=some q.2.1:=by rw[Ui,Array.getElem?_map,f];rfl
   rw[<- e1];refine(o.Nv p.1 p.2 q.2.1 M N).mono λj ⟨k,d⟩=>?_;show j∈(live.map (·.1)).toArray.toList;simpa using⟨k,(l j k).mpr d⟩
  .rw[el];constructor
   .intro B;obtain⟨k,_,f⟩:=Wp.mp B;exact TZ.mpr ⟨k,by rw[Ui];exact f⟩
   .intro B;obtain⟨k,d⟩:=TZ.mp B;have g:k<es.size:=by have:=(TL.mp d).1;simpa using this
    exact Wp.mpr ⟨k,all k g,by rw[Ui]at d;exact d⟩
  .rw[el];rw[T6];intro a b ha g s;have v:=A a;have w:=A b;rw[UP ha]at v;rw[UP g]at w;rw[F]at ha g;rw[UP ha]at v;rw[UP g]at w;have C:(live.map Prod.snd)[a]≠(live.map Prod.snd)[b]:=T6.mp n a b ha g s;have v:es[(live.map Prod.snd)[a]]?=some _:=v.symm;have w:es[(live.map Prod.snd)[b]]?=some _:=w.symm;obtain⟨H,va⟩:=U_.mp v;obtain⟨I,O⟩:=U_.mp w;have P:=T6.mp pw;rw[<- va,<- O];rcases Wt C with z|z
   .simpa using P _ _ (by simpa using H) (by simpa using I) z
   .refine L _ _ ?_;simpa using P _ _ (by simpa using I) (by simpa using H) z
def F4{V:Type}{m:Nat}(f:xB m)(es:Array (Int×V))(g:es.size<=m)(finger moves:Nat)(led plain:Bool) :
 ∃t' e,laid m finger moves led plain (es.map (·.1))=some (t',e)/\Laid m es (e.filterMap (es[·]?)) t'/\t'.led=led/\t'.plain=plain:=by
 obtain⟨t',e,a,b,c,d,_⟩:=vT f es g finger moves led plain;exact⟨t',e,a,b,c,d⟩
end ST
namespace ST
open PySem PySem.W PyProof.Rows
structure Lt(N:Nat) (lt:Nat->Nat->Bool):Prop where
 Tq:∀i,lt i i=false
 tr:∀i j k,lt i j=true->lt j k=true->lt i k=true
 Tr:∀i j,i<N->j<N->i≠j->lt i j=true\/lt j i=true
noncomputable abbrev SG:=Nat->Nat->(Bool->Xt->Prop)->Xt->Prop
def F5(N:Nat)(lt:Nat->Nat->Bool)(a:SG)(s:Xt):Prop:=∀i j C,i<N->j<N->C (lt i j) s->a i j C s
def Pm(N:Nat)(p:Array Nat):Prop:=p.toList.Perm (List.range N)
noncomputable def cF(p:Array Nat)(i:Nat):Nat:=p.getD i 0
section
variable{N:Nat}{lt:Nat->Nat->Bool}{cmp:SG}{s:Xt}{p:Array Nat}
theorem Pm.size(h:Pm N p):p.size=N:=by have:=h.length_eq;simpa using this
def Pm.perm(h:Pm N p)(q:p'.Perm p):Pm N p':=(Array.perm_iff_toList_perm.mp q).trans h
def Kh(a:i<p.size):p[i]?=some (cF p i):=by unfold cF;simp[Array.getD,a]
theorem CO(h:p'[i]?=p[k]?):cF p' i=cF p k:=by
 simp_all [cF,cF]
def Pm.bd(h:Pm N p)(b:i<N):cF p i<N:=by
 have a:i<p.size:=by rw[h.size];exact b
 have:cF p i∈p.toList:=TZ.mpr ⟨i,by rw[Ui];exact Kh a⟩;exact Ur.mp (h.mem_iff.mp this)
def Pm.ne(h:Pm N p)(f:i<N)(g:j<N)(e:i≠j):cF p i≠cF p j:=by
 have nd:p.toList.Nodup:=h.nodup_iff.mpr VZ;have a:i<p.size:=by rw[h.size];exact f
 have b:j<p.size:=by rw[h.size];exact g
 have c:p.toList[i]'(by simpa using a)=cF p i:=by simp[cF,Array.getD,a]
 have d:p.toList[j]'(by simpa using b)=cF p j:=by simp[cF,Array.getD,b]
 intro z;rcases Wt e with q|q
 .exact T6.mp nd i j (by simpa using a) (by simpa using b) q (by rw[c,d];exact z)
 .exact T6.mp nd j i (by simpa using b) (by simpa using a) q (by rw[c,d];exact z.symm)
def So(lt:Nat->Nat->Bool)(p:Array Nat)(k:Nat):Prop:=∀a b,a<b->b<k->lt (cF p a) (cF p b)=true
def De(lt:Nat->Nat->Bool)(p:Array Nat)(k:Nat):Prop:=∀a b,a<b->b<k->lt (cF p b) (cF p a)=true
def Lt.yS(o:Lt N lt)(a:i<N)(b:j<N)(e:i≠j)(h:lt i j=false):lt j i=true:=by
 grind [Lt]
def So.snoc(o:Lt N lt)(h:So lt p k)(a:1<=k)(l:lt (cF p (k-1)) (cF p k)=true):So lt p (k+1):=by
 grind [Lt,So]
def De.snoc(o:Lt N lt)(h:De lt p k)(a:1<=k)(l:lt (cF p k) (cF p (k-1))=true):De lt p (k+1):=by
 grind [Lt,De]
theorem x9(o:Lt N lt)(an:F5 N lt cmp s)(pm:Pm N p):∀(f n:Nat){Q:Nat->Xt->Prop},1<=n->n+f=N->So lt p n->
 (∀m,n<=m->m<=N->So lt p m->(m<N->lt (cF p m) (cF p (m-1))=true)->Q m s)->(kas_asc p f n).kasWp cmp Q s
 |0,n,Q,h1,g,e,k=>k n (Tt _) (by lia) e λz=>by lia
 |f+1,n,Q,h1,g,e,k=>by
  refine an _ _ _ (pm.bd (by lia)) (pm.bd (by lia)) ?_;show KasT.kasWp cmp (if lt (cF p n) (cF p (n-1))=true then .ret n else kas_asc p f (n+1)) Q s;by_cases c:lt (cF p n) (cF p (n-1))=true
  .rw[Tv c];exact k n (Tt _) (by lia) e λ_=>c
  .rw[TJ c];have c:lt (cF p n) (cF p (n-1))=false:=by grind
   exact x9 o an pm f (n+1) (by lia) (by lia) (e.snoc o h1 (o.yS (pm.bd (by lia)) (pm.bd (by lia)) (pm.ne (by lia) (by lia) (by lia)) c)) λm a b c d=>k m (by lia) b c d
theorem zf(o:Lt N lt)(an:F5 N lt cmp s)(pm:Pm N p):∀(f n:Nat){Q:Array Nat×Nat×Nat->Xt->Prop},1<=n->n+f=N->De lt p n->
 (∀m,n<=m->m<=N->De lt p m->Q (p,m,0) s)->(kas_desc f p n 0).kasWp cmp Q s
 |0,n,Q,h1,g,e,k=>k n (Tt _) (by lia) e
 |f+1,n,Q,h1,g,e,k=>by
  refine an _ _ _ (pm.bd (by lia)) (pm.bd (by lia)) ?_;show KasT.kasWp cmp (if lt (cF p n) (cF p (n-1))=true then(if 0>0 then kas_desc f (kas_rev p (n-(0+1)) n) (n+1) 0 else kas_desc f p (n+1) 0)
   else .ask (cF p (n-1)) (cF p n) λd=>if d=true then .ret (p,n,0)else kas_desc f p (n+1) (0+1)) Q s
  by_cases c:lt (cF p n) (cF p (n-1))=true
  .rw[Tv c,TJ (by lia)];exact zf o an pm f (n+1) (by lia) (by lia) (e.snoc o h1 c) λm a b c=>k m (by lia) b c
  .rw[TJ c];have c:lt (cF p n) (cF p (n-1))=false:=by grind
   refine an _ _ _ (pm.bd (by lia)) (pm.bd (by lia)) ?_;rw[o.yS (pm.bd (by lia)) (pm.bd (by lia)) (pm.ne (by lia) (by lia) (by lia)) c];show KasT.kasWp cmp (if true=true then _ else _) Q s;rw[Tv rfl];exact k n (Tt _) (by lia) e
def CS(n:Nat)(a:n<=p.size)(k:Nat):cF (kas_rev p 0 n) k=if k<n then cF p (n-1-k)else cF p k:=by
 have e:=getElem?_mirror_all (xs:=p) (i:=0) a k;unfold kas_rev
 grind [CO]
def CT(o:Lt N lt)(an:F5 N lt cmp s)(pm:Pm N p)(h1:1<=n)(f:n<=N)(hd:De lt p n)
 (k:∀m e,1<=m->m<=N->Pm N e->So lt e m->Q (m,e) s):(kas_tail3 n N p).kasWp cmp Q s:=by
 unfold kas_tail3;rw[Wu];have d:Pm N (kas_rev p 0 n):=pm.perm (mirror_perm _ _ _ _);refine x9 o an d (N-n) n h1 (by lia) ?_ λm a b c _=>k m _ (by lia) b d c;intro a b g h;rw[CS n (by rw[pm.size];exact f),CS n (by rw[pm.size];exact f),Tv (by lia),Tv h];exact hd _ _ (by lia) (by lia)
def CU(o:Lt N lt)(an:F5 N lt cmp s)(pm:Pm N p)(r:2<=N)
 (k:∀m f,1<=m->m<=N->Pm N f->So lt f m->Q (m,f) s):(kas_count N p).kasWp cmp Q s:=by
 unfold kas_count;rw[Wu];refine x9 o an pm (N-1) 1 (Tt _) (by lia) (λa b g j=>by lia) λm a b c d=>?_;by_cases e:m=N
 .rw[Tv (by simpa using e)];exact k m p a b pm c
 .rw[TJ (by simpa using e)];by_cases i:m>1
  .rw[Tv i];refine an _ _ _ (pm.bd (by lia)) (pm.bd (by lia)) ?_;have:lt (cF p 0) (cF p (m-1))=true:=c 0 (m-1) (by lia) (by lia);show KasT.kasWp cmp (if lt (cF p 0) (cF p (m-1))=true then _ else _) Q s;rw[Tv this];exact k m p a b pm c
  .rw[TJ i];have h:m=1:=by lia
   subst h;unfold kas_descPart;rw[Wu];have l:=d (by lia);refine zf o an pm (N-(1+1)) (1+1) (by lia) (by lia) (λa b g j=>?_) λm' t n q=>?_
   .have:a=0:=by lia
    have:b=1:=by lia
    subst_vars
    exact l
   .show KasT.kasWp cmp (if 0>0 then _ else kas_tail3 m' N p) Q s;rw[TJ (by lia)];exact CT o an pm (by lia) n q k
theorem pY(o:Lt N lt)(an:F5 N lt cmp s)(pm:Pm N p)(b:i<N)(so:So lt p i):∀(f l r:Nat){Q:Nat->Xt->Prop},l<=r->r<=i->r-l<=f->
 (∀a,a<l->lt (cF p a) (cF p i)=true)->(∀a,r<=a->a<i->lt (cF p i) (cF p a)=true)->
 (∀m,m<=i->(∀a,a<m->lt (cF p a) (cF p i)=true)->(∀a,m<=a->a<i->lt (cF p i) (cF p a)=true)->Q m s)->(kas_place p i f l r).kasWp cmp Q s
 |0,l,r,Q,h1,h,j,d,g,k=>k l (by lia) d λa x y=>g a (by lia) y
 |f+1,l,r,Q,h1,h,j,d,g,k=>by
  unfold kas_place;by_cases c:l>=r
  .rw[Tv c];exact k l (by lia) d λa x y=>g a (by lia) y
  .rw[TJ c];refine an _ _ _ (pm.bd b) (pm.bd (by lia)) ?_;show KasT.kasWp cmp (if lt (cF p i) (cF p ((l+r)/2))=true then _ else _) Q s;by_cases q:lt (cF p i) (cF p ((l+r)/2))=true
   .rw[Tv q];refine pY o an pm b so f l ((l+r)/2) (by lia) (by lia) (by lia) d (λa x y=>?_) k;by_cases e:a=(l+r)/2
    .rw[e];exact q
    .exact o.tr _ _ _ q (so _ _ (by lia) y)
   .rw[TJ q];have q:lt (cF p i) (cF p ((l+r)/2))=false:=by grind
    have q:=o.yS (pm.bd b) (pm.bd (by lia)) (pm.ne b (by lia) (by lia)) q;refine pY o an pm b so f _ r (by lia) h (by lia) (λa x=>?_) g k;by_cases e:a=(l+r)/2
    .rw[e];exact q
    .exact o.tr _ _ _ (so _ _ (by lia) (by lia)) q
def CV(a:i<p.size)(b:l<=i)(k:Nat):cF (bubble p i (i-l)) k=if k=l then cF p i else if l<k/\k<=i then cF p (k-1)else cF p k:=by
 have e:=getElem?_bubble a (i-l) (by lia) k;rw[show i-(i-l)=l by lia]at e;by_cases h1:k=l
 .rw[Tv h1]at e ⊢;exact CO e
 .rw[TJ h1]at e ⊢
  grind [CO]
theorem CW(o:Lt N lt)(an:F5 N lt cmp s):∀(f i:Nat)(p:Array Nat){Q:Array Nat->Xt->Prop},Pm N p->i+f=N->So lt p i->
 (∀c,Pm N c->So lt c N->Q c s)->(kas_bin f p i).kasWp cmp Q s
 |0,i,p,Q,pm,h,so,k=>k p pm (by grind)
 |f+1,i,p,Q,pm,h,so,k=>by
  unfold kas_bin;rw[Wu];refine pY o an pm (by lia) so i 0 i (by lia) (Tt _) (by lia) (λa x=>by lia) (λa x y=>by lia) λm d lo e=>?_;refine CW o an f (i+1) _ (pm.perm (bubble_perm _ _ _)) (by lia) (λa b g j=>?_) k;have hs:i<p.size:=by rw[pm.size];lia
  rw[CV hs d,CV hs d]
  repeat' split
  all_goals first|lia|(exact e _ (by lia) (by lia))|(exact lo _ (by lia))|(exact so _ _ (by lia) (by lia))
def F6(o:Lt N lt)(an:F5 N lt cmp s)(g:2<=N)(k:∀p,Pm N p->So lt p N->Q p s):(kas_sort N).kasWp cmp Q s:=by
 unfold kas_sort;rw[Wu];have pm:Pm N (List.toArray (List.range N)):=by unfold Pm;simp
 refine CU o an pm g λm f a b c d=>?_;show KasT.kasWp cmp (if m<N then kas_bin (N-max m 1) f (max m 1)else .ret f) Q s;by_cases e:m<N
 .rw[Tv e];have:max m 1=m:=by lia
  rw[this];exact CW o an (N-m) m f c (by lia) d k
 .rw[TJ e];have:m=N:=by lia
  subst this;exact k f c d
end
end ST
namespace L2
open PySem PySem.Spec PySem.Calls PyProof.Rows ST
noncomputable abbrev iK(ns:List Int):List bm:=ns.map Sum.inl
section
variable{prog:Xv}{w:World}{A:Xx}{E:Xw->Xt->Prop}{s:Xt}
def o8(h:(aF prog w).is (.inl i) v=true):∃t,v=.int i t:=by
 rcases bo (show lw (.inl i) v=true from h)with⟨j,t,e,rfl⟩|⟨x,t,e,_⟩
 .cases e;exact⟨t,rfl⟩
 .cases e
theorem items_int:∀{ns:List Int}{vs:List Xw},ItemsAre (aF prog w) (iK ns) vs->∀v∈vs,∃i t,v=.int i t
 |[],_,h,v,hv=>by cases h;simp at hv
 |n::ns,_,h,v,hv=>by
  cases h with
  |cons h1 a=>
   rcases TH.mp hv with rfl|hv
   .obtain⟨t,rfl⟩:=o8 h1;exact⟨n,t,rfl⟩
   .exact items_int a v hv
def Ki(g:(tK prog w).is s.heap (iK ns) b)(h:Q true s):wpAny (model prog w) A (hashByValue 8 (.ref b)) Q E s:=by
 have j:=IsTupleKey.typeIs g;obtain⟨o,c,n,k,_,hd,l⟩:=g;unfold hashByValue;refine KE (wpAny_specialOf j PySem.F.slot_tuple_hash.lookup ?_);dsimp only;refine KE (WG k hd ?_);refine KE ?_;show wpAny _ _ (forIn c _ _) _ _ s;rw[<- Array.forIn_toList];refine WP _ (λrest r d=>r.1=none/\d=s/\∀v∈rest,∃i t,v=Value.int i t) _ ?_ ?_ _ _ ⟨rfl,rfl,items_int l⟩
 .rintro v rest r d ⟨e,rfl,a⟩;obtain⟨i,t,rfl⟩:=a v TF;refine KE (Tu ?_);simp only[Vw,TY,UI];exact Tu ⟨rfl,rfl,λu f=>a u (TB _ f)⟩
 .rintro⟨m,p⟩ d ⟨e,rfl,_⟩;simp only at e;subst e;exact Tu h
def vU(g:(tK prog w).is s.heap (iK ns) b)(h:Q false s):wpAny (model prog w) A (ofAClassStatement 8 (.ref b)) Q E s:=by
 have j:=IsTupleKey.typeIs g;obtain⟨o,c,n,k,_,hd,l⟩:=g;unfold ofAClassStatement;refine KE (WK j ?_);dsimp only;rw[Tv (by decide)];refine KE (Tu ?_);simp only[Vw,TY,UI];refine KE (WG k hd ?_);refine KE ?_;show wpAny _ _ (forIn c _ _) _ _ s;rw[<- Array.forIn_toList];refine WP _ (λrest r d=>r.1=none/\d=s/\∀v∈rest,∃i t,v=Value.int i t) _ ?_ ?_ _ _ ⟨rfl,rfl,items_int l⟩
 .rintro v rest r d ⟨e,rfl,a⟩;obtain⟨i,t,rfl⟩:=a v TF;refine KE (Tu ?_);simp only[TY,UI];exact Tu ⟨rfl,rfl,λu f=>a u (TB _ f)⟩
 .rintro⟨m,p⟩ d ⟨e,rfl,_⟩;simp only at e;subst e;exact Tu h
def Kj(j:(tK prog w).is s.heap (iK ns) b)(l:∀y∈ys,∃d c,y=.ref c/\(tK prog w).is s.heap (iK d) c)(h:Q false s):wpAny (model prog w) A (searchCouldBeSeen (.ref b) ys) Q E s:=by
 unfold searchCouldBeSeen;refine KE ?_;refine WP _ (λrest r f=>r.1=none/\f=s/\∀y∈rest,∃d c,y=.ref c/\(tK prog w).is s.heap (iK d) c) _ ?_ ?_ _ _ ⟨rfl,rfl,l⟩
 .rintro v rest r f ⟨g,rfl,a⟩;obtain⟨d,c,rfl,k⟩:=a v TF;have e:∀u∈rest,∃d c,u=Value.ref c/\(tK prog w).is f.heap (iK d) c:=λu i=>a u (TB _ i);dsimp only;split
  .exact Tu ⟨rfl,rfl,e⟩
  .refine KE ((tK prog w).quiet j ?_);simp only[Vw,TY,UI];refine KE ((tK prog w).quiet k ?_);simp only[Vw,TY,UI];refine KE (vU j ?_);simp only[TY,UI];refine KE (vU k ?_);simp only[TY,UI];exact Tu ⟨rfl,rfl,e⟩
 .rintro⟨m,n⟩ f ⟨g,rfl,_⟩;simp only at g;subst g;exact Tu h
def SH(prog:Xv)(w:World)(h:Heap)(es:Array (Int×Xw)):Prop:=∀e∈es.toList,∃a c,e=((tK prog w).hash (iK a),Value.ref c)/\(tK prog w).is h (iK a) c
def F7(h:xB m):(m%2==0)=false:=by rcases h with rfl|rfl|rfl|rfl<;>rfl
theorem rD.fits(T:rD t es)(hs:t.place.size<=t.mask):t.fits es.size=true:=by unfold SetTable.fits SetTable.fill;rw[T.tb.Nx];simp[T.len]at hs ⊢;exact hs
def x_{α:Type}{es:Array α}{i:Nat}{e:α}(h:es[i]?=some e):e∈es.toList:=TZ.mpr ⟨i,by rw[Ui];exact h⟩
theorem sM{ep:Nat}{t:SetTable}{ns:List Int}{Q:SetFound->Xt->Prop}(O:s.heap.get? a=some o)(hd:o.data=.set es ep t)(T:rD t es)(hs:t.place.size<=t.mask)
 (hu:A.units<cLine) (P:(tK prog w).is s.heap (iK ns) b) (el:SH prog w s.heap es)
 (h1:(∃e∈es.toList,∃c,e.2=.ref c/\(tK prog w).is s.heap (iK ns) c)->Q (.there none) s)
 (h2:(∀e∈es.toList,∀c,e.2=.ref c->¬(tK prog w).is s.heap (iK ns) c)->∀j,j∉t.place.toList->j<=t.mask->Rea t.mask (·∈ t.place.toList) ((tK prog w).hash (iK ns)) j->Q (.free j false) s) :
 ∀(fuel n:Nat)(d:Option SetTable.Probe),d.getD (t.probeStart ((tK prog w).hash (iK ns)))=it t.mask n (st t.mask ((tK prog w).hash (iK ns)))->
  (∀k,k<n->∃i e,∃f:i<t.place.size,t.place[i]=(it t.mask k (st t.mask ((tK prog w).hash (iK ns)))).j/\es[i]?=some e/\∀c,e.2=.ref c->¬(tK prog w).is s.heap (iK ns) c)->
  (∃N,n<=N/\N<n+fuel/\(it t.mask N (st t.mask ((tK prog w).hash (iK ns)))).j∉t.place.toList)->
  wpAny (model prog w) A (setSearchFrom a (.ref b) ((tK prog w).hash (iK ns)) true fuel d) Q E s
 |0,n,d,_,_,⟨N,x1,x2,_⟩=>by lia
 |fuel+1,n,d,e1,e2,⟨N,x1,x2,R⟩=>by
  have v0:Va t.mask (it t.mask n (st t.mask ((tK prog w).hash (iK ns)))):=(Va.st _ _).it;have sp:=pW T.tb hs (λi=>(es[i]?.map (·.1)).getD 0) ((tK prog w).hash (iK ns)) v0;have at_:∀i,i<t.place.size->∃e,es[i]?=some e:=λi f=>⟨es[i]'(by rw[<- T.len];exact f),by simp[T.len▸f]⟩;unfold setSearchFrom;refine KE (UT O hd (rD.fits T hs) ?_);dsimp only;have hg:t.gaveWay=false:=F7 T.tb.fQ;rw[hg];simp only[TY,UI];rw[e1];have pre:∀{nn:Nat},(∀k,k<nn->∃i,∃f:i<t.place.size,t.place[i]=(it t.mask k (it t.mask n (st t.mask ((tK prog w).hash (iK ns))))).j/\(es[i]?.map (·.1)).getD 0≠(tK prog w).hash (iK ns))->
   ∀k,k<n+nn->∃i e,∃f:i<t.place.size,t.place[i]=(it t.mask k (st t.mask ((tK prog w).hash (iK ns)))).j/\es[i]?=some e/\∀c,e.2=.ref c->¬(tK prog w).is s.heap (iK ns) c:=by
   intro nn z k B;by_cases C:k<n
   .exact e2 k C
   .obtain⟨i,f,q1,q2⟩:=z (k-n) (by lia);obtain⟨e,l⟩:=at_ i f;refine⟨i,e,f,?_,l,λc L g=>q2 ?_⟩
    .rw[q1,<- gC,show n+(k-n)=k by lia]
    .obtain⟨I,v,rfl,h⟩:=el e (x_ l);have p:v=c:=by injection L
     subst p;rw[l];show(tK prog w).hash (iK I)=_;rw[(tK prog w).inj h g]
  generalize J:t.probe _ _ (it t.mask n (st t.mask ((tK prog w).hash (iK ns))))=pr;have K:t.probe (λi=>(es[i]?.map (·.1)).getD 0) ((tK prog w).hash (iK ns)) (it t.mask n (st t.mask ((tK prog w).hash (iK ns))))=pr:=J;rw[K]at sp;clear K J;cases sp with
  |em nn D z=>
   dsimp only;refine Tu (h2 ?_ _ D (v0.it).SR ?_)
   .intro e l c L g;obtain⟨i,f⟩:=TZ.mp l;rw[Ui]at f;have F:i<t.place.size:=by rw[T.len];exact(U_.mp f).1
    obtain⟨I,v,rfl,h⟩:=el e l;have p:v=c:=by injection L
    subst p;have ek:=(tK prog w).inj h g;have hz:(t.place[i],((tK prog w).hash (iK I),Value.ref v))∈t.place.toList.zip es.toList:=TZ.mpr ⟨i,by rw[Wh];exact⟨by simp[F],by rw[Ui];exact f⟩⟩;obtain⟨m,em,eb⟩:=T.Nv _ hz;have em:(it t.mask m (st t.mask ((tK prog w).hash (iK I)))).j=t.place[i]:=em;rw[ek]at em eb;have hm:m<n+nn:=by
     rcases WA m (n+nn)with q|q|q
     .exact q
     .exfalso;refine D ?_;show(it t.mask nn (it t.mask n _)).j∈t.place.toList;rw[<- gC,<- q,em];simp
     .exfalso;refine D ?_;show(it t.mask nn (it t.mask n _)).j∈t.place.toList;rw[<- gC];exact eb _ q
    obtain⟨r,M,G,q1,q2,q3⟩:=pre z m hm;have S:r=i:=by
     have:t.place[r]=t.place[i]:=q1.trans em;rcases WA r i with q|q|q
     .have:=T6.mp T.tb.xx r i (by simpa using G) (by simpa using F) q;simp at this;lia
     .exact q
     .have:=T6.mp T.tb.xx i r (by simpa using F) (by simpa using G) q;simp at this;lia
    subst S;rw[f]at q2;cases q2;exact q3 v rfl g
   .refine⟨n+nn,by rw[gC],λk B=>?_⟩;obtain⟨i,e,f,q1,_⟩:=pre z k B;show _∈t.place.toList;rw[<- q1];simp
  |ca nn i f H hq z=>
   dsimp only;obtain⟨e,l⟩:=at_ i f;obtain⟨I,c,rfl,g⟩:=el e (x_ l);have rest:wpAny (model prog w) A (do
    let some (_,y):=es[i]?|unsupported "internal:set-entry"
    let u <- holding [y] (eqBool y (.ref b))
    let (U,_,t') <- setState a
    if true&&u then return SetFound.there none
    let some same:=t'.sameMemory t.moves t.mask|unsupported "set.changed-during-lookup:is-the-new-block-at-the-old-address"
    let xo <- match(if same then t'.slot (it t.mask nn (it t.mask n (st t.mask ((tK prog w).hash (iK ns))))).j else .empty)with
     |.live r=>match U[r]? with
      |some (_,y')=>do pure (if <- isSame y' y then some r else none)
      |none=>pure none
     |_=>pure none
    match xo with
    |none=>rule "set.search.anew";setSearchFrom a (.ref b) ((tK prog w).hash (iK ns)) true fuel none
    |some r=>if u then return .there (some r)else setSearchFrom a (.ref b) ((tK prog w).hash (iK ns)) true fuel (some (it t.mask (nn+1) (it t.mask n (st t.mask ((tK prog w).hash (iK ns))))))) Q E s:=by
    rw[l];dsimp only;refine KE (UJ ((tK prog w).eqBool hu g P ?_));refine KE (UT O hd (rD.fits T hs) ?_);dsimp only;by_cases x:iK I=iK ns
    .rw[T4 x];simp only[WT,Vd];exact Tu (h1 ⟨_,x_ l,c,rfl,by rw[<- x];exact g⟩)
    .rw[Uc x];simp only[W4,TY,UI];have V:t.sameMemory t.moves t.mask=some true:=by unfold SetTable.sameMemory;simp
     rw[V];dsimp only;rw[Tv rfl,<- H,sK T.tb f];dsimp only;rw[l];dsimp only;refine KE (wpAny_isSame_ref_self ?_);refine KE (Tu ?_);rw[Tv rfl]
     try dsimp only
     refine sM O hd T hs hu P el h1 h2 fuel (n+(nn+1)) _ ?_ ?_ ⟨N,?_,?_,R⟩
     .exact(gC t.mask n (nn+1) _).symm
     .intro k B;by_cases C:k<n+nn
      .exact pre z k C
      .have:k=n+nn:=by lia
       subst this;refine⟨i,_,f,by rw[H,gC],l,λv p hh=>x ?_⟩;have:c=v:=by injection p
       subst this;exact(tK prog w).inj g hh
     .refine Vh λL=>?_;have hN:N<n+(nn+1):=by lia
      by_cases W:N<n+nn
      .obtain⟨r,M,G,q1,_⟩:=pre z N W;exact R (by rw[<- q1];simp)
      .have:N=n+nn:=by lia
       subst this;exact R (by rw[gC,<- H];simp)
     .lia
   split
   .refine KE (Kj P ?_ ?_)
    .intro y hy;obtain⟨M,X,rfl⟩:=TV.mp hy;have Y:M∈es.toList:=by have:=(Array.mem_toList_iff).mp X;rw[Array.mem_filter]at this;exact Array.mem_toList_iff.mpr this.1
     obtain⟨Z,v,rfl,h⟩:=el M Y;exact⟨Z,v,rfl,h⟩
    .simp only[TY,UI];exact rest
   .exact rest
end
noncomputable def byT(w:World):Bool:=w.params.followText "set-order"
def SetAt(w:World)(h:Heap)(a:Addr)(es:Array (Int×Xw)):Prop:=∃o b t,h.get? a=some o/\o.ExactSet/\o.data=.set es b t/\rD t es/\lC t/\t.plain=true/\t.led=!byT w
def SetAt.keep(x:SetAt w h a es)(k:∀o,h.get? a=some o->h'.get? a=some o):SetAt w h' a es:=let ⟨o,b,t,e,r⟩:=x;⟨o,b,t,k o e,r⟩
def iP(h:lC t):t.place.size<=t.mask:=by unfold lC at h;lia
section
variable{prog:Xv}{w:World}{A:Xx}{E:Xw->Xt->Prop}{s:Xt}
structure oR(es es':Array (Int×Xw)) (x:Int×Xw):Prop where
 mem:∀y,y∈es'.toList↔y=x\/y∈es.toList
 pw:∀R:Int×Xw->Int×Xw->Prop,(∀x y,R x y->R y x)->es.toList.Pairwise R->(∀e∈es.toList,R e x)->es'.toList.Pairwise R
 size:es'.size=es.size+1
def sN(es:Array (Int×Xw))(p:Nat)(x:Int×Xw)(a:p<=es.size):oR es (SetTable.insertAt es p x) x:=by
 have e:=ST.insertAt_toList es p x a;refine⟨λy=>?_,λR b pw c=>?_,ST.insertAt_size es p x a⟩
 .rw[e,T1,TH];constructor
  .grind
  .rintro(rfl|z)
   .exact .inr (.inl rfl)
   .rw[<- VG p es.toList,T1]at z;exact z.elim .inl λz=>.inr (.inr z)
 .rw[e,WS];rw[<- VG p es.toList,WS]at pw;obtain⟨p1,p2,p3⟩:=pw;refine⟨p1,?_,?_⟩
  .rw[UC]
   grind
  .grind
def oR.laid(g:oR es es1 x)(l:Laid m es1 es2 t):oR es es2 x:=⟨λy=>(l.mem y).trans (g.mem y),λR a pw b=>l.pw R a (g.pw R a pw b),by rw[l.size,g.size]⟩
def kW{d:Nat}{t:SetTable}(b:Array (Int×Xw))(t':SetTable){h:Heap}(e:h.get? a=some o)(hex:o.ExactSet)(hd:o.data=.set es d t) :
 ∃c,(h.update a (Obj.putSet b t')).get? a=some c/\c.ExactSet/\c.data=.set b (d+1) t':=by
 have:=UR (Obj.putSet b t') e (by rw[putSet_of b t' hd];rfl);rw[putSet_of b t' hd]at this;exact⟨_,this,hex,rfl⟩
def pZ{t:SetTable}(h:xB t.mask)(h1:n*5<t.mask*3)(a:(n+1)*5>=t.mask*3)(b:n+1<=300):∃m,SetTable.sizeAbove (SetTable.grown (n+1))=m+1/\xB m/\(n+1)*5<m*3:=by
 rcases h with e|e|e|e<;>rw[e]at h1 a
 .have:n=4:=by lia
  subst this;exact⟨31,by decide,.inr (.inl rfl),by lia⟩
 .have:n=18:=by lia
  subst this;exact⟨127,by decide,.inr (.inr (.inl rfl)),by lia⟩
 .have:n=76:=by lia
  subst this;exact⟨511,by decide,.inr (.inr (.inr rfl)),by lia⟩
 .lia
def CY{a:Addr}{o:Obj}{es:Array (Int×Xw)}{Q:Unit->Xt->Prop}(d:s.heap.get? a=some o)(hex:o.ExactSet)(hd:o.data=.set es ep t)(l:t.fits es.size=true)(j:xB m)(k:SetTable.sizeAbove n=m+1)(p:es.size*5<m*3)(f:t.plain=true)(g:t.led=!byT w)
 (h:∀c t',Laid m es c t'->SetAt w (s.heap.update a (Obj.putSet c t')) a c->Q () {s with heap:=s.heap.update a (Obj.putSet c t')}):wpAny (model prog w) A (setRelay a n) Q E s:=by
 have q:m<=511:=by rcases j with rfl|rfl|rfl|rfl<;>lia
 unfold setRelay;refine KE (UT d hd l ?_);dsimp only;rw[TJ (by rw[k,Uj];lia)];obtain⟨t',b,e,L,i,u⟩:=F4 j es (by lia) t.finger (t.movedTo m) t.led t.plain;have v:t.relaid (es.map (·.1)) n=some (t',b):=by unfold SetTable.relaid;rw[k];exact e
 rw[v];show wpAny _ _ (do
  let r <- (do
   if(b.filterMap (es[·]?)).size != es.size then unsupported "internal:set-table-lost-an-element"
   pure (b.filterMap (es[·]?),t'):Sem (Array (Int×Xw)×SetTable))
  storeSet a r.1 r.2) _ _ _
 refine KE ?_;rw[TJ (by rw[L.size];simp)];refine Tu ?_;refine WB d hd ?_ (by show(b.filterMap (es[·]?)).size<=_;rw[L.size,Uj];lia);obtain⟨x,g1,g2,g3⟩:=kW (b.filterMap (es[·]?)) t' d hex hd;refine h _ t' L ⟨x,_,t',g1,g2,g3,L.xn,?_,by rw[u];exact f,by rw[i];exact g⟩;unfold lC;rw[L.xn.len,L.size,L.mask];exact p
def CZ(T:rD t es)(hs:t.place.size<=t.mask)(h:Int):∃N,N<100000/\(it t.mask N (st t.mask h)).j∉t.place.toList:=by
 obtain⟨j,a,b⟩:=pV T.tb hs;obtain⟨N,h1,c⟩:=Ip T.tb.fQ a (Va.st t.mask h);refine⟨N,?_,by rw[c];exact b⟩;have:t.mask<=511:=by rcases T.tb.fQ with e|e|e|e<;>rw[e]<;>lia
 unfold SetTable.turns at h1;lia
def Kk(G:A.units<cLine)(q:(tK prog w).is s.heap (iK ns) b)(M:SetAt w s.heap a es)(el:SH prog w s.heap es)(hz:es.size+1<=300)
 (h1:∀tk,s.toks<=tk->(∃e∈es.toList,∃c,e.2=.ref c/\(tK prog w).is s.heap (iK ns) c)->Q false {s with toks:=tk})
 (H:∀tk h' h,s.toks<=tk->(∀e∈es.toList,∀c,e.2=.ref c->¬(tK prog w).is s.heap (iK ns) c)->Heap.SameBut a s.heap h'->SetAt w h' a h->oR es h ((tK prog w).hash (iK ns),.ref b)->Q true {s with heap:=h',toks:=tk}) :
 wpAny (model prog w) A (setAdd a (.ref b)) Q E s:=by
 obtain⟨o,Y,t,p,hex,hd,T,sp,r,u⟩:=M;have I:=rD.fits T (iP sp);unfold setAdd;refine UJ ?_;refine KE ((tK prog w).pyHash G q ?_);have i:s.toks<=s.toks+(tK prog w).draws (iK ns):=Nat.le_add_right _ _;generalize s.toks+(tK prog w).draws (iK ns)=tk at i;unfold setAddHashed setAddHashedIn;refine UJ ?_;refine KE (UT (s:={s with toks:=tk}) p hd I ?_);dsimp only;have x:byScan (.ref b) es=false:=by simp[byScan,Value.scannable]
 rw[x];simp only[TY,UI];unfold setSearch;obtain⟨N,Z,O⟩:=CZ T (iP sp) ((tK prog w).hash (iK ns));refine KE (sM (s:={s with toks:=tk}) p hd T (iP sp) G q el (λy=>?_) (λl j P z R=>?_) 100000 0 none rfl (λk S=>by lia) ⟨N,Ul _,by lia,O⟩)
 .exact Tu (h1 tk i y)
 .dsimp only;refine KE (UT (s:={s with toks:=tk}) p hd I ?_);dsimp only;obtain⟨B,em,C⟩:=x8 T P z (v:=Value.ref b) R;have f:(t.put j).1.plain=true:=by rw[mj T.tb];exact r
  have n:(t.put j).1.led=!byT w:=by rw[mj T.tb];exact u
  rw[f];simp only[Vd];refine KE (Ki (s:={s with toks:=tk}) q ?_);simp only[Vd];have U:(t.put j).2<=es.size:=by rw[o7,<- T.len];exact(dg j T.tb.xx).1
  have g:=sN es (t.put j).2 ((tK prog w).hash (iK ns),Value.ref b) U;refine KE (WB (s:={s with toks:=tk}) p hd ?_ (by rw[g.size,Uj];lia));obtain⟨o1,q1,q2,J⟩:=kW (SetTable.insertAt es (t.put j).2 ((tK prog w).hash (iK ns),Value.ref b)) (t.put j).1 p hex hd;have K:=Uu s.heap a (Obj.putSet (SetTable.insertAt es (t.put j).2 ((tK prog w).hash (iK ns),Value.ref b)) (t.put j).1);have fill:(t.put j).1.fill=es.size+1:=by unfold SetTable.fill;rw[B.tb.Nx,C,T.len];rfl
  by_cases d:(t.put j).1.tooFull=true
  .rw[d];simp only[Bool.not_false,WT,Vd];unfold SetTable.tooFull at d;rw[fill,em]at d;have d:(es.size+1)*5>=t.mask*3:=by simpa using d
   have D:es.size*5<t.mask*3:=by rw[<- T.len];exact sp
   obtain⟨m,V,W,X⟩:=pZ T.tb.fQ D d hz;have F:(t.put j).1.place.size<=(t.put j).1.mask:=by
    rw[C,em];unfold lC at sp;have:t.mask>=7:=by rcases T.tb.fQ with e|e|e|e<;>rw[e]<;>lia
    lia
   refine KE (CY (s:={s with heap:=s.heap.update a (Obj.putSet (SetTable.insertAt es (t.put j).2 ((tK prog w).hash (iK ns),Value.ref b)) (t.put j).1),toks:=tk}) q1 q2 J (rD.fits B F) W V (by rw[g.size];exact X) f n λh t' L sa=>?_);exact Tu (H tk _ h i l (K.trans (Uu _ a _)) sa (g.laid L))
  .have d:(t.put j).1.tooFull=false:=by simpa using d
   rw[d];simp only[W4,TY,UI];refine Tu (H tk _ _ i l K ⟨o1,_,_,q1,q2,J,B,?_,f,n⟩ g);unfold SetTable.tooFull at d;unfold lC;rw[fill]at d;rw[C,T.len];simpa using d
end
noncomputable abbrev jI:=List Int×Addr
def C0(h:iK a=iK b):a=b:=by
 induction a generalizing b with
 |nil=>cases b with
  |nil=>rfl
  |cons _ _=>cases h
 |cons x a c=>cases b with
  |nil=>cases h
  |cons y b=>grind
section
variable{κ μ:Type}{ent:κ×μ->Int×Xw}{es es':Array (Int×Xw)}{xs:List (κ×μ)}{x:κ×μ}
structure jR(ent:κ×μ->Int×Xw) (es:Array (Int×Xw)) (xs:List (κ×μ)):Prop where
 el:∀e∈es.toList,∃x∈xs,e=ent x
 sz:es.size<=xs.length
 pw:es.toList.Pairwise λe e'=>∀x x',e=ent x->e'=ent x'->x∈xs->x'∈xs->x.1≠x'.1
 all:∀x∈xs,∃y∈xs,y.1=x.1/\ent y∈es.toList
def F8(ent:κ×μ->Int×Xw)(xs:List (κ×μ)):Prop:=∀x∈xs,∀y∈xs,ent x=ent y->x.1=y.1
def jR.wide(v:jR ent es xs)(un:F8 ent (xs++[x])):es.toList.Pairwise λe h=>∀y c,e=ent y->h=ent c->y∈xs++[x]->c∈xs++[x]->y.1≠c.1:=by refine VO (λ{a b} ha i f z j e1 e2 k l=>?_) v.pw;obtain⟨y,g,rfl⟩:=v.el a ha;obtain⟨c,d,rfl⟩:=v.el b i;rw[un z k y (Uv _ g) e1.symm,un j l c (Uv _ d) e2.symm];exact f y c rfl rfl g d
def jR.seen(v:jR ent es xs)(a:∃y∈xs,y.1=x.1)(un:F8 ent (xs++[x])):jR ent es (xs++[x]):=by
 refine⟨λe c=>?_,?_,v.wide un,λy hy=>?_⟩
 .obtain⟨z,h1,b⟩:=v.el e c;exact⟨z,Uv _ h1,b⟩
 .have:=v.sz;simp;lia
 .obtain⟨d,h1,b⟩ : ∃z∈xs,z.1=y.1:=by
   rcases T1.mp hy with hy|hy
   .exact⟨y,hy,rfl⟩
   .rw[T8]at hy;subst hy;exact a
  obtain⟨z,g1,g2,g3⟩:=v.all d h1;exact⟨z,Uv _ g1,g2.trans b,g3⟩
def jR.new(v:jR ent es xs)(c:¬∃y∈xs,y.1=x.1)(un:F8 ent (xs++[x]))(g:oR es es' (ent x)):jR ent es' (xs++[x]):=by
 have d:x∈xs++[x]:=Uh _ (T8.mpr rfl);refine⟨λe he=>?_,?_,?_,λy hy=>?_⟩
 .rcases(g.mem e).mp he with rfl|he
  .exact⟨x,d,rfl⟩
  .obtain⟨z,h1,f⟩:=v.el e he;exact⟨z,Uv _ h1,f⟩
 .have:=v.sz;rw[g.size];simp;lia
 .refine g.pw _ (λa b i z j e1 e2 k l h=>i j z e2 e1 l k h.symm) (v.wide un) λe he z j e1 e2 k l h=>?_;obtain⟨y,m,rfl⟩:=v.el e he;exact c ⟨y,m,(un z k y (Uv _ m) e1.symm).symm.trans (h.trans (un j l x d e2.symm))⟩
 .rcases T1.mp hy with hy|hy
  .obtain⟨z,h1,f,n⟩:=v.all y hy;exact⟨z,Uv _ h1,f,(g.mem _).mpr (.inr n)⟩
  .rw[T8]at hy;subst hy;exact⟨y,d,rfl,(g.mem _).mpr (.inl rfl)⟩
end
section
variable{prog:Xv}{w:World}{κ μ:Type}{ent:κ×μ->Int×Xw}
def zg(prog:Xv)(w:World)(A:Xx)(c:Heap)(S:Addr)(ent:κ×μ->Int×Xw)(its:List (κ×μ)):Prop:=∀(x:κ×μ)(xs:List (κ×μ))(s:Xt)(es:Array (Int×Xw))(Q:Bool->Xt->Prop)(E:Xw->Xt->Prop),x∈its->(∀y∈xs,y∈its)->(∀b o,c.get? b=some o->s.heap.get? b=some o)->SetAt w s.heap S es->jR ent es xs->es.size+1<=300->
 (∀tk,s.toks<=tk->(∃y∈xs,y.1=x.1)->Q false {s with toks:=tk})->(∀tk h' a,s.toks<=tk->(¬∃y∈xs,y.1=x.1)->Heap.SameBut S s.heap h'->SetAt w h' S a->oR es a (ent x)->Q true {s with heap:=h',toks:=tk})->wpAny (model prog w) A (setAdd S (ent x).2) Q E s
variable{A:Xx}{R:Result->Xt->Prop}{I S:Addr}{fp wr:List Addr}{G:Array GenState->Array GenState->Prop}{n:Nat}{P:Nat->Xw->Prop}{St:Nat->Xt->Prop}
def nF(W:WalksS prog w A.in1 I fp wr G n P St)(S:Addr)(J:S∉fp)(c:Heap)(U:c.get? S=none)(V:∀b∈wr,c.get? b=none)(its:List (κ×μ))(hn:its.length=n)
 (L:∀i v,P i v->∃x,its[i]?=some x/\v=(ent x).2) (un:F8 ent its) (add:zg prog w A.in1 c S ent its) (hz:n<=300) :
 ∀(k i:Nat)(s:Xt)(es:Array (Int×Xw)),n-i=k->i<=n->St i s->(∀b o,c.get? b=some o->s.heap.get? b=some o)->SetAt w s.heap S es->jR ent es (its.take i)->
  (∀d p,Moved (S::wr) G s d->SetAt w d.heap S p->jR ent p its->R (.ok (.ret .none)) d)->
  codeAny (model prog w) A (.builtin "set.update.loop" ⟨[.ref S,.ref I],[]⟩) R s:=by
 have M:S∉wr:=λh=>J (W.sub _ h);have f:∀b∈wr,b∈S::wr:=λb c=>TB _ c;intro k;induction k with
 |zero=>
  intro i s es hk hi r K X v T;have t:i=n:=by lia
  subst t;refine Vl Wi ?_;rw[Vt U3 _];show wpAny _ A.in1 (pyNext (.ref I) >>= _) _ _ s;refine KE (W.done s _ _ r λd B=>?_);rw[UG (by lia)]at v;have Y:=T d es (B.mono f) (X.keep λo e=>B.heap S o M e) v;show wpAny _ A.in1 (ret Value.none) _ _ d;exact Tu Y
 |succ k ih=>
  intro i s es hk hi r K X v T;have C:i<n:=by lia
  refine Vl Wi ?_;rw[Vt U3 _];show wpAny _ A.in1 (pyNext (.ref I) >>= _) _ _ s;refine KE (W.item i s _ _ C r λu d hP q B=>?_);obtain⟨x,hx,rfl⟩:=L i u hP;have D:its.take (i+1)=its.take i++[x]:=by rw[Ve,hx];rfl
  have N:F8 ent (its.take i++[x]):=by rw[<- D];exact λy Z z hz=>un y (Vs Z) z (Vs hz)
  have K':∀b o,c.get? b=some o->d.heap.get? b=some o:=λb o e=>B.heap b o (λz=>by rw[V b z]at e;cases e) (K b o e);have O:=X.keep λo e=>B.heap S o M e;have hes:es.size+1<=300:=by have:=v.sz;rw[Vp]at this;lia
  show wpAny _ A.in1 (holding [(ent x).2] (setAdd S (ent x).2) >>= _) _ _ d;refine KE (UJ (add x (its.take i) d es _ _ (UH hx) (λy Z=>Vs Z) K' O v hes (λtk a t=>?_) λtk h' p a Q E hSn g=>?_))
  .refine Tu ⟨VW U3 _,ih (i+1) _ es (by lia) C (W.frame _ d _ _ q a λb c o e=>e) K' O (by rw[D];exact v.seen t N) λF j l m H=>?_⟩;exact T F j (Xd W.gtrans ((B.mono f).then_heap a λb o c e=>e) l) m H
  .have K2:∀b o,c.get? b=some o->h'.get? b=some o:=λb o e=>(E.2 b (λz=>by rw[z,U]at e;cases e)).trans (K' b o e);refine Tu ⟨VW U3 _,ih (i+1) _ p (by lia) C (W.frame _ d _ _ q a λb c o e=>?_) K2 hSn (by rw[D];exact v.new Q N g) λF j l m H=>?_⟩
   .rw[E.2 b (λh:b=S=>J (h▸c))];exact e
   .refine T F j (Xd W.gtrans ((B.mono f).then_heap a λb o c e=>?_) l) m H;rw[E.2 b (λh:b=S=>c (h▸TF))];exact e
abbrev eT(prog:Xv)(w:World)(x:jI):Int×Xw:=((tK prog w).hash (iK x.1),Value.ref x.2)
def NR(a:∀x∈its,(tK prog w).is hb (iK x.1) x.2):F8 (eT prog w) its:=λx b y c e=>C0 ((tK prog w).inj (a x b) (by
 have e:x.2=y.2:=by injection e with _ e;injection e
 rw[e];exact a y c))
def F9(m:A.units<cLine)(d:∀x∈its,(tK prog w).is hb (iK x.1) x.2):zg prog w A hb S (eT prog w) its:=λx xs s es Q E o hs K p v hz h1 q=>by
 have a:∀y∈xs,(tK prog w).is s.heap (iK y.1) y.2:=λy i=>o5 (d y (hs y i)) K;refine Kk m (o5 (d x o) K) p (λe j=>?_) hz (λtk t b=>h1 tk t ?_) λtk h' k t f r sa g=>q tk h' k t (λb=>?_) r sa g
 .obtain⟨y,i,rfl⟩:=v.el e j;exact⟨_,_,rfl,a y i⟩
 .obtain⟨e,j,c,l,u⟩:=b;obtain⟨y,h,rfl⟩:=v.el e j;injection l with l;subst l;exact⟨y,h,C0 ((tK prog w).inj (a y h) u)⟩
 .obtain⟨y,h,B⟩:=b;obtain⟨z,C,D,F⟩:=v.all y h;exact f _ F z.2 rfl (by rw[<- B,<- D];exact a z C)
end
noncomputable abbrev setNew(led:Bool):Obj:={ cls:=.type "set",dict:=none,data:=.set #[] 0 (.fresh 0 0 led) }
def AN(e:h.get? a=some (setNew (!byT w))):SetAt w h a #[]:=by refine⟨_,0,_,e,⟨rfl,rfl,rfl⟩,rfl,⟨⟨.inl rfl,rfl,List.Pairwise.nil,λj b=>nomatch b⟩,rfl,λq c=>nomatch c⟩,?_,rfl,rfl⟩;show 0*5<7*3;decide
section
variable{prog:Xv}{w:World}{A:Xx}{E:Xw->Xt->Prop}{s:Xt}
def rL(a:Xw)(h:Q₁ (.ref s.heap.objs.size) {s with heap:=s.heap.push (setNew (!byT w))}) :
 codeAny (model prog w) A (.call (.builtin "set.__new__") ⟨[.type "set",a],[]⟩) (wants Q₁ E) s:=by
 refine codeAny_of_tree (show wpAny _ A.in1 (do checkBuiltinCall "set.__new__" ⟨[.type "set",a],[]⟩;again (.builtin "set.__new__" ⟨[.type "set",a],[]⟩)) _ _ s from ?_);refine KE (wpAny_of_eq (PySem.F.newCall_set_1 a) (Tu ⟨VW PySem.F.plain_set_new _,Vl PySem.F.entry_set_new ?_⟩));rw[Vt PySem.F.plain_set_new _];unfold Builtin.«set.__new__» Builtin.Frozenset.newClass;have b:=sub_set_self;obtain⟨c,g,d,tk,os⟩:=s;dsimp only;wp_walk;refine wpAny_askSetting (Tu ?_);dsimp only;simp only[newObj];refine KE (wpAny_alloc (Tu ?_));exact Tu h
def sO{κ L:Type}{ent:κ×L->Int×Xw}{l:Addr}{a:Array Xw}{nl:Nat}{its:List (κ×L)} {Q:Xw->Xt->Prop} (U:A.handled=none) (M:s.heap.get? l=some { cls:=.type "list",data:=.seq a nl }) (V:its.length=a.size) (hz:a.size<=300)
 (m:∀(i:Nat)(v:Xw),a[i]?=some v->∃x,its[i]?=some x/\v=(ent x).2) (un:F8 ent its) (add:zg prog w A.in1.in1.in1 s.heap s.heap.objs.size ent its)
 (h:∀(h':Heap)(tk:Nat)(es:Array (Int×Xw)),SetAt w h' s.heap.objs.size es->jR ent es its->(∀b o,b<s.heap.objs.size->s.heap.get? b=some o->h'.get? b=some o)->Q (.ref s.heap.objs.size) {s with heap:=h',toks:=tk}) :
 wpAny (model prog w) A (call (.type "set") [.ref l]) Q E s:=by
 obtain⟨c,tl,N⟩:=PySem.F.called_set.mro;have C:=PySem.F.called_set.made;have O:=PySem.F.called_set.sub;refine wpAny_call (codeAny_of_tree ?_);show wpAny _ _ (callAny (.type "set") _) _ _ _;refine Tu ⟨Code.quiet_builtin _ (by decide +kernel),Vl PySem.F.entry_type_call ?_⟩;rw[Around.under_plain (weight_type_call_type "set" [.ref l] []) rfl];have h1:=PySem.F.called_set.notType;have h2:=PySem.F.called_set.canCreate;have W:=PySem.F.typeCall_set_1 (.ref l)
 repeat (any_goals (first|assumption|wp_step))
 refine WI (rL (.ref l) (E:=E) (Q₁:=λobj f=>obj=.ref s.heap.objs.size/\f={s with heap:=s.heap.push (setNew (!byT w))}) ⟨rfl,rfl⟩) λr f D=>?_;rcases r with e|fl
 .exact D
 cases fl with
 |ret obj=>
  obtain⟨rfl,rfl⟩:=D;have P:(s.heap.push (setNew (!byT w))).get? s.heap.objs.size=some (setNew (!byT w)):=Tz _ rfl;have X:Shared.TypeIs {s with heap:=s.heap.push (setNew (!byT w))} (.ref s.heap.objs.size) "set":=⟨_,P,rfl⟩;have Y:=PySem.F.called_set.init.lookup;have Z:=PySem.F.called_set.init.bind (.ref s.heap.objs.size)
  repeat (any_goals (first|assumption|wp_step))
  refine WI (codeAny_call_builtin (R:=wants (λr g=>r=.none/\∃h' tk es,g={s with heap:=h',toks:=tk}/\SetAt w h' s.heap.objs.size es/\jR ent es its/\
   (∀b o,b<s.heap.objs.size->s.heap.get? b=some o->h'.get? b=some o)) E) PySem.F.called_set.init.plain PySem.F.entry_set_init (check_set_init_1 X ?_)) λn g d=>?_
  .have p:(s.heap.push (setNew (!byT w))).get? l=some { cls:=.type "list",data:=.seq a nl }:=RW _ M;have S:=PySem.F.sub_list_set;have T:=PySem.F.sub_list_frozenset;have hne:(Value.type "list"==Value.type "dict")=false:=by decide
   have t:(s.heap.push (setNew (!byT w))).IsList l a:=⟨_,p,rfl,nl,rfl⟩;unfold Builtin.«set.__init__» noKeywords Builtin.Frozenset.updateFrom;generalize G:pyIter=PI
   wp_walk
   subst G;refine V9 t (KE (wpAny_runValue ?_));have u:l<s.heap.objs.size:=TC M;have H:A.in1.in1.in1.handled=none:=by simp[U]
   have y:l≠(s.heap.push (setNew (!byT w))).objs.size:=by rw[VI];exact T5 (VP u)
   have z:∀b,s.heap.objs.size<=b->s.heap.get? b=none:=λb j=>by
    cases q:s.heap.get? b with
    |none=>rfl
    |some o=>exact absurd (TC q) (Nat.not_lt.mpr j)
   refine nF ((Walks.list H _ l y a).toS) s.heap.objs.size ?hSf s.heap (z _ (Tt _)) ?hbw its V m un add hz (a.size-0) 0 _ #[] rfl (Ul _) ⟨⟨_,Tz _ rfl,rfl,rfl⟩,(t.push _)⟩
    (λb o e=>RW _ (RW _ e)) (AN (RW _ P)) ⟨λe he=>(nomatch he),Ul _,List.Pairwise.nil,λx hx=>(nomatch hx)⟩ ?hR
   case hSf=>rw[VI];simp only[TH,TU,Xs,not_or];exact⟨T5 (VB _),V2 u⟩
   case hbw=>intro b j;simp only[TH,TU,Xs]at j;subst j;exact z _ (by rw[VI];lia)
   case hR=>intro s' es B k v;obtain⟨h',g',d',I,J⟩:=s';have eg:g'=s.gens:=B.gens;have ed:d'=s.drawn:=B.drawn;have eo:J=s.os:=B.os;subst eg ed eo;refine Tu (Tu ⟨rfl,h',I,es,rfl,k,v,λb o j e=>B.heap b o ?_ (RW _ (RW _ e))⟩);simp only[TH,TU,Xs,not_or];exact⟨T5 j,by rw[VI];exact T5 (VP j)⟩
  .rcases n with e|fl₂
   .exact d
   cases fl₂ with
   |ret r=>
    obtain⟨rfl,h',tk,es,rfl,k,v,K⟩:=d
    repeat (any_goals (first|assumption|wp_step))
    exact h _ _ _ k v K
   |_=>exact d.elim
 |_=>exact D.elim
end
theorem p6{α:Type}:∀(l:List α)(i:Nat)(h:i<l.length),(l[i]::l.eraseIdx i).Perm l
 |[],i,h=>by simp at h
 |x::l,0,h=>Vy _
 |x::l,i+1,h=>by have a:=p6 l i (by simpa using h);have e:(x::l).eraseIdx (i+1)=x::l.eraseIdx i:=rfl;rw[e,List.getElem_cons_succ];exact(List.Perm.swap _ _ _).trans (List.Perm.cons x a)
theorem zh{α:Type}(next:Nat->Nat):∀(a k:Nat)(left:List α)(out:Array α),left.length=a->(pickOrder.go next a k left out).toList.Perm (out.toList++left)
 |0,k,left,out,h=>by have:left=[]:=UD.mp h;subst this;unfold pickOrder.go;simp
 |f+1,k,left,out,h=>by have b:next k%left.length<left.length:=Xr _ (by lia);unfold pickOrder.go;rw[UP b];dsimp only;have c:=zh next f (k+1) (left.eraseIdx (next k%left.length)) (out.push left[next k%left.length]) (by rw[List.length_eraseIdx,Tv b];lia);refine c.trans ?_;rw[Array.toList_push,VQ];exact List.Perm.append_left _ (p6 left _ b)
def AO{α:Type}(next:Nat->Nat)(xs:Array α):(pickOrder next xs).toList.Perm xs.toList:=by have:=zh next xs.size 0 xs.toList #[] (by simp);unfold pickOrder;simpa using this
def jV(w:World)(S:Addr)(a:Nat)(es:Array (Int×Xw)):Array (Int×Xw):=if byT w then pickOrder (w.params.setOrder S a) es else es
def vV(w:World)(S:Addr)(a:Nat)(es:Array (Int×Xw)):(jV w S a es).toList.Perm es.toList:=by
 unfold jV;split
 .exact AO _ _
 .exact Vy _
def ml(w:World)(S:Addr)(a:Nat)(es:Array (Int×Xw)):(jV w S a es).size=es.size:=by have:=(vV w S a es).length_eq;simpa using this
def di(w:World)(t:SetTable):Nat->Nat
 |0=>0
 |i+1=>if byT w then 0 else t.place.getD i 0+1
def ya(T:Tb t):∀(i:Nat),i<=t.place.size->SetTable.below t.place (match i with|0=>0|i+1=>t.place.getD i 0+1)=i
 |0,_=>by
  obtain⟨a,b,c⟩:=dg 0 T.xx;dsimp only;rcases Nat.eq_zero_or_pos (SetTable.below t.place 0)with h|h
  .exact h
  .have:=b 0 (by lia) h;lia
 |i+1,f=>by
  dsimp only;have e:t.place.getD i 0=t.place[i]:=by simp[Array.getD,show i<t.place.size by lia]
  rw[e];obtain⟨a,b,c⟩:=dg (t.place[i]+1) T.xx;rcases WA (SetTable.below t.place (t.place[i]+1)) (i+1)with q|q|q
  .have h1:=c i (by lia) (by lia);lia
  .exact q
  .have h1:=b (i+1) (by lia) q;have d:=T6.mp T.xx i (i+1) (by simp;lia) (by simp;lia) (by lia);simp at d;lia
def slot_setiter_next:Slot "set_iterator" "__next__" "set_iterator.__next__":=.of (owner:="set_iterator") (n:="__next__") (by rw[typeLookup_type,builtinLookup_eq_fast];kernel_rfl) (by decide +kernel) (by decide +kernel) (by decide +kernel) (by first|exact .inl (by decide +kernel)|exact .inr (by decide +kernel)) (by rw[isSubtype_type];kernel_rfl)
def gD:entryFor table "set_iterator.__next__"=some Builtin.«set_iterator.__next__»:=entryFor_of_fast (by kernel_rfl)
def g_(a:Xw):argsOk "set_iterator.__next__" ⟨[a],[]⟩:=by(unfold argsOk;kernel_rfl)
def rM:entryFor table "set.__iter__"=some Builtin.«frozenset.__iter__»:=W5 (id':="frozenset.__iter__") (by kernel_rfl) rfl (by decide +kernel) (by kernel_rfl)
def SetIt(h:Heap)(it S:Addr)(slot i n a:Nat):Prop:=∃o,h.get? it=some o/\o.cls=.type "set_iterator"/\o.data=.fields #[.int slot 0,.int i 0,.ref S,.int n 0,.int a 0]
def SetIt.typeIs{s:Xt}{it S:Addr}{slot i n a:Nat}(x:SetIt s.heap it S slot i n a):s.TypeIs (.ref it) "set_iterator":=let ⟨o,b,c,_⟩:=x;⟨o,b,c⟩
def nG(h:Heap)(S:Addr)(es:Array (Int×Xw))(a:Nat)(t:SetTable):Prop:=∃o,h.get? S=some o/\o.ExactSet/\o.data=.set es a t
section
variable{prog:Xv}{w:World}{A:Xx}{E:Xw->Xt->Prop}{s:Xt}
def yb(h:Q (byT w) s):wpAny (model prog w) A setsByText Q E s:=by unfold setsByText;exact KE (wpAny_askSetting (Tu h))
def p7(r:nG s.heap S es ep t)(T:rD t es)(hs:t.place.size<=t.mask)(d:t.plain=true)(a:t.led=!byT w)(k:i<=es.size)
 (h:Q (((jV w S ep es)[i]?).map λe=>(e.2,di w t (i+1))) s):wpAny (model prog w) A (setNext S (di w t i) i ep) Q E s:=by
 obtain⟨o,f,hex,hd⟩:=r;have g:=rD.fits T hs;unfold setNext;refine KE (UT f hd g ?_);dsimp only;refine KE (yb ?_);cases b:byT w with
 |true=>
  simp only[Vd];rw[TJ (by simp)];refine KE ?_;unfold setWalk;refine KE (UT f hd g ?_);dsimp only;refine KE (yb ?_);rw[b];simp only[Vd];refine KE (wpAny_askSetting (Tu ?_));have e1:di w t (i+1)=0:=by unfold di;rw[b];rfl
  have e2:di w t i=0:=by cases i with|zero=>rfl|succ i=>(unfold di;rw[b];rfl)
  rw[e2];rw[e1]at h;unfold jV at h;rw[b]at h;exact Tu h
 |false=>
  simp only[TY,UI];rw[b]at a;have a:t.led=true:=a;show wpAny _ _ (if(!t.plain&&decide (es.size>1))=true then _ else _) _ _ _;rw[d];simp only[Vw,W3,TY,UI];show wpAny _ _ ((if(!t.led&&!es.isEmpty)=true then unsupported "set:maker-not-led" else pure ()) >>= λ_=>_) _ _ _;rw[a];simp only[Vw,W3,TY,UI];refine KE (Tu ?_);have e1:SetTable.below t.place (di w t i)=i:=by
   have:=ya T.tb i (by rw[T.len];exact k);cases i with
   |zero=>exact this
   |succ i=>unfold di;rw[b];exact this
  have l:jV w S ep es=es:=by unfold jV;rw[b];rfl
  rw[l]at h;rw[e1];by_cases c:i<es.size
  .have g1:es[i]?=some es[i]:=by simp[c]
   have j:i<t.place.size:=by rw[T.len];exact c
   have g2:t.place[i]?=some t.place[i]:=by simp[j]
   rw[g1]at h;rw[g1,g2];have e2:di w t (i+1)=t.place[i]+1:=by unfold di;rw[b];simp[Array.getD,j]
   rw[e2]at h;exact Tu h
  .have g1:es[i]?=none:=by simp;lia
   rw[g1]at h;rw[g1];exact Tu h
end
def hG:Slot "set_iterator" "__iter__" "set_iterator.__iter__":=.of (owner:="set_iterator") (n:="__iter__") (by rw[typeLookup_type,builtinLookup_eq_fast];kernel_rfl) (by decide +kernel) (by decide +kernel) (by decide +kernel) (by first|exact .inl (by decide +kernel)|exact .inr (by decide +kernel)) (by rw[isSubtype_type];kernel_rfl)
def lP:entryFor table "set_iterator.__iter__"=some Builtin.«dict_keyiterator.__iter__»:=W5 (id':="dict_keyiterator.__iter__") (by kernel_rfl) rfl (by decide +kernel) (by kernel_rfl)
def mn(a:Xw):argsOk "set_iterator.__iter__" ⟨[a],[]⟩:=by(unfold argsOk;kernel_rfl)
section
variable{prog:Xv}{w:World}{A:Xx}{E:Xw->Xt->Prop}{s:Xt}
def sP{it S:Addr}{slot i n a:Nat}{P:PySem.Fin->Xt->Prop}{F:Xw->Xt->Prop}(g:s.heap.get? it=some o)(hd:o.data=.fields #[.int slot 0,.int i 0,.ref S,.int n 0,.int a 0])
 (r:nG s.heap S es a t) (j:t.fits es.size=true) (k:n=es.size)
 (h:wpAny (model prog w) A (setNext S slot i a) (λm b=>match m with
   |some (x,next)=>wpAny (model prog w) A (do setField (.ref it) 0 (rawInt next);setField (.ref it) 1 (rawInt (i+1));ret x) P F b
   |none=>wpAny (model prog w) A (do setField (.ref it) 2 .none;raiseNew (<- newExc (.type "StopIteration") [])) P F b) F s) :
 wpAny (model prog w) A (Builtin.«set_iterator.__next__» ⟨[.ref it],[]⟩) P F s:=by
 obtain⟨os,c,hex,d⟩:=r;unfold Builtin.«set_iterator.__next__» slotArgs;simp only[List.isEmpty_nil,Vw,TY,UI,Vj,WC];refine KE (Tu ?_);refine KE (wpAny_fieldsOf g hd ?_);dsimp only;refine KE ?_;unfold setEntries;refine KE (UT c d j (Tu ?_));dsimp only;rw[TJ (by rw[k];simp)];simp only[Wy];refine KE (U9 h (λm b f=>?_) λ_ _ e=>e);cases m with
 |none=>exact f
 |some p=>obtain⟨x,next⟩:=p;exact f
def rN{it S:Addr}(hne:S≠it)(hh:A.handled=none){es:Array (Int×Xw)}{ep:Nat}{t:SetTable}(T:rD t es)(hs:t.place.size<=t.mask)(hpl:t.plain=true)(hle:t.led=!byT w) :
 Walks prog w A it [it,S] [it] es.size (λi v=>((jV w S ep es)[i]?).map (·.2)=some v) (λi h=>SetIt h it S (di w t i) i es.size ep/\nG h S es ep t) where
 sub:=λb hb=>by simp at hb;simp[hb]
 frame:=λi h h' st hk=>by obtain⟨⟨o,h1,r1⟩,⟨o2,h2,r2⟩⟩:=st;exact⟨⟨o,hk it (by simp) o h1,r1⟩,⟨o2,hk S (by simp) o2 h2,r2⟩⟩
 item:=λi s Q E hi st hQ=>by
  obtain⟨x1,x2⟩:=st;have hT:=x1.typeIs;obtain⟨o,ho,hc,hd⟩:=x1;have x2':=x2;obtain⟨o2,ho2,hex2,hd2⟩:=x2;unfold pyNext;refine KE (wpAny_attempt (U6 (name:=Str.ofString "__next__") hT slot_setiter_next (Us slot_setiter_next hT gD ?_ (g_ _))));refine sP ho hd x2' (rD.fits T hs) rfl (p7 x2' T hs hpl hle (by lia) ?_);have hio:i<(jV w S ep es).size:=by rw[ml];exact hi
  have e1:(jV w S ep es)[i]?=some (jV w S ep es)[i]:=by simp[hio]
  rw[e1];show wpAny _ _ _ _ _ _;refine KE (W6 ho hd (by simp) ?_);have d1:=Obj.data_mapFields hd (·.setIfInBounds 0 (rawInt ((di w t (i+1):Nat):Int)));have ho1:=UR (Obj.mapFields (·.setIfInBounds 0 (rawInt ((di w t (i+1):Nat):Int)))) ho (Obj.isFreed_of_fields d1);refine KE (W6 (s:={s with heap:=_}) ho1 d1 (by simp) ?_);have d2:=Obj.data_mapFields d1 (·.setIfInBounds 1 (rawInt ((i:Int)+1)));have ho3:=UR (Obj.mapFields (·.setIfInBounds 1 (rawInt ((i:Int)+1)))) ho1 (Obj.isFreed_of_fields d2);have sb:=(Uu s.heap it (Obj.mapFields (·.setIfInBounds 0 (rawInt ((di w t (i+1):Nat):Int))))).trans (Uu _ it (Obj.mapFields (·.setIfInBounds 1 (rawInt ((i:Int)+1)))));refine Tu ⟨_,rfl,Tu ?_⟩;refine hQ _ _ s.toks (by rw[e1];rfl) ⟨⟨_,ho3,?_,?_⟩,o2,(sb.2 S hne).trans ho2,hex2,hd2⟩ (λb o hb e=>(sb.2 b (λz=>hb (by simp[z]))).trans e)
  .exact(Obj.cls_mapFields ..).trans ((Obj.cls_mapFields ..).trans hc)
  .rw[d2];simp[rawInt]
 done:=λs Q E st hQ=>by
  obtain⟨x1,x2⟩:=st;have hT:=x1.typeIs;obtain⟨o,ho,hc,hd⟩:=x1;unfold pyNext;refine KE (wpAny_attempt (U6 (name:=Str.ofString "__next__") hT slot_setiter_next (Us slot_setiter_next hT gD ?_ (g_ _))));refine sP ho hd x2 (rD.fits T hs) rfl (p7 x2 T hs hpl hle (Tt _) ?_);have e1:(jV w S ep es)[es.size]?=none:=by simp[ml]
  rw[e1];show wpAny _ _ _ _ _ _;refine KE (W6 ho hd (by simp) ?_);refine KE ?_;simp only[newExc,newTuple];refine KE (Ux ?_ (by size_fits));refine KE (m:=firstArgMember _ _) (wpAny_of_eq (a:=Value.none) (by first|rfl|(simp only[firstArgMember];rfl)) ?_);refine Ux ?_ (by size_fits);simp only[raiseNew];refine KE (wpAny_handled ?_);rw[show A.in1.handled=none from hh];refine KE (Tu (wpAny_throw ?_));refine KE (wpAny_isInstance (T:="StopIteration") (b:=true) ⟨_,Tz _ rfl,rfl⟩ isSubtype_stop ?_);refine Tu (hQ _ s.toks λb o hb e=>?_);exact RW _ (RW _ (((Uu ..).2 b (λz=>hb (by simp[z]))).trans e))
 self:=λ_ _ _ _ st hQ=>by refine Wb st.1.typeIs hG (Us hG st.1.typeIs lP ?_ (mn _));exact Tu ⟨_,rfl,"set_iterator",_,st.1.typeIs,slot_setiter_next.lookup,hQ⟩
def yc(r:nG s.heap S es ep t)(b:t.fits es.size=true)(c:t.plain=true)
 (h:Q (.ref s.heap.objs.size) { s with heap:=s.heap.push { cls:=.type "set_iterator",data:=.fields #[.int 0 0,.int 0 0,.ref S,.int es.size 0,.int ep 0] } }):wpAny (model prog w) A (pyIter (.ref S)) Q E s:=by
 obtain⟨o,a,hex,hd⟩:=r;have d:s.TypeIs (.ref S) "set":=⟨o,a,hex.1⟩;refine Wb d PySem.F.slot_set_iter (Us PySem.F.slot_set_iter d rM ?_ (PySem.F.args_set_iter_1 _));unfold Builtin.«frozenset.__iter__» Builtin.Frozenset.slot0 slotArgs;simp only[List.isEmpty_nil,Vw,TY,↓reduceIte,bind_assoc,Vj,WC];unfold Builtin.Frozenset.addrOf Builtin.Frozenset.sizeOf setEntries;refine KE (Tu (KE (Tu ?_)));simp only[bind_assoc];refine KE (UT a hd b (KE (Tu (KE (Tu ?_)))));refine KE ?_;unfold setDrawn;refine KE (UT a hd b ?_);dsimp only;refine KE (yb (Tu ?_));show wpAny _ _ (if(!byT w&&(!t.plain&&decide (es.size>1)))=true then _ else _) _ _ _;rw[c];simp only[Vw,W3,W4,TY,UI];refine KE (Tu ?_);refine KE (wpAny_setEpoch_of a hd b ?_);exact KE (Ux (Tu ⟨_,rfl,"set_iterator",_,⟨_,Tz _ rfl,rfl⟩,slot_setiter_next.lookup,h⟩))
def C1(a:s.TypeIs (.ref S) "set") (h:Q false s):wpAny (model prog w) A (Builtin.List.listLengthHint (.ref S)) Q E s:=by
 unfold Builtin.List.listLengthHint;refine KE (wpAny_specialOf a PySem.F.slot_set_len.lookup ?_);dsimp only;have b:splitId "set.__len__"=some ("set","__len__"):=by decide +kernel
 rw[b];dsimp only;refine KE (wpAny_isInstance a sub_set_self ?_);simp only[Vw,TY,UI];rw[Tv (by decide +kernel)];refine KE (WK a ?_);exact Tu h
def vW(r:nG s.heap S es ep t)(T:rD t es)(hs:t.place.size<=t.mask)(k:t.plain=true)(x:t.led=!byT w)(K:A.handled=none)(hz:es.size<=300)
 (h:∀h' tk,s.heap.objs.size<h'.objs.size->(∀b o,s.heap.get? b=some o->h'.get? b=some o)->Q ((jV w S ep es).toList.map (·.2)) {s with heap:=h',toks:=tk}):wpAny (model prog w) A (collect (.ref S)) Q E s:=by
 have L:=rD.fits T hs;obtain⟨o,y,hex,hd⟩:=r;have g:S<s.heap.objs.size:=TC y;unfold collect;refine KE (wpAny_runValue (Vl entry_proto_collect' (show wpAny _ _ (do again (.builtin "list.__iadd__" ⟨[<- newList [],.ref S],[]⟩)) _ _ s from ?_)));refine KE (wpAny_newList (Tu ⟨Code.quiet_builtin _ (by decide +kernel),Vl entry_list_iadd' ?_⟩));show wpAny _ _ (Builtin.List.listExtendWith (.ref s.heap.objs.size) (.ref S) (.ref s.heap.objs.size)) _ _ { s with heap:=s.heap.push (seqObj "list" #[] 0) };have j:(s.heap.push (seqObj "list" #[] 0)).get? S=some o:=RW _ y;have z:Shared.TypeIs { s with heap:=s.heap.push (seqObj "list" #[] 0) } (.ref S) "set":=⟨o,j,hex.1⟩;unfold Builtin.List.listExtendWith;refine KE (WK z ?_);have q1:Builtin.List.listSameRef (.ref s.heap.objs.size) (.ref S)=false:=by simp[Builtin.List.listSameRef,V2 g]
 have q2:(Value.type "set"==Value.type "list")=false:=by decide
 have M:(Value.type "set"==Value.type "tuple")=false:=by decide
 simp only[q1,q2,M,Bool.or_false,TY,UI];refine KE (yc ⟨o,j,hex,hd⟩ L k ?_);have B:Shared.TypeIs { s with heap:=(s.heap.push (seqObj "list" #[] 0)).push { cls:=.type "set_iterator",data:=.fields #[.int 0 0,.int 0 0,.ref S,.int es.size 0,.int ep 0] } } (.ref S) "set":=⟨o,RW _ j,hex.1⟩;refine KE (UJ (C1 B ?_));rw[Tv (by decide +kernel)];refine KE (WU ?_);have l:((s.heap.push (seqObj "list" #[] 0)).push { cls:=.type "set_iterator",data:=.fields #[.int 0 0,.int 0 0,.ref S,.int es.size 0,.int ep 0] }).get? s.heap.objs.size=some (seqObj "list" #[] 0):=RW _ (Tz _ rfl);refine KE (show wpAny _ _ (updateSeq s.heap.objs.size (·.push .none) >>= λ_=>updateSeq s.heap.objs.size (·.pop)) _ _ _ from ?_);refine KE (Wv l rfl ?_);have m:=UR (Obj.mapSeq (·.push Value.none)) l rfl;refine Wv (hz:=by seq_fits) m rfl ?_;have C:=UR (Obj.mapSeq (·.pop)) m rfl;generalize N:(((s.heap.push (seqObj "list" #[] 0)).push { cls:=.type "set_iterator",data:=.fields #[.int 0 0,.int 0 0,.ref S,.int es.size 0,.int ep 0] }).update s.heap.objs.size (Obj.mapSeq (·.push Value.none))).update s.heap.objs.size (Obj.mapSeq (·.pop))=D at *;have n:∀b o,b≠s.heap.objs.size->((s.heap.push (seqObj "list" #[] 0)).push { cls:=.type "set_iterator",data:=.fields #[.int 0 0,.int 0 0,.ref S,.int es.size 0,.int ep 0] }).get? b=some o->D.get? b=some o:=λb o J e=>by rw[<- N];exact(Ud _ _ (UM J)).trans ((Ud _ _ (UM J)).trans e)
 have old:∀b o,s.heap.get? b=some o->D.get? b=some o:=λb o e=>n b o (T5 (TC e)) (RW _ (RW _ e));have d:(s.heap.push (seqObj "list" #[] 0)).objs.size=s.heap.objs.size+1:=size_push' _ _;have G:D.get? (s.heap.objs.size+1)=some { cls:=.type "set_iterator",data:=.fields #[.int 0 0,.int 0 0,.ref S,.int es.size 0,.int ep 0] }:=n _ _ (by lia) (by rw[<- d];exact Tz _ rfl);refine Tu ⟨VW PySem.F.plain_extend_loop _,?_⟩;show codeAny _ _ (.builtin "list.extend.loop" ⟨[.ref s.heap.objs.size,.ref (s.heap.push (seqObj "list" #[] 0)).objs.size,.ref s.heap.objs.size],[]⟩) _ _;rw[d];have W:Walks prog w A.in1 (s.heap.objs.size+1) [s.heap.objs.size+1,S] [s.heap.objs.size+1] es.size (λi v=>((jV w S ep es)[i]?).map (·.2)=some v) (λi h=>SetIt h (s.heap.objs.size+1) S (di w t i) i es.size ep/\nG h S es ep t):=rN (T5 (VP g)) (by simp[K]) T hs k x;refine codeAny_extend_loopS W.toS (by rw[Uj];lia) s.heap.objs.size (by simp only[TH,TU,Xs,not_or];exact⟨T5 (VB _),V2 g⟩) _ es.size 0 _ #[] _ rfl (Ul _) ⟨⟨_,G,rfl,rfl⟩,o,old S o y,hex,hd⟩ (by rw[C];rfl) (ItemsOf.nil _) λO a c q p f=>?_;obtain⟨h',g',d',H,I⟩:=O;have P:g'=s.gens:=q.gens;have R:d'=s.drawn:=q.drawn;have U:I=s.os:=q.os;subst P R U;refine KE (wpAny_load p ?_);have V:a.toList=(jV w S ep es).toList.map (·.2):=by
  apply WD
  intro i;by_cases u:i<a.size
  .have e1:a.toList[i]?=some a[i]:=by rw[Ui];simp[u]
   have e2:=f.2 i a[i] (by simp[u]);rw[e1,T3,Ui];exact e2.symm
  .rw[Vm (by simpa using Nat.le_of_not_lt u),Vm];rw[TN,UY,ml,<- f.1];exact Nat.le_of_not_lt u
 show wpAny _ _ (pure a.toList) _ _ _;rw[V];refine Tu (h h' H (TC p) λb o e=>q.heap b o ?_ (old b o e));have:=TC e;simp only[TH,TU,Xs,not_or];exact⟨T5 this,T5 (VP this)⟩
end
noncomputable def dj:List Int->List Int->Bool
 |[],[]=>false
 |[],_::_=>true
 |_::_,[]=>false
 |a::x,b::y=>if a=b then dj x y else decide (a<b)
theorem mo:∀a:List Int,dj a a=false
 |[]=>rfl
 |a::x=>by unfold dj;rw[Tv rfl];exact mo x
theorem ub:∀a b c:List Int,dj a b=true->dj b c=true->dj a c=true
 |[],[],_,h,_=>by cases h
 |[],_::_,[],_,h=>by cases h
 |[],_::_,_::_,_,_=>rfl
 |_::_,[],_,h,_=>by cases h
 |_::_,_::_,[],_,h=>by cases h
 |a::x,b::y,c::z,h1,d=>by
  unfold dj at h1 d ⊢;by_cases e1:a=b
  .subst e1;rw[Tv rfl]at h1;by_cases e2:a=c
   .subst e2;rw[Tv rfl]at d ⊢;exact ub x y z h1 d
   .rw[TJ e2]at d ⊢;exact d
  .grind
theorem uc:∀a b:List Int,a≠b->dj a b=true\/dj b a=true
 |[],[],h=>(h rfl).elim
 |[],_::_,_=>.inl rfl
 |_::_,[],_=>.inr rfl
 |a::x,b::y,h=>by
  unfold dj;by_cases e:a=b
  .subst e;rw[Tv rfl,Tv rfl];exact uc x y λz=>h (by rw[z])
  .grind
section
variable{prog:Xv}{w:World}{A:Xx}{E:Xw->Xt->Prop}{s:Xt}
theorem zi:∀{a b:List Int}{xs f:List Xw}(i:Nat),ItemsAre (aF prog w) (iK a) xs->ItemsAre (aF prog w) (iK b) f->Q (dj a b) s->PySem.W.KatLex prog w A true (decide (xs.length<f.length)) Q (xs.zip f) i s
 |[],[],_,_,i,c,d,h=>by cases c;cases d;exact h
 |[],_::_,_,_,i,c,d,h=>by
  cases c;cases d with
  |cons h1 g=>exact PySem.W.kat_nil h
 |_::_,[],_,_,i,c,d,h=>by
  cases d;cases c with
  |cons h1 g=>exact PySem.W.kat_nil h
 |a::x,b::y,_,_,i,c,d,h=>by
  cases c with
  |@cons _ o _ l h1 j=>
   cases d with
   |@cons _ v2 _ m g k=>
    obtain⟨p,rfl⟩:=o8 h1;obtain⟨q,rfl⟩:=o8 g;rw[Wr];refine PySem.W.kat_cons (wpAny_eqBool_int ?_);unfold dj at h;by_cases e:a=b
    .subst e;rw[Tv rfl]at h;rw[beq_self_eq_true];refine PySem.W.kat_yes ?_;have:=zi (i+1) j k h;simpa using this
    .rw[TJ e]at h;have n:(a==b)=false:=by grind
     rw[n];refine PySem.W.kat_no ?_;cases i with
     |zero=>exact oneLt_int h
     |succ i=>exact PySem.W.kat_one _ _ (lt_int h)
structure ss(prog:Xv) (w:World) (h:Heap) (xs:List jI):Prop where
 is:∀x∈xs,(tK prog w).is h (iK x.1) x.2
 ne:∀x∈xs,x.1≠[]
 nd:(xs.map (·.1)).Nodup
noncomputable def valsT(xs:List jI):List Xw:=xs.map λx=>Value.ref x.2
noncomputable def hI(xs:List jI)(i:Nat):List Int:=((xs[i]?).getD ([],0)).1
def F_(t:ss prog w s.heap xs):Lt xs.length λi j=>dj (hI xs i) (hI xs j) where
 Tq:=λi=>mo _
 tr:=λi j k=>ub _ _ _
 Tr:=λi j hi hj e=>uc _ _ λz=>by
  have gi:hI xs i=(xs.map (·.1))[i]'(by simpa using hi):=by simp[hI,hi]
  have gj:hI xs j=(xs.map (·.1))[j]'(by simpa using hj):=by simp[hI,hj]
  rw[gi,gj]at z;rcases Wt e with q|q
  .exact T6.mp t.nd i j (by simpa using hi) (by simpa using hj) q z
  .exact T6.mp t.nd j i (by simpa using hj) (by simpa using hi) q z.symm
def C2(t:ss prog w s.heap xs):F5 xs.length (λi j=>dj (hI xs i) (hI xs j)) (kas_ask prog w A (tuples' true) (valsT xs)) s:=by intro i j C b c h;have one:∀k,k<xs.length->∃x,(valsT xs).getD k Value.none=.ref x.2/\hI xs k=x.1/\x∈xs:=λk a=>⟨xs[k],by simp[valsT,a],by simp[hI,a],Xl a⟩;obtain⟨x,ex,d,e⟩:=one i b;obtain⟨y,f,g,l⟩:=one j c;unfold kas_ask;rw[ex,f];obtain⟨u,ix,nx,m,v,n,o⟩:=t.is x e;obtain⟨z,B,D,p,F,q,r⟩:=t.is y l;refine PySem.W.kat_lt m n p q ?_;have h:C (dj (hI xs i) (hI xs j)) s:=h;rw[d,g]at h;have:=zi (A:=A) 0 o r h;simpa using this
theorem vX:∀{xs:List jI},(∀x∈xs,(tK prog w).is h (iK x.1) x.2)->(∀x∈xs,x.1≠[])->∃fs:List Xw,PySem.W.KatTups h (valsT xs) fs/\fs.length=xs.length/\∀v∈fs,∃i t,v=Value.int i t
 |[],_,_=>⟨[],trivial,rfl,λv g=>nomatch g⟩
 |x::xs,h1,j=>by
  obtain⟨fs,a,b,c⟩:=vX (λy e=>h1 y (TB _ e)) λy e=>j y (TB _ e);obtain⟨o,ix,nx,m,p,q,f⟩:=h1 x TF;have d:=j x TF;obtain⟨k,r⟩:=x;dsimp only at d f m;cases k with
  |nil=>exact(d rfl).elim
  |cons n ns=>
   generalize u:ix.toList=l at f;cases f with
   |@cons _ v _ vs q1 q2=>
    obtain⟨t,rfl⟩:=o8 q1;refine⟨.int n t::fs,⟨⟨r,o,ix,nx,rfl,m,p,q,?_⟩,a⟩,by simp[b],λv g=>?_⟩
    .rw[<- Ui,u];rfl
    .grind
def AQ(t:ss prog w s.heap xs)(d:0<xs.length)(h:Q (tuples' true) s):wpAny (model prog w) A (keyKind' (valsT xs).toArray) Q E s:=by
 obtain⟨fs,a,b,c⟩:=vX t.is t.ne;refine PySem.W.kat_kind (T:=.type "int") a (by lia) (λv e=>?_) (by decide) ?_
 .obtain⟨i,t,rfl⟩:=c v e;exact λA Q E s k q=>Tu q
 .have:(Value.type "int" != Value.type "tuple")=true:=by decide
  rw[this];exact h
end
noncomputable def jW{α:Type}(d:α)(xs:List α)(i:Nat):α:=(xs[i]?).getD d
section
variable{α β:Type}{d:α}{xs:List α}{p:Array Nat}
def p8(d:α)(xs:List α):(List.range xs.length).map (jW d xs)=xs:=by
 apply WD
 intro i;rw[T3];by_cases h:i<xs.length
 .rw[List.getElem?_range h,UP h];simp[jW,h]
 .rw[Vm (by grind),Vm (by grind)];rfl
def sQ(d:α)(pm:Pm xs.length p):(p.toList.map (jW d xs)).Perm xs:=by have:=List.Perm.map (jW d xs) pm;rw[p8]at this;exact this
def zj{r:α->α->Bool}(pm:Pm xs.length p)(so:So (λi j=>r (jW d xs i) (jW d xs j)) p xs.length):(p.toList.map (jW d xs)).Pairwise λx y=>r x y=true:=by
 rw[VN,T6];intro i j g h b;have c:i<p.size:=by grind
 have a:j<p.size:=by grind
 have:=so i j b (by rw[<- pm.size];exact a);dsimp only at this;have e:cF p i=p.toList[i]:=by simp[cF,Array.getD,c]
 have f:cF p j=p.toList[j]:=by simp[cF,Array.getD,a]
 rw[e,f]at this;exact this
def vY{f:α->β}{e:β}(d:α)(pm:Pm xs.length p):(p.toList.map λi=>(xs.map f).getD i e)=(p.toList.map (jW d xs)).map f:=by rw[T7];refine U0 λi a=>?_;have a:i<xs.length:=Ur.mp (pm.mem_iff.mp a);simp[jW,a]
end
section
variable{prog:Xv}{w:World}{A:Xx}{E:Xw->Xt->Prop}{s:Xt}
def ss.off(t:ss prog w h xs)(f:h.get? a=some o)(g:o.cls=.type "list") (k:∀b o,b≠a->h.get? b=some o->h'.get? b=some o):ss prog w h' xs:=by refine⟨λx i=>?_,t.ne,t.nd⟩;obtain⟨d,ix,nx,h1,c,r⟩:=t.is x i;refine⟨d,ix,nx,k x.2 d (λe=>?_) h1,c,r⟩;rw[e,f]at h1;cases h1;rw[g]at c;exact absurd c (by decide)
def vZ{a:Addr}{n:Nat}{vs:List Xw}{κ:SortKind}{lt:Nat->Nat->Bool}{P:PySem.Fin->Xt->Prop}(m:s.heap.get? a=some (seqObj "list" vs.toArray n)) (B:vs.length<64)
 (C:∀H,(∀b o,b≠a->s.heap.get? b=some o->H.get? b=some o)->2<=vs.length->(∀Q,Q κ {s with heap:=H}->wpAny (model prog w) A (keyKind' vs.toArray) Q E {s with heap:=H})/\Lt vs.length lt/\F5 vs.length lt (kas_ask prog w A κ vs) {s with heap:=H})
 (h:∀p h' c,Pm vs.length p->So lt p vs.length->h'.get? a=some (seqObj "list" (p.toList.map λi=>vs.getD i Value.none).toArray c)->(∀b o,b≠a->s.heap.get? b=some o->h'.get? b=some o)->P (.done (.ret .none)) {s with heap:=h'}) :
 wpAny (model prog w) A (Builtin.«list.sort» ⟨[.ref a],[]⟩) P E s:=by
 rw[list_sort_plain];refine KE (listItems_at m rfl (KE (listUpdate_at m rfl ?_ (by rw[TR,Uj];lia) (Ul _))));obtain⟨e1,q⟩ : ∃e1,(s.heap.update a (Obj.mapSeq λ_=>#[])).get? a=some (seqObj "list" #[] e1):=⟨_,get?_update_seq m (λ_=>#[])⟩;refine KE (seqEpoch_at q rfl (KE (wpAny_newTuple (KE (wpAny_newList (UJ ?_) (Ul _))) (by show vs.length<=_;rw[Uj];lia))));have k:∀b o,b≠a->s.heap.get? b=some o->(((s.heap.update a (Obj.mapSeq λ_=>(#[]:Array Xw))).push (seqObj "tuple" vs.toArray 0)).push (seqObj "list" #[] 0)).get? b=some o:=λb o y e=>RW _ (RW _ ((Ud _ _ (UM y)).trans e));have d:(((s.heap.update a (Obj.mapSeq λ_=>(#[]:Array Xw))).push (seqObj "tuple" vs.toArray 0)).push (seqObj "list" #[] 0)).get? a=some (seqObj "list" #[] e1):=RW _ (RW _ q);show wpAny (model prog w) A _ P E { s with heap:=((s.heap.update a (Obj.mapSeq λ_=>(#[]:Array Xw))).push (seqObj "tuple" vs.toArray 0)).push (seqObj "list" #[] 0) };generalize(((s.heap.update a (Obj.mapSeq λ_=>(#[]:Array Xw))).push (seqObj "tuple" vs.toArray 0)).push (seqObj "list" #[] 0))=r at d k;dsimp only;have t:∀(p:Array Nat)(out:Array Xw),Pm vs.length p->So lt p vs.length->out=(p.toList.map λi=>vs.getD i Value.none).toArray->P (.done (.ret .none)) {s with heap:=r.update a (Obj.mapSeq λ_=>out)}:=λp out D F m=>by subst m;exact h p _ _ D F (get?_update_seq d λ_=>(p.toList.map λi=>vs.getD i Value.none).toArray) λb o y e=>(Ud _ _ (UM y)).trans (k b o y e)
 by_cases u:vs.toArray.size<2
 .rw[Tv u,Tv u];refine KE (Tu ?_);rw[StateT.run_pure];have l:vs.length<2:=by grind
  have j:Array.map (λx:Keyed=>x.2) (vs.toArray.zip vs.toArray)=vs.toArray:=by apply Array.ext';simp[List.map_snd_zip]
  refine KE (Tu ?_);dsimp only;refine KE (seqEpoch_at d rfl (KE (listUpdate_at d rfl ?_ (Ul _) ?_)))
  .simp only[WC,TY,UI];refine Tu (t (List.range vs.length).toArray _ (Vy _) (λa b h1 u=>by lia) (j.trans ?_));rw[show(λi=>vs.getD i Value.none)=jW Value.none vs from funext λi=>by simp[jW]];show _=(List.map _ (List.range vs.length)).toArray;rw[p8]
  .show(Array.map (λx:Keyed=>x.2) (vs.toArray.zip vs.toArray)).size<=_;rw[j,TR,Uj];lia
 .rw[TJ u,TJ u];have l:2<=vs.length:=by grind
  obtain⟨k1,k2,k3⟩:=C r k l;refine KE (k1 _ ?_);refine KE (U9 (PySem.W.kat_run (s:={s with heap:=r}) (Q:=λf v=>v={s with heap:=r}/\∃p:Array Nat,Pm vs.length p/\So lt p vs.length/\arrOf f=p.map (PySem.W.kas_item (vs.toArray.zip vs.toArray))/\failedOf f=none)
   (G:=λp v=>v={s with heap:=r}/\Pm vs.length p/\So lt p vs.length) rfl (by lia) (by lia) (λp f v _ I J g=>⟨g.1,p,g.2.1,g.2.2,I,J⟩) ?_) ?_ λ_ _ e=>e)
  .exact F6 k2 k3 l λp pm so=>⟨rfl,pm,so⟩
  .rintro⟨⟨⟩,f⟩ v ⟨rfl,p,pm,so,z,K⟩;dsimp only;rw[PySem.W.kat_snds rfl z];refine KE (seqEpoch_at d rfl (KE (listUpdate_at d rfl ?_ (Ul _) ?_)))
   .rw[K];simp only[WC,TY,UI];exact Tu (t _ _ pm so rfl)
   .have:=pm.size;simp[this];rw[Uj];lia
def AR(m:s.heap.get? a=some (seqObj "list" (valsT xs).toArray n)) (t:ss prog w s.heap xs) (u:xs.length<64)
 (h:∀f h' c,f.Perm xs->f.Pairwise (λx y=>dj x.1 y.1=true)->h'.get? a=some (seqObj "list" (valsT f).toArray c)->(∀b o,b≠a->s.heap.get? b=some o->h'.get? b=some o)->P (.done (.ret .none)) {s with heap:=h'}) :
 wpAny (model prog w) A (Builtin.«list.sort» ⟨[.ref a],[]⟩) P E s:=by
 have d:(valsT xs).length=xs.length:=by simp[valsT]
 refine vZ (κ:=tuples' true) (lt:=λi j=>dj (hI xs i) (hI xs j)) m (by lia) (λH g v=>?_) λp h' c pm so e k=>?_
 .have l:ss prog w H xs:=t.off m rfl g;rw[d];exact⟨λQ q=>AQ (s:={s with heap:=H}) l (by lia) q,F_ (s:={s with heap:=H}) l,C2 (s:={s with heap:=H}) l⟩
 .rw[d]at pm so;exact h (p.toList.map (jW ([],0) xs)) h' c (sQ _ pm) (zj (r:=λx y=>dj x.1 y.1) pm so) (by rw[e];unfold valsT;rw[vY ([],0) pm]) k
def mq(prog:Xv)(w:World)(N:Nat):Prop:=∀(A:Xx)(E:Xw->Xt->Prop)(s:Xt)(a:Addr)(n:Nat)(xs:List jI)(P:PySem.Fin->Xt->Prop),s.heap.get? a=some (seqObj "list" (valsT xs).toArray n)->ss prog w s.heap xs->xs.length<=N->
 (∀d h' c,d.Perm xs->d.Pairwise (λx y=>dj x.1 y.1=true)->h'.get? a=some (seqObj "list" (valsT d).toArray c)->(∀b o,b≠a->s.heap.get? b=some o->h'.get? b=some o)->P (.done (.ret .none)) {s with heap:=h'})->wpAny (model prog w) A (Builtin.«list.sort» ⟨[.ref a],[]⟩) P E s
def zk:mq prog w 63:=λ_ _ _ _ _ _ _ a t hz h=>AR a t (by lia) h
end
section
variable{prog:Xv}{w:World}{A:Xx}{E:Xw->Xt->Prop}{s:Xt}{κ μ:Type}{ent:κ×μ->Int×Xw}{its:List (κ×μ)}
theorem v4:∀(l:List (Int×Xw)),(∀e∈l,∃x∈its,e=ent x)->∃a:List (κ×μ),l=a.map ent/\∀z∈a,z∈its
 |[],_=>⟨[],rfl,λz hz=>nomatch hz⟩
 |e::l,h=>by
  obtain⟨x,b,rfl⟩:=h e TF;obtain⟨a,h1,c⟩:=v4 l λe d=>h e (TB _ d);exact⟨x::a,by rw[h1];rfl,λz hz=>by
   rcases TH.mp hz with rfl|hz
   .exact b
   .exact c z hz⟩
structure xy(lt:κ->κ->Prop) (its ys:List (κ×μ)):Prop where
 sub:∀y∈ys,y∈its
 all:∀x∈its,∃y∈ys,y.1=x.1
 pw:ys.Pairwise λx y=>lt x.1 y.1
def Kl(prog:Xv)(w:World)(f:Heap)(ent:κ×μ->Int×Xw)(lt:κ->κ->Prop)(its:List (κ×μ)) (N:Nat):Prop:=∀(A:Xx)(E:Xw->Xt->Prop)(s:Xt)(a:Addr)(n:Nat)(d:List (κ×μ))(P:PySem.Fin->Xt->Prop),(∀b o,f.get? b=some o->s.heap.get? b=some o)->s.heap.get? a=some (seqObj "list" (d.map λz=>(ent z).2).toArray n)->(∀z∈d,z∈its)->(d.map (·.1)).Nodup->d.length<=N->
 (∀(e:List (κ×μ)) h' c,e.Perm d->e.Pairwise (λx y=>lt x.1 y.1)->h'.get? a=some (seqObj "list" (e.map λz=>(ent z).2).toArray c)->(∀b o,b≠a->s.heap.get? b=some o->h'.get? b=some o)->P (.done (.ret .none)) {s with heap:=h'})->wpAny (model prog w) A (Builtin.«list.sort» ⟨[.ref a],[]⟩) P E s
def mr(sa:SetAt w s.heap S es)(v:jR ent es its)(un:F8 ent its)(I:A.handled=none)(hN:N<=300)(hs:Kl prog w s.heap ent lt its N)(hz:its.length<=N)
 (h:∀(f:List (κ×μ)) h' tk l c,xy lt its f->f.length<=N->s.heap.objs.size<=l->h'.get? l=some (seqObj "list" (f.map λz=>(ent z).2).toArray c)->(∀b o,s.heap.get? b=some o->h'.get? b=some o)->Q (.ref l) {s with heap:=h',toks:=tk}) :
 wpAny (model prog w) A (call (.builtin "sorted") [.ref S]) Q E s:=by
 obtain⟨o,k,t,J,hex,hd,T,sp,n,p⟩:=sa;have q:=vV w S k es;have K:=v.sz;obtain⟨d,j,g⟩:=v4 (ent:=ent) (its:=its) (jV w S k es).toList λe L=>v.el e (q.mem_iff.mp L);have M:(jV w S k es).toList.map (·.2)=d.map λz=>(ent z).2:=by rw[j,T7];rfl
 have r:d.length=es.size:=by have:=Vv List.length j;rw[TN,UY,ml]at this;exact this.symm
 have nd:(d.map (·.1)).Nodup:=by have pw:=(q.pairwise_iff (λ{x y} u a b e1 e2 O P z=>u b a e2 e1 P O z.symm)).mpr v.pw;rw[j,VN]at pw;unfold List.Nodup;rw[VN];exact VO (λ{a b} ha R B=>B a b rfl rfl (g a ha) (g b R)) pw
 refine Calls.call_function_entry kind_sorted plain_sorted entry_sorted (args_sorted1 _) ?_;unfold Builtin.«sorted»;refine KE (m:=checkCount "sorted" 1 1 _) (Tu (KE (vW ⟨o,J,hex,hd⟩ T (iP sp) n p (by simp[I]) (by lia) λh1 tk1 g1 k1=>?_)));rw[M];refine KE (wpAny_newList ?_ (by rw[TN,r,Uj];lia));have i:(h1.push (seqObj "list" (d.map λz=>(ent z).2).toArray 0)).get? h1.objs.size=some (seqObj "list" (d.map λz=>(ent z).2).toArray 0):=Tz _ rfl;have F:∀b o,s.heap.get? b=some o->(h1.push (seqObj "list" (d.map λz=>(ent z).2).toArray 0)).get? b=some o:=λb o e=>RW _ (k1 b o e);have ge:s.heap.objs.size<=h1.objs.size:=WH g1;refine KE (UJ (Us slot_list_sort ⟨_,i,rfl⟩ entry_list_sort (hs _ _ { s with heap:=h1.push (seqObj "list" (d.map λz=>(ent z).2).toArray 0),toks:=tk1 } _ _ d _ F i g nd (by lia) λf U V C W D k2=>⟨_,rfl,?_⟩) (args_list_sort _)));refine Tu ⟨_,rfl,h f U tk1 _ V ⟨λy X=>g y (C.mem_iff.mp X),λx Y=>?_,W⟩ (by rw[C.length_eq];lia) ge D λb o e=>k2 b o (λz=>?_) (F b o e)⟩
 .obtain⟨y,Z,y2,y3⟩:=v.all x Y;have G:=q.mem_iff.mpr y3;rw[j]at G;obtain⟨z,H,z2⟩:=TV.mp G;exact⟨z,C.mem_iff.mpr H,(un z (g z H) y Z z2).trans y2⟩
 .subst z;exact absurd (TC e) (Nat.not_lt.mpr ge)
end
def TupsIn(H:Hp):List V->List jI->Prop:=Paired λv x=>v=.ref x.2/\H x.2=some (.tup ((iK x.1).map kV))
theorem TupsIn.get(t:TupsIn H vs its)(d:Vals vs us):its.length=us.length/\(∀(i:Nat)(v:Xw),us[i]?=some v->∃x:jI,its[i]?=some x/\v=.ref x.2)/\∀x∈its,H x.2=some (.tup ((iK x.1).map kV)):=by
 unfold TupsIn at t;induction t generalizing us with
 |nil=>cases d;exact⟨rfl,λi v e=>by simp at e,λx hx=>nomatch hx⟩
 |@cons v y vs its q t f=>
  cases d with
  |@cons _ u _ us r s=>
   obtain⟨a,b,c⟩:=f s;obtain⟨rfl,q⟩:=q;obtain rfl:u=Value.ref y.2:=r;refine⟨by simp[a],λi v e=>?_,λx hx=>?_⟩
   .cases i with
    |zero=>simp at e;exact⟨y,rfl,e.symm⟩
    |succ i=>exact b i v e
   .rcases TH.mp hx with rfl|hx
    .exact q
    .exact c x hx
section
variable{X:Cx}
def AS(g:X.calm=true)(D:X.A.units+64<cLine):CallR X (.type "set") (λxs H Q=>∃l vs its,xs=[.ref l]/\Rd H l (.lst vs)/\TupsIn H vs its/\vs.length<=300/\
 ∀p es,H p=none->jR (eT X.prog X.w) es its->Q (.ref p) (aP H p (.ext λh=>SetAt X.w h p es))):=by
 intro aa s σ H xs us Q I r h;obtain⟨l,vs,its,rfl,j,m,hz,q⟩:=h;obtain⟨u,rfl,t⟩:=eF r;obtain rfl:u=Value.ref l:=t;obtain⟨_,us,n,d,y⟩:=(show ObjOk X.prog X.w H s.heap l (.lst vs)from j.ok I.aS);obtain⟨g1,g2,g3⟩:=m.get d;have c:=λx z=>eV I.aS (g3 x z);refine sO (ent:=eT X.prog X.w) (I.ok.hd g) y (its:=its) (by grind) (by rw[TR,<- d.length];exact hz) (λi v e=>g2 i v (by grind)) (NR c) (F9 (by show X.A.units+1+1+1<cLine;lia) c) λh' tk es f v B=>?_;have C:H s.heap.objs.size=none:=I.aS.fresh (Tt _);refine⟨.ref s.heap.objs.size,_,I.laid (a:=s.heap.objs.size) (o:=.ext λh=>SetAt X.w h s.heap.objs.size es) (t':=tk) (λb o e=>B b o (TC e) e) (Tt _) ?_,rfl,q _ es C v⟩;exact⟨f,(let ⟨o,_,_,e,_⟩:=f;⟨o,e⟩),λh1 E hs k=>SetAt.keep hs k⟩
def ud(m:X.calm=true)(t:N<=300)(hs:mq X.prog X.w N):CallR X (.builtin "sorted") (λxs H Q=>∃p es its,xs=[.ref p]/\H p=some (.ext λh=>SetAt X.w h p es)/\jR (eT X.prog X.w) es its/\(∀x∈its,H x.2=some (.tup ((iK x.1).map kV)))/\(∀x∈its,x.1≠[])/\its.length<=N/\
 ∀l b,H l=none->xy (λx y=>dj x y=true) its b->Q (.ref l) (aP H l (.lst (b.map λy=>.ref y.2)))):=by
 intro aa s σ H xs us Q I r h;obtain⟨p,es,its,rfl,z,v,B,g,hz,q⟩:=h;obtain⟨u,rfl,C⟩:=eF r;obtain rfl:u=Value.ref p:=C;obtain⟨D,_,_⟩:=(show ObjOk X.prog X.w H s.heap p (.ext λh=>SetAt X.w h p es)from I.aS p _ z);have d:=λx e=>eV I.aS (B x e);refine mr D v (NR d) (I.ok.hd m) t (lt:=λx y=>dj x y=true) (λA E s a n F P G J j nd hz h=>hs A E s a n F P J ⟨λx e=>o5 (d x (j x e)) G,λx e=>g x (j x e),nd⟩ hz h) hz λb h' tk l c so i f k K=>?_;refine⟨.ref l,_,I.laid (a:=l) (o:=.lst (b.map λy=>.ref y.2)) (t':=tk) K f ⟨by rw[TN,Uj];lia,_,c,?_,k⟩,rfl,q l b (I.aS.fresh f) so⟩;clear so k i;induction b with
 |nil=>exact .nil
 |cons y b L=>exact .cons rfl L
end
end L2
namespace L2
open PySem PySem.Spec PySem.Calls PyProof.Rows ST
section
def Ga(T:rD t es)(sp:lC t)(h:Int)(x:Xw):∃j,j∉t.place.toList/\j<=t.mask/\Rea t.mask (·∈ t.place.toList) h j/\layNew t es h x=(SetTable.insertAt es (t.put j).2 (h,x),(t.put j).1,false,false):=by
 have hs:=iP sp;have pr:=pW T.tb hs (λ_=>h+1) h (Va.st t.mask h);have c:t.probeStart h=st t.mask h:=rfl;generalize l:t.probe (λ_=>h+1) h (st t.mask h)=m at pr;cases pr with
 |ca n i o e q b=>exact absurd q (by lia)
 |em n e b=>
  have f:Rea t.mask (·∈ t.place.toList) h (it t.mask n (st t.mask h)).j:=⟨n,rfl,λk p=>by obtain⟨i,o,q,_⟩:=b k p;show _∈t.place.toList;rw[<- q];simp⟩;have a:(it t.mask n (st t.mask h)).j<=t.mask:=((Va.st t.mask h).it).SR;refine⟨_,e,a,f,?_⟩;obtain⟨r,em,u⟩:=x8 T e a (v:=x) f;have s:(t.put (it t.mask n (st t.mask h)).j).2<=es.size:=by rw[o7,<- T.len];exact(dg _ T.tb.xx).1
  have d:(t.put (it t.mask n (st t.mask h)).j).1.place.size<=(t.put (it t.mask n (st t.mask h)).j).1.mask:=by grind [lC]
  have g:=rD.fits r d;unfold layNew SetTable.freeSlot;rw[c,l];dsimp only[Option.getD,Option.isSome];unfold SetTable.orStandIn;rw[Tv g,g];rfl
def AT(d:xB m)(f:SetTable.sizeAbove n=m+1)(c:es.size<=m):∃b t',relayAll t es n=(b,t',false)/\Laid m es b t'/\t'.led=t.led/\t'.plain=t.plain:=by
 obtain⟨t',a,e,L,h1,g,h⟩:=vT d es c t.finger (t.movedTo m) t.led t.plain;refine⟨_,t',?_,L,h1,g⟩;have i:t.relaid (es.map (·.1)) n=some (t',a):=by unfold SetTable.relaid;rw[f];exact e
 unfold relayAll;rw[i];dsimp only;have j:coversAll a es.size=true:=by unfold coversAll;exact List.isPerm_iff.mpr h
 have k:t'.fits (a.filterMap (es[·]?)).size=true:=rD.fits L.xn (by rw[L.xn.len,L.mask,L.size];exact c);rw[j,k];rfl
end
section
variable{prog:Xv}{w:World}{A:Xx}{E:Xw->Xt->Prop}{s:Xt}
def Gb(N:SetAt w s.heap a es)(el:ElemsOf (intKind prog w) es.toList)(hz:es.size+1<=300)
 (h1:∀tk,s.toks<=tk->(∃e∈es.toList,(intKind prog w).is i e.2=true)->Q false {s with toks:=tk})
 (F:∀tk h' c,s.toks<=tk->(∀e∈es.toList,(intKind prog w).is i e.2=false)->Heap.SameBut a s.heap h'->SetAt w h' a c->oR es c ((intKind prog w).hash i,.int i t0)->Q true {s with heap:=h',toks:=tk}) :
 wpAny (model prog w) A (setAdd a (.int i t0)) Q E s:=by
 obtain⟨o,ep,t,q,hex,hd,T,sp,r,u⟩:=N;have G:=rD.fits T (iP sp);have H:=intKind_is prog w i t0;have n:(Value.int i t0).scannable=true:=rfl;unfold setAdd;refine UJ ?_;refine KE ((intKind prog w).pyHash (k:=i) H ?_);have f:s.toks<=s.toks+1:=Nat.le_succ _;generalize s.toks+1=tk at f;unfold setAddHashed setAddHashedIn;refine UJ (KE (UT (s:={s with toks:=tk}) q hd G ?_));dsimp only;rw[byScan_of n (by unfold scanBound;lia) el];simp only[Vd];unfold setAddByScan;refine KE ?_;refine KE (WU ?_);refine KE (wpAny_setScan_of (s:={s with toks:=tk}) H q hd G el ?_);cases I:List.findIdx? (λe=>(intKind prog w).is i e.2) es.toList with
 |some j=>dsimp only;obtain⟨x,y,_⟩:=List.findIdx?_eq_some_iff_getElem.mp I;exact Tu (Tu (h1 tk f ⟨_,Xl x,y⟩))
 |none=>
  dsimp only;have h:∀e∈es.toList,(intKind prog w).is i e.2=false:=λe O=>by have:=List.findIdx?_eq_none_iff.mp I e O;simpa using this
  obtain⟨j,x,z,P,p⟩:=Ga T sp ((intKind prog w).hash i) (.int i t0);obtain⟨J,em,K⟩:=x8 T x z (v:=Value.int i t0) P;have d:(t.put j).1.plain=true:=by rw[mj T.tb];exact r
  have l:(t.put j).1.led=!byT w:=by rw[mj T.tb];exact u
  rw[p];dsimp only;refine KE (show wpAny _ _ (pure ()) _ _ _ from Tu ?_);rw[d];simp only[Vd];rw[hashByValue_scannable 8 n];refine KE (Tu ?_);rw[show plainKind (Value.int i t0)=true from rfl];simp only[Vd];have R:(t.put j).2<=es.size:=by rw[o7,<- T.len];exact(dg j T.tb.xx).1
  have g:=sN es (t.put j).2 ((intKind prog w).hash i,Value.int i t0) R;refine KE (WB (s:={s with toks:=tk}) q hd ?_ (by rw[g.size,Uj];lia));obtain⟨o1,q1,q2,B⟩:=kW (SetTable.insertAt es (t.put j).2 ((intKind prog w).hash i,Value.int i t0)) (t.put j).1 q hex hd;have M:=Uu s.heap a (Obj.putSet (SetTable.insertAt es (t.put j).2 ((intKind prog w).hash i,Value.int i t0)) (t.put j).1);have fill:(t.put j).1.fill=es.size+1:=by unfold SetTable.fill;rw[J.tb.Nx,K,T.len];rfl
  by_cases b:(t.put j).1.tooFull=true
  .rw[b];simp only[Bool.not_false,WT,Vd];unfold SetTable.tooFull at b;rw[fill,em]at b;have b:(es.size+1)*5>=t.mask*3:=by simpa using b
   have C:es.size*5<t.mask*3:=by rw[<- T.len];exact sp
   obtain⟨m,S,U,V⟩:=pZ T.tb.fQ C b hz;rw[g.size];obtain⟨c,t',D,L,W,X⟩:=AT (t:=(t.put j).1) (es:=SetTable.insertAt es (t.put j).2 ((intKind prog w).hash i,Value.int i t0)) U S (by rw[g.size];lia);rw[D];dsimp only;refine KE (show wpAny _ _ (pure ()) _ _ _ from Tu ?_);refine KE (WB q1 B ?_ (by rw[L.size,g.size,Uj];lia));obtain⟨Y,Z,r2,r3⟩:=kW c t' q1 q2 B;refine Tu (Tu (F tk _ c f h (M.trans (Uu _ a _)) ⟨Y,_,_,Z,r2,r3,L.xn,?_,by rw[X];exact d,by rw[W];exact l⟩ (g.laid L)));unfold lC;rw[L.xn.len,L.mask,L.size,g.size];exact V
  .have b:(t.put j).1.tooFull=false:=by simpa using b
   rw[b];simp only[W4,TY,UI];refine Tu (Tu (F tk _ _ f h M ⟨o1,_,_,q1,q2,B,J,?_,d,l⟩ g));unfold SetTable.tooFull at b;unfold lC;rw[fill]at b;rw[K,T.len];simpa using b
end
section
variable{prog:Xv}{w:World}
noncomputable abbrev v5:=Int×Tok
noncomputable abbrev eI(prog:Xv)(w:World)(x:v5):Int×Xw:=((intKind prog w).hash x.1,.int x.1 x.2)
def isI:(intKind prog w).is k (.int j t)=true↔k=j:=by
 constructor
 .intro h;by_cases e:k=j
  .exact e
  .have a:=intKind_is prog w j t;exact absurd ((intKind prog w).inj _ _ _ h a) e
 .rintro rfl;exact intKind_is prog w k t
def NS:F8 (eI prog w) its:=λx _ y _ e=>by injection e with _ e;injection e
def Gc:zg prog w A hb S (eI prog w) its:=λx xs s es Q E o hs K h v hz h1 i=>by
 refine Gb h (λe c=>?_) hz (λtk t a=>h1 tk t ?_) λtk h' d t b j sa g=>i tk h' d t (λa=>?_) j sa g
 .obtain⟨y,_,rfl⟩:=v.el e c;exact⟨⟨y.1,intKind_is prog w y.1 y.2,rfl⟩,rfl⟩
 .obtain⟨e,c,k⟩:=a;obtain⟨y,f,rfl⟩:=v.el e c;exact⟨y,f,(isI.mp k).symm⟩
 .obtain⟨y,f,l⟩:=a;obtain⟨z,p,m,n⟩:=v.all y f;have:=b _ n;rw[isI.mpr (m.trans l).symm]at this;cases this
end
section
variable{X:Cx}
def NT(r:Vals (xs.map V.int) us):∃its:List v5,its.map (·.1)=xs/\us=its.map λz=>Value.int z.1 z.2:=by
 induction xs generalizing us with
 |nil=>cases r;exact⟨[],rfl,rfl⟩
 |cons x xs a=>
  cases r with
  |cons q h=>obtain⟨t,rfl⟩:=q;obtain⟨its,rfl,rfl⟩:=a h;exact⟨(x,t)::its,rfl,rfl⟩
def yd(f:X.calm=true):CallR X (.type "set") (λvs H Q=>∃l xs,vs=[.ref l]/\Rd H l (.lst (xs.map V.int))/\xs.length<=300/\∀p es its,H p=none->its.map (·.1)=xs->jR (eI X.prog X.w) es its->Q (.ref p) (aP H p (.ext λh=>SetAt X.w h p es))):=by
 intro aa s σ H vs us Q I r h;obtain⟨l,xs,rfl,g,hz,q⟩:=h;obtain⟨u,rfl,j⟩:=eF r;obtain rfl:u=Value.ref l:=j;obtain⟨_,us,n,m,t⟩:=(show ObjOk X.prog X.w H s.heap l (.lst (xs.map V.int))from g.ok I.aS);obtain⟨its,rfl,rfl⟩:=NT m;rw[TN]at hz;refine sO (ent:=eI X.prog X.w) (I.ok.hd f) t (its:=its) (by simp) (by simpa using hz) (λi v e=>?_) NS Gc λh' tk es c v y=>?_
 .simp only[List.getElem?_toArray,T3,UF]at e;obtain⟨x,h1,d⟩:=e;exact⟨x,h1,d.symm⟩
 .refine⟨.ref s.heap.objs.size,_,I.laid (a:=s.heap.objs.size) (o:=.ext λh=>SetAt X.w h s.heap.objs.size es) (t':=tk) (λb o e=>y b o (TC e) e) (Tt _) ?_,rfl,q _ es its (I.aS.fresh (Tt _)) rfl v⟩;exact⟨c,(let ⟨o,_,_,e,_⟩:=c;⟨o,e⟩),λh1 d hs k=>SetAt.keep hs k⟩
end
noncomputable def jX(a:List v5):List Xw:=a.map λz=>Value.int z.1 z.2
section
variable{prog:Xv}{w:World}{A:Xx}{E:Xw->Xt->Prop}{s:Xt}
theorem v6:∀a:List v5,IntsAre (jX a) (a.map (·.1))
 |[]=>.nil
 |z::a=>.cons _ _ (v6 a)
def AU{P:PySem.Fin->Xt->Prop}(u:s.heap.get? a=some (seqObj "list" (jX zs).toArray n)) (nd:(zs.map (·.1)).Nodup) (hz:zs.length<=63)
 (h:∀t h' c,t.Perm zs->t.Pairwise (λx y=>x.1<y.1)->h'.get? a=some (seqObj "list" (jX t).toArray c)->(∀b o,b≠a->s.heap.get? b=some o->h'.get? b=some o)->P (.done (.ret .none)) {s with heap:=h'}) :
 wpAny (model prog w) A (Builtin.«list.sort» ⟨[.ref a],[]⟩) P E s:=by
 have d:(jX zs).length=zs.length:=by simp[jX]
 have at_:∀k (m:k<zs.length),jW (0,0) zs k=zs[k]:=λk m=>by simp[jW,m]
 refine vZ (κ:=oneType') (lt:=λi j=>decide ((jW (0,0) zs i).1<(jW (0,0) zs j).1)) u (by lia) (λH v B=>⟨λQ q=>?_,⟨λi=>by simp,λi j k=>by grind,λi j g l e=>?_⟩,λi j C g l q=>?_⟩) λp h' c pm so e k=>?_
 .have f:keyKind' (jX zs).toArray=pure oneType':=by
   match zs,(show 2<=zs.length by lia)with
   |z1::z::r,_=>exact keyKind_ints (v6 (z1::z::r))
  rw[f];exact Tu q
 .rw[d]at g l;rw[at_ i g,at_ j l];rcases Wt e with q|q
  .have:=T6.mp nd i j (by grind) (by grind) q;grind
  .have:=T6.mp nd j i (by grind) (by grind) q;grind
 .rw[d]at g l;unfold kas_ask;have one:∀k (m:k<zs.length),(jX zs).getD k Value.none=.int zs[k].1 zs[k].2:=λk m=>by simp[jX,m]
  rw[one i g,one j l,keyLt'_oneType];dsimp only at q;rw[at_ i g,at_ j l]at q;exact oneLt_int q
 .rw[d]at pm so;refine h (p.toList.map (jW (0,0) zs)) h' c (sQ _ pm) ((zj (r:=λx y=>decide (x.1<y.1)) pm so).imp λh=>UO h) ?_ k;rw[e];unfold jX;rw[vY (0,0) pm]
end
section
variable{X:Cx}
theorem sR:∀a:List v5,Vals (a.map λy=>V.int y.1) (jX a)
 |[]=>.nil
 |y::a=>.cons ⟨y.2,rfl⟩ (sR a)
def rO(f:X.calm=true):CallR X (.builtin "sorted") (λvs H Q=>∃p es its,vs=[.ref p]/\H p=some (.ext λh=>SetAt X.w h p es)/\jR (eI X.prog X.w) es its/\its.length<=63/\
 ∀(l:Addr)(ks:List Int),H l=none->(∀k,k∈ks↔k∈its.map (·.1))->ks.Pairwise (·< ·)->Q (.ref l) (aP H l (.lst (ks.map V.int)))):=by
 intro aa s σ H vs us Q I r h;obtain⟨p,es,its,rfl,g,v,hz,q⟩:=h;obtain⟨u,rfl,i⟩:=eF r;obtain rfl:u=Value.ref p:=i;obtain⟨j,_,_⟩:=(show ObjOk X.prog X.w H s.heap p (.ext λh=>SetAt X.w h p es)from I.aS p _ g);refine mr j v NS (I.ok.hd f) (by decide) (lt:=(·< ·)) (λA E s a n G P _ m _ nd hz h=>AU m nd hz h) hz λb h' tk l c so t d z e=>?_;have em:(b.map (·.1)).map V.int=b.map λy=>V.int y.1:=by rw[T7];rfl
 refine⟨.ref l,_,I.laid (a:=l) (o:=.lst ((b.map (·.1)).map V.int)) (t':=tk) e d ?_,rfl,q l (b.map (·.1)) (I.aS.fresh d) (λk=>?_) (VN.mpr so.pw)⟩
 .rw[em];exact⟨by rw[TN,Uj];lia,jX b,c,sR b,z⟩
 .constructor
  .intro e;obtain⟨y,B,rfl⟩:=TV.mp e;exact TV.mpr ⟨y,so.sub y B,rfl⟩
  .intro e;obtain⟨x,C,rfl⟩:=TV.mp e;obtain⟨y,D,F⟩:=so.all x C;exact TV.mpr ⟨y,D,F⟩
end
end L2
namespace L2
open PySem PySem.Spec PySem.Calls PyProof.Rows
section
variable{prog:Xv}{w:World}{A:Xx}{E:Xw->Xt->Prop}{s:Xt}
def Km{k:List bm}{dflt:Xw}{Q:Xw->Xt->Prop}(n:A.units<cLine)(l:(tK prog w).is s.heap k a)(t:s.heap.DictOfH (tK prog w) d xs)(hsz:xs.length<=sizeLine)
 (h1:∀p,atKey xs k=some p->Q p.2 {s with toks:=s.toks+(tK prog w).draws k})
 (u:atKey xs k=none->∀h',h'.DictOfH (tK prog w) d (storedH xs k a dflt)->Heap.SameBut d s.heap h'->Q dflt {s with heap:=h',toks:=s.toks+(tK prog w).draws k}):wpAny (model prog w) A (dictSetDefault d (.ref a) dflt) Q E s:=by
 obtain⟨o,es,v,c,z,hd,i,f,m⟩:=t;unfold dictSetDefault
 try with_reducible refine UJ ?_
 refine KE ((tK prog w).pyHash n l (KE (wpAny_dictFind_heap (knd:=tK prog w) (s:={s with toks:=s.toks+(tK prog w).draws k}) n l c hd i f m (λg=>?_) λj p q=>?_)))
 .have b:=atKey_none_of_get g;have h:k∉xs.map (·.1):=not_mem_keys_of_get g;refine KE (WU (KE (wpAny_updateDictKeys (hz:=by have e:=size_of_entries i;lia) (s:={s with toks:=s.toks+(tK prog w).draws k}) c hd (Tu (u b _ ⟨_,_,v+1,UR _ c (Obj.isFreed_of_dict (We hd _)),z.mapDictKeys _,We hd _,?_,?_,?_⟩ (Uu ..))))))
  .rw[storedH_new b];simp[i,entryOfKey]
  .rw[storedH_new b];intro x hx;rcases T1.mp hx with hx|hx
   .exact(tK prog w).keeps (f x hx) c hd (Uu ..)
   .obtain rfl:=T8.mp hx;exact(tK prog w).keeps l c hd (Uu ..)
  .rw[storedH_new b,UB,VM];exact⟨m,by simp,λx hx y r e=>by simp only[Tw,VE,T8]at r;subst r;exact h (e▸hx)⟩
 .refine KE (WE (s:={s with toks:=s.toks+(tK prog w).draws k}) c hd ?_);rw[entry_at i j,q];exact KE (WU (Tu (h1 p (atKey_of_get m q))))
end
section
variable{X:Cx}
def Ge:V->List V->Hp->VK->Prop:=λx xs H Q=>∃a b k y kvs,x=.ref a/\xs=[.ref b,y]/\H b=some (.tup (k.map kV))/\H a=some (.dT kvs)/\kvs.length<sizeLine/\
 ((∃v,cS kvs k=some v/\Q v H)\/(cS kvs k=none/\Q y (aP H a (.dT (ce kvs k y)))))
def sS(S:X.A.units+64<cLine):J6 X "dict.setdefault" Ge:=by
 intro aa s σ H x xs v us Q I D rs q;obtain⟨a,b,k,y,kvs,rfl,rfl,l,ha,hz,q⟩:=q;obtain rfl:v=Value.ref a:=D;obtain⟨u1,u2,rfl,g,e⟩:=vz rs;obtain rfl:u1=Value.ref b:=g;obtain⟨E,F,vs,h,m⟩:=Ih I.aS ha;have G:=eV I.aS l;have n:Shared.TypeIs s (.ref a) "dict":=by obtain⟨o,es,r,J,K,_⟩:=m;exact⟨o,J,K.1⟩
 refine Us Uq n WQ ?_ (WM _ _ _);unfold Builtin.«dict.setdefault»;refine KE ?_;unfold Builtin.Dict.keyAndDefault;refine KE (WN n (show wpAny _ _ (pure (a,Value.ref b,some u2)) _ _ s from Tu ?_));show wpAny _ _ (if(a==sysModules)=true then _ else(dictSetDefault a (Value.ref b) u2 >>= _)) _ _ s;rw[TJ (by grind)];have L:vs.length<=sizeLine:=by rw[<- Wo h];exact E
 have f:=h.val k;refine KE (Km (by grind) G m L (λp t=>?_) λi h' j hs=>?_)
 .rcases q with⟨v,d,q⟩|⟨d,q⟩
  .have:RelO (some v) (some p.2):=by rw[<- d];rw[t]at f;exact f
   exact Tu ⟨_,rfl,v,H,I.tok _,this,q⟩
  .have:=f.gw;rw[d,t]at this;cases this
 .rcases q with⟨v,d,q⟩|⟨d,q⟩
  .have:=f.gw;rw[d,i]at this;cases this
  .obtain⟨u,es,r,B,M,N,O,_,P⟩:=j;have R:(ce kvs k y).length<=sizeLine:=by have:=fD kvs k y;lia
   have aS:ObjOk X.prog X.w (aP H a (.dT (ce kvs k y))) h' a (.dT (ce kvs k y)):=by refine⟨R,F,_,(h.put k l e).keeps λc T C=>?_,u,es,r,B,M,N,O,P⟩;rw[af (yW C ha (λz=>nomatch z))];exact C
   exact Tu ⟨_,rfl,y,_,kT (t':=s.toks+(tK X.prog X.w).draws k) I (by rw[ha];exact True.intro) hs ⟨u,B⟩ aS,e,q⟩
def C3:V->List V->Hp->VK->Prop:=λx xs H Q=>∃a b k y kvs,x=.ref a/\xs=[.ref b,y]/\H b=some (.tup (k.map kV))/\(H a=some (.dT kvs)\/(H a=some (.dK [])/\kvs=[]))/\kvs.length<sizeLine/\
 ((∃v,cS kvs k=some v/\Q v H)\/(cS kvs k=none/\Q y (aP H a (.dT (ce kvs k y)))))
def jY(g:X.A.units+64<cLine):J6 X "dict.setdefault" C3:=by
 intro aa s σ H x xs v us Q I i rs q;obtain⟨a,b,k,y,kvs,e1,e2,d,ha,hz,q⟩:=q;rcases ha with ha|⟨ha,rfl⟩
 .exact sS g aa s σ H x xs v us Q I i rs ⟨a,b,k,y,kvs,e1,e2,d,ha,hz,q⟩
 .have e:b≠a:=yW d ha (λz=>nomatch z);refine sS g aa s σ (aP H a (.dT [])) x xs v us Q (I.QE ha) i rs ⟨a,b,k,y,[],e1,e2,by rw[af e];exact d,ag,hz,.inr ?_⟩;rcases q with⟨v,f,q⟩|⟨f,q⟩
  .cases f
  .have:aP (aP H a (.dT [])) a (.dT (ce [] k y))=aP H a (.dT (ce [] k y)):=by
    funext c;by_cases h:c=a
    .subst h;rw[ag,ag]
    .rw[af h,af h,af h]
   exact⟨f,by grind⟩
end
def NU(d:Addr)(o:Obj)(u:HO)(kvs:List (bm×V)):It:=⟨λi H=>H d=some (.aZ o u)/\i<kvs.length,λi H x H'=>∃p k v,H p=none/\x=.ref p/\H'=aP H p (.tup [kV k,v])/\kvs[i]?=some (k,v),λi H=>H d=some (.aZ o u)/\kvs.length<=i⟩
theorem KV.at(r:KV a b):∀(i:Nat) p q,a[i]?=some p->b[i]?=some q->p.1=q.1/\RelV p.2 q.2:=by
 induction r with
 |nil=>intro i p q e;simp at e
 |cons c t d=>
  intro i p q e1 e2;cases i with
  |zero=>simp at e1 e2;subst e1 e2;exact c
  |succ i=>exact d i p q (by simpa using e1) (by simpa using e2)
def ye{P:Xv}{w:World}{K:Xu}{es:List Expr}{k0:Nat}{pos:Pos}{d it:Addr}{o:Obj}{u0:HO}{kvs:List (bm×V)}{vs:List (bm×Xw)}{ep:Nat}{h0:Heap}(rel:KV kvs vs)(x0:h0.DictAt (aF P w) d vs ep)(e0:h0.get? d=some o) :
 Turn P w K (.Tuple es k0 pos) (NU d o u0 kvs) [it] it (λi h=>∃ok ov,IsItemIter h it d i vs.length ep ok ov) where
 mem:=by simp
 obj:=λi h st b hb=>by
  have e:b=it:=by simpa using hb
  subst e;obtain⟨ok,ov,e⟩:=st;exact⟨_,e,λv z=>by cases z⟩
 keep:=λi h h' st k=>by obtain⟨ok,ov,e⟩:=st;exact⟨ok,ov,k it (by simp) _ e⟩
 item:=by
  intro X hP hw hK hc i aa s σ H E I hf st hg;subst hP hw hK;obtain⟨hd,hi⟩:=hg;obtain⟨ok,ov,st⟩:=st;obtain⟨eo,_⟩:=(show ObjOk X.prog X.w H s.heap d (.aZ o u0)from I.aS d _ hd);have x1:=pS x0 e0 eo;have fi:=hf it (by simp);have hiv:i<vs.length:=by rw[<- rel.length];exact hi
  have hk:kvs[i]?=some kvs[i]:=by simp[hi]
  have hv:vs[i]?=some vs[i]:=by simp[hiv]
  obtain⟨ek,rv⟩:=rel.at i _ _ hk hv;refine wpAny_pyNext_items_item (k:=vs[i].1) (v:=vs[i].2) st x1 hv λkey h' i9 hout hT hsz kp=>?_;refine⟨_,rfl,wpAny_letOwnedTupleGo_items hout λh'' hit'' hs''=>?_⟩;have keep2:∀b o,b≠it->s.heap.get? b=some o->h''.get? b=some o:=λb o n1 q=>(hs''.2 b n1).trans (kp b o n1 q);have hTe:s.heap.objs.size≠it:=V2 (TC st);have hT'':h''.get? s.heap.objs.size=some { cls:=.type "tuple",data:=.seq #[key,vs[i].2] }:=(hs''.2 _ hTe).trans hT;have I1:Inv X aa σ (aP H s.heap.objs.size (.tup [kV kvs[i].1,kvs[i].2])) {s with heap:=h''}:=by
   refine I.step (g':=s.gens) (d':=s.drawn) (ch:=[it]) (λb hb=>?_) (λb o _ _ hn q _=>keep2 b o (λz=>hn (by simp[z])) q)
    (λb o _ _ hn q _=>⟨o.slots,keep2 b o (λz=>hn (by simp[z])) q⟩) (λb o _ q hH=>by rw[af (T5 (TC q))];exact hH)
    (λb o hn q=>⟨o,keep2 b o (λz=>hn (by simp[z])) q⟩) (λb ys q=>by rw[af (ai q (I.aS.fresh (Tt _)))];exact q)
    (λb o' u' q=>by rw[af (ai q (I.aS.fresh (Tt _)))];exact q) (λb ps q=>⟨#[],by rw[af (ai q (I.aS.fresh (Tt _)))];simp[q]⟩) (λm hm=>?_) (λb u' q=>?_) I.bare
   .have:b=it:=by simpa using hb
    subst this;exact⟨fi.2.2.2.1,fi.2.1,fi.2.2.2.2.1,fi.2.2.2.2.2⟩
   .obtain⟨o,es',ep,ho',r⟩:=hm;exact⟨o,es',ep,keep2 _ o (UM fi.2.1) ho',r⟩
   .by_cases hb:b=s.heap.objs.size
    .subst hb;rw[ag]at q;cases q;refine⟨by show 2<=sizeLine;decide,[key,vs[i].2],.cons ?_ (.cons rv .nil),⟨_,hT'',rfl,0,rfl⟩⟩;rw[ek];exact F0 i9
    .rw[af hb]at q;refine(I.aS b u' q).stay (λc v hc' q'=>keep2 c v ?_ q') (λc r=>by rw[af (ai r (I.aS.fresh (Tt _)))];exact r) λc ys r=>by rw[af (ai r (I.aS.fresh (Tt _)))];exact r
     rcases hc' with z|z
     .rw[z];exact ai q fi.1
     .exact ai z fi.1
  refine⟨.ref s.heap.objs.size,_,I1,rfl,⟨_,kvs[i].1,kvs[i].2,I.aS.fresh (Tt _),rfl,rfl,hk⟩,⟨_,_,hit''⟩,λb hb=>?_⟩;have:b=it:=by simpa using hb
  subst this;rw[af (T5 (TC st))];exact fi.1
 done:=by intro X hP hw hK hc i aa s σ H E I hf st hg;subst hP hw hK;obtain⟨hd,hi⟩:=hg;obtain⟨ok,ov,st⟩:=st;obtain⟨eo,_⟩:=(show ObjOk X.prog X.w H s.heap d (.aZ o u0)from I.aS d _ hd);have x1:=pS x0 e0 eo;obtain⟨f0,f1,f2,f3,f4,f5⟩:=hf it (by simp);have hl:=rel.length;exact wpAny_pyNext_items_end (I.ok.hd hc) st x1 (by simp;lia) λh' eb=>⟨rfl,I.turned (t':=s.toks) (λb o hb e=>eb b o hb e) f0 f1 f3 f4 f5⟩
 self:=λA i s Q E st h=>by obtain⟨ok,ov,st⟩:=st;have hT:s.TypeIs (.ref it) "dict_itemiterator":=⟨_,st,rfl⟩;refine Wb hT Vq (Us Vq hT (W5 (id':="dict_keyiterator.__iter__") (by kernel_rfl) rfl (by decide +kernel) (by kernel_rfl):entryFor table "dict_itemiterator.__iter__"=some Builtin.«dict_keyiterator.__iter__») ?_ (F.args_dict_itemiterator_iter_1 _));show wpAny _ _ (ret (.ref it)) _ _ s;exact Tu ⟨_,rfl,"dict_itemiterator",_,hT,Uy.lookup,h⟩
section
variable{X:Cx}{es:List Expr}{k0:Nat}{u7:Pos}
def Rm(X:Cx)(b:TE):TI:=λσ H R=>b σ H λx a=>∃d kvs u,x=.ref d/\(u=.dK kvs\/(u=.dT []/\kvs=[]))/\((∃o,a d=some (.aZ o u)/\R (NU d o u kvs) a)\/(a d=some u/\∀o,(∀c v,X.H₀ d≠some (.aZ c v))->R (NU d o u kvs) (aP a d (.aZ o u))))
def C4{J:TE}{f c:Pos}(P:PE X l J)(g:autoParam (attributeBase l "items" X.env (eval l X.env)=eval l X.env) ae) (i:autoParam ((f.endLine==c.line)=true) ae):PI X (.Tuple es k0 u7) (.Call (.Attribute l "items" f) [] [] c) (Rm X J):=by
 intro aa s σ H R I h;refine Ws g i (bR (P aa s σ H _ I h) λv s1 ⟨x,C,n,Q,q1⟩=>?_);obtain⟨d,kvs,u,e,D,q⟩:=q1;subst e;cases Q;have K:iz u:=by rcases D with rfl|⟨rfl,_⟩<;>exact True.intro
 have p:∀(o:Obj)(j:Hp),Inv X aa σ j s1->j d=some (.aZ o u)->R (NU d o u kvs) j->MethodOn X.prog X.w X.A "items" c (.ref d) [] (λv s1=>wpAny (model X.prog X.w) X.A (pyIter v) (QN X aa σ (.Tuple es k0 u7) R) X.xe s1) X.xe s1:=λo j L e2 q2=>by
  obtain⟨M,N⟩:=(show ObjOk X.prog X.w j s1.heap d (.aZ o u)from L.aS d _ e2);have key:(d==sysModules)=false/\∃vs,KV kvs vs/\s1.heap.DictOf (aF X.prog X.w) d vs:=by
   rcases D with rfl|⟨rfl,rfl⟩
   .obtain⟨z,hd,vs,k,dd⟩:=N;exact⟨hd,vs,k,dd⟩
   .obtain⟨hd,dd⟩:=nE N;exact⟨hd,[],.nil,dd⟩
  obtain⟨hd,vs,k,dd⟩:=key;obtain⟨Y,S⟩:=dd.dictAt;have r:∀a,Value.ref d=.ref a->∃O,s1.heap.get? a=some O/\O.dict=none:=λa e=>by cases e;obtain⟨T,_,_,U,ex,_⟩:=dd;exact⟨T,U,ex.2.1⟩
  refine⟨"dict","dict.items",T9,VX,PySem.F.type_dict_items,dd.typeIs,r,UE rfl (WX ?_)⟩;refine Vk VX dd.typeIs PySem.F.entry_dict_items (PySem.F.args_dict_items_1 _) (meets_dict_items (aF X.prog X.w) d hd) ⟨⟨vs,dd⟩,?_⟩;have B:Inv X aa σ j { s1 with heap:=s1.heap.push { cls:=.type "dict_items",data:=.fields #[.ref d] } }:=L.kept (t':=s1.toks) λb o e=>RW _ e;have e3:({ s1 with heap:=s1.heap.push { cls:=.type "dict_items",data:=.fields #[.ref d] } }:Xt).heap.get? d=some o:=RW _ M;have m:=pS S M e3;generalize E:({ s1 with heap:=s1.heap.push { cls:=.type "dict_items",data:=.fields #[.ref d] } }:Xt)=t at B e3 m;have V:t.heap.IsItemsView s1.heap.objs.size d:=by rw[<- E];exact⟨_,Tz _ rfl,rfl,rfl⟩
  show wpAny _ _ (pyIter (.ref s1.heap.objs.size)) _ _ _;refine wpAny_pyIter_items V m ?_;refine⟨t.heap.objs.size,[t.heap.objs.size],_,_,j,rfl,B.kept (t':=t.toks) λb o e=>RW _ e,ye k m e3,⟨_,_,Tz _ rfl⟩,λb W=>?_,q2⟩;have e:b=t.heap.objs.size:=by simpa using W
  subst e;exact B.rB (Tt _) (B.aS.fresh (Tt _))
 rcases q with⟨o,e1,q⟩|⟨e1,q⟩
 .exact p o C n e1 q
 .have G:∃o,s1.heap.get? d=some o:=by
   rcases D with rfl|⟨rfl,_⟩
   .obtain⟨_,_,_,_,o,_,_,y,_⟩:=(show ObjOk X.prog X.w C s1.heap d (.dK kvs)from n.aS d _ e1);exact⟨o,y⟩
   .obtain⟨_,_,_,_,o,_,_,y,_⟩:=(show ObjOk X.prog X.w C s1.heap d (.dT [])from n.aS d _ e1);exact⟨o,y⟩
  obtain⟨o,y⟩:=G;exact p o _ (n.aZ e1 K y) ag (q o (n.Js e1 K))
end
def RawD(h:Heap)(d:Addr)(es:Array DictEntry)(a:Nat):Prop:=∃o,h.get? d=some o/\o.ExactDict/\o.data=.dict es a
section
variable{prog:Xv}{w:World}{A:Xx}{E:Xw->Xt->Prop}{s:Xt}{d v it:Addr}{es:Array DictEntry}{ep i:Nat}{ok ov:Xw}
def RawD.ty(m:RawD s.heap d es ep):s.TypeIs (.ref d) "dict":=let ⟨o,h,c,_⟩:=m;⟨o,h,c.1⟩
def ue(d:Addr)(hd:(d==sysModules)=false) :
 MeetsIn prog w (Builtin.«dict.items» ⟨[.ref d],[]⟩) (λ_ R s=>(∃es ep,RawD s.heap d es ep)/\R (.ok (.ret (.ref s.heap.objs.size))) { s with heap:=s.heap.push { cls:=.type "dict_items",data:=.fields #[.ref d] } }):=
 .of_wp λA R s ⟨⟨es,ep,m⟩,h⟩=>by unfold Builtin.«dict.items» Builtin.Dict.noArgs;refine KE (KE (WN m.ty (Tu ?_)));show wpAny _ _ (Builtin.Dict.showsAll d >>= _) _ _ s;unfold Builtin.Dict.showsAll;rw[TJ (by rw[hd];simp)];exact KE (Tu (KE (Ux (Tu ⟨_,rfl,h⟩))))
def v7(a:s.heap.IsItemsView v d)(m:RawD s.heap d es ep)
 (c:Q (.ref s.heap.objs.size) { s with heap:=s.heap.push { cls:=.type "dict_itemiterator",data:=.fields #[.none,.bool false,.ref d,.int 0 0,.int es.size 0,.int ep 0,.none,.none] } }) :
 wpAny (model prog w) A (pyIter (.ref v)) Q E s:=by
 obtain⟨e,e1,_,e2⟩:=id a;obtain⟨o,b,_,hd⟩:=id m;refine Wb a.typeIs F.slot_dict_items_iter (Us F.slot_dict_items_iter a.typeIs F.entry_dict_items_iter ?_ (F.args_dict_items_iter_1 _));unfold Builtin.«dict_items.__iter__» Builtin.Dict_items.dictOf Builtin.Dict_items.newIterator;refine KE (Tu (KE (KE (Wz e1 e2 (x:=.ref d) rfl (Tu (KE (KE (WE b hd (KE (wpAny_dictEpoch b hd ?_))))))))));simp only[show Builtin.Dict_items.ownsTuple "dict_itemiterator"=true by decide,Vd];refine Ux (Tu ⟨_,rfl,"dict_itemiterator",_,⟨_,Tz _ rfl,rfl⟩,Uy.lookup,?_⟩)
  (by simp only[sizeOk,Builtin.Dict_items.ownedTupleFields,TR,T_,T2,Vj,Uj];lia)
 simpa[rawInt,Builtin.Dict_items.ownedTupleFields]using c
def v8(f:A.handled=none)(y:IsItemIter s.heap it d i es.size ep ok ov)(m:RawD s.heap d es ep)(g:es.size<=i)(h:∀h',Heap.ExtBut it s.heap h'->Q none {s with heap:=h'}):wpAny (model prog w) A (pyNext (.ref it)) Q E s:=by
 obtain⟨o,e,_,hd⟩:=id m;have c:s.TypeIs (.ref it) "dict_itemiterator":=⟨_,y,rfl⟩;unfold pyNext;refine KE (wpAny_attempt (U6 (name:=Str.ofString "__next__") c Uy (Us Uy c F.entry_dict_itemiterator_next ?_ (F.args_dict_itemiterator_next_1 _))));refine KE (Tu (KE (KE ?_)))
 first|refine KE (Vn c (Tu ?_))|refine KE (VJ c (Tu ?_))
 refine KE (wpAny_fieldsOf y rfl ?_);simp only[show Builtin.Dict_items.ownsTuple "dict_itemiterator"=true by decide,Vd];show wpAny _ _ (if(Value.ref d==Value.none)=true then _ else _) _ _ s;rw[TJ (show ¬((Value.ref d==Value.none)=true)from Uz)];refine KE (Tu (KE (WE e hd ?_)));rw[TJ (by simp)];refine KE (Tu (KE (wpAny_dictEpoch e hd ?_)));rw[TJ (by simp)];refine Tu ?_;simp only[show ¬((i:Int)<0)from by lia,UI,Wy,Array.getElem?_eq_none g];refine KE ?_
 first|refine KE (Vn c (Tu ?_))|refine KE (VJ c (Tu ?_))
 show wpAny _ _ (setField (.ref it) 2 .none >>= _) _ _ s;refine KE (W6 y rfl (by simp) ?_);show wpAny _ _ (newExc (.type "StopIteration") [] >>= _) _ _ _;refine KE ?_;simp only[newExc,newTuple];refine KE (Ux ?_ (by size_fits));refine KE (m:=firstArgMember _ _) (wpAny_of_eq (a:=Value.none) (by first|rfl|(simp only[firstArgMember];rfl)) ?_);refine Ux ?_ (by size_fits);simp only[raiseNew];refine KE (wpAny_handled ?_);rw[show A.in1.handled=none from f];refine KE (Tu (wpAny_throw ?_));refine KE (wpAny_isInstance (T:="StopIteration") (b:=true) ⟨_,Tz _ rfl,rfl⟩ isSubtype_stop ?_);exact Tu (h _ (((Uu ..).extBut.push _).push _))
def yf(y:IsItemIter s.heap it d i es.size ep ok ov)(m:RawD s.heap d es ep)(L:es[i]?=some e)
 (M:∀h',IsItemIterOut h' it d (i+1) es.size ep e.key e.val s.heap.objs.size->h'.get? s.heap.objs.size=some { cls:=.type "tuple",data:=.seq #[e.key,e.val] }->
   (∀b o,b≠it->s.heap.get? b=some o->h'.get? b=some o)->Q (some (.ref s.heap.objs.size)) {s with heap:=h'}):wpAny (model prog w) A (pyNext (.ref it)) Q E s:=by
 obtain⟨a,g,h,tk,os⟩:=s;obtain⟨o,H,_,hd⟩:=id m;have c:Shared.TypeIs ⟨a,g,h,tk,os⟩ (.ref it) "dict_itemiterator":=⟨_,y,rfl⟩;have p:a.objs.size≠it:=V2 (TC y);unfold pyNext;refine KE (wpAny_attempt (U6 (name:=Str.ofString "__next__") c Uy (Us Uy c F.entry_dict_itemiterator_next ?_ (F.args_dict_itemiterator_next_1 _))));refine KE (Tu (KE (KE ?_)))
 first|refine KE (Vn c (Tu ?_))|refine KE (VJ c (Tu ?_))
 refine KE (wpAny_fieldsOf y rfl ?_);simp only[show Builtin.Dict_items.ownsTuple "dict_itemiterator"=true by decide,Vd];show wpAny _ _ (if(Value.ref d==Value.none)=true then _ else _) _ _ _;rw[TJ (show ¬((Value.ref d==Value.none)=true)from Uz)];refine KE (Tu (KE (WE H hd ?_)));rw[TJ (by simp)];refine KE (Tu (KE (wpAny_dictEpoch H hd ?_)));rw[TJ (by simp)];refine Tu ?_;simp only[show ¬((i:Int)<0)from by lia,UI,Wy,L];refine KE ?_
 first|refine KE (Vn c (Tu ?_))|refine KE (VJ c (Tu ?_))
 refine KE (Wx c ?_);show wpAny _ _ (setField (.ref it) 3 (rawInt ((i:Int)+1)) >>= _) _ _ ⟨a,g,h,tk,os⟩;refine KE (V1 y (by simp) λh1 j s1=>?_);replace s1:Heap.SameBut it a h1:=s1;replace j:IsItemIter h1 it d (i+1) es.size ep ok ov:=by
  have q:((i+1:Nat):Int)=(i:Int)+1:=by lia
  unfold IsItemIter;rw[q];simpa[rawInt]using j
 have f:Shared.TypeIs ⟨h1,g,h,tk,os⟩ (.ref it) "dict_itemiterator":=⟨_,j,rfl⟩;refine KE (UJ (KE (Wx f (KE (Wx f ?_)))));show wpAny _ _ (Builtin.Dict_items.pairFromOwner (.ref it) 6 e.key e.val) _ _ ⟨h1,g,h,tk,os⟩;unfold Builtin.Dict_items.pairFromOwner;refine KE (wpAny_newTuple ?_);have k:IsItemIter (h1.push { cls:=.type "tuple",data:=.seq #[e.key,e.val] }) it d (i+1) es.size ep ok ov:=RW _ j;have I:(h1.push { cls:=.type "tuple",data:=.seq #[e.key,e.val] }).get? a.objs.size=some { cls:=.type "tuple",data:=.seq #[e.key,e.val] }:=by rw[<- s1.1];exact Tz _ rfl
 have k2:∀b o,b≠it->a.get? b=some o->(h1.push { cls:=.type "tuple",data:=.seq #[e.key,e.val] }).get? b=some o:=λb o n q=>RW _ (s1.extBut b o n q);have J:h1.objs.size=a.objs.size:=s1.1;generalize h1.push { cls:=.type "tuple",data:=.seq #[e.key,e.val] }=r at k I k2;show wpAny _ _ (Builtin.Dict_items.ownedTupleIsFree (.ref it) >>= _) _ _ ⟨r,g,h,tk,os⟩;rw[J];clear j s1 f J h1;refine KE ?_;unfold Builtin.Dict_items.ownedTupleIsFree;refine KE (Wz k rfl (x:=.none) rfl (Tu ?_));simp only[Vd];refine KE (Wz k rfl (x:=ok) rfl (KE (Wz k rfl (x:=ov) rfl ?_)));refine KE (V1 k (by simp) λt u N=>?_);replace u:IsItemIter t it d (i+1) es.size ep e.key ov:=u;refine KE (V1 u (by simp) λz B O=>?_);replace B:IsItemIter z it d (i+1) es.size ep e.key e.val:=B;refine KE (V1 B (by simp) λC D P=>?_);replace D:IsItemIterOut C it d (i+1) es.size ep e.key e.val a.objs.size:=D;refine KE (V1 D (by simp) λl G R=>?_);replace G:IsItemIterOut l it d (i+1) es.size ep e.key e.val a.objs.size:=G;have K:∀b o,b≠it->r.get? b=some o->l.get? b=some o:=λb o n q=>Wm (show Heap.SameBut it C l from R) b o n (Wm (show Heap.SameBut it z C from P) b o n (Wm (show Heap.SameBut it t z from O) b o n (Wm (show Heap.SameBut it r t from N) b o n q)));exact KE (Xe (Tu (Tu ⟨_,rfl,Tu (M l G (K _ _ p I) λb o n q=>K b o n (k2 b o n q))⟩)))
end
def NV(d:Addr)(o:Obj)(u:HO)(kvs:List (List bm×V)):It:=⟨λi H=>H d=some (.aZ o u)/\i<kvs.length,λi H x H'=>∃p b k v,H p=none/\x=.ref p/\H b=some (.tup (k.map kV))/\H'=aP H p (.tup [.ref b,v])/\kvs[i]?=some (k,v),λi H=>H d=some (.aZ o u)/\kvs.length<=i⟩
theorem KT.at(r:KT H a b):∀(i:Nat) p q,a[i]?=some p->b[i]?=some q->p.1=q.1/\H q.2.1=some (.tup (p.1.map kV))/\RelV p.2 q.2.2:=by
 induction r with
 |nil=>intro i p q e;simp at e
 |cons c t d=>
  intro i p q e1 e2;cases i with
  |zero=>simp at e1 e2;subst e1 e2;exact c
  |succ i=>exact d i p q (by simpa using e1) (by simpa using e2)
def v9{P:Xv}{w:World}{K:Xu}{es:List Expr}{k0:Nat}{pos:Pos}(hu:u=.dT kvs\/kvs=[])(hex:o.ExactDict)(hdat:o.data=.dict en ep)(bh:en.size=kvs.length) :
 Turn P w K (.Tuple es k0 pos) (NV d o u kvs) [it] it (λi h=>∃ok ov,IsItemIter h it d i en.size ep ok ov) where
 mem:=by simp
 obj:=λi h st b hb=>by
  have e:b=it:=by simpa using hb
  subst e;obtain⟨ok,ov,e⟩:=st;exact⟨_,e,λv z=>by cases z⟩
 keep:=λi h h' st k=>by obtain⟨ok,ov,e⟩:=st;exact⟨ok,ov,k it (by simp) _ e⟩
 item:=by
  intro X hP hw hK hc i aa s σ H E I hf st hg;subst hP hw hK;obtain⟨hd,hi⟩:=hg;obtain rfl:u=.dT kvs:=hu.elim id λz=>by rw[z]at hi;exact absurd hi (Nat.not_lt_zero _)
  obtain⟨ok,ov,st⟩:=st;obtain⟨eo,_⟩:=(show ObjOk X.prog X.w H s.heap d (.aZ o (.dT kvs))from I.aS d _ hd);obtain⟨_,_,xs,rel,o',es',ep',eo',_,hd',hes,_,_⟩:=mi I.aS (.inr ⟨o,hd⟩);rw[eo]at eo';cases eo';rw[hdat]at hd';cases hd';have fi:=hf it (by simp);have hk:kvs[i]?=some kvs[i]:=by simp[hi]
  have hxl:xs.length=kvs.length:=by rw[<- bh,size_of_entries hes]
  have hix:i<xs.length:=by lia
  have hx:xs[i]?=some xs[i]:=by simp[hix]
  obtain⟨ek,hb,rv⟩:=rel.at i _ _ hk hx;have he:en[i]?=some (entryOfKey (tupleKind (aF X.prog X.w)) xs[i]):=by rw[entry_at hes,hx];rfl
  refine yf st ⟨o,eo,hex,hdat⟩ he λh' hout hT kp=>?_;refine⟨_,rfl,wpAny_letOwnedTupleGo_items hout λh'' hit'' hs''=>?_⟩;have keep2:∀b o,b≠it->s.heap.get? b=some o->h''.get? b=some o:=λb o n1 q=>(hs''.2 b n1).trans (kp b o n1 q);have hTe:s.heap.objs.size≠it:=V2 (TC st);have hT'':h''.get? s.heap.objs.size=some { cls:=.type "tuple",data:=.seq #[.ref xs[i].2.1,xs[i].2.2] }:=(hs''.2 _ hTe).trans hT;have fr:=I.aS.fresh (Tt _);have I1:Inv X aa σ (aP H s.heap.objs.size (.tup [.ref xs[i].2.1,kvs[i].2])) {s with heap:=h''}:=by
   refine I.step (g':=s.gens) (d':=s.drawn) (ch:=[it]) (λb hb=>?_) (λb o _ _ hn q _=>keep2 b o (λz=>hn (by simp[z])) q)
    (λb o _ _ hn q _=>⟨o.slots,keep2 b o (λz=>hn (by simp[z])) q⟩) (λb o _ q hH=>by rw[af (T5 (TC q))];exact hH)
    (λb o hn q=>⟨o,keep2 b o (λz=>hn (by simp[z])) q⟩) (λb ys q=>by rw[af (ai q fr)];exact q)
    (λb o' u' q=>by rw[af (ai q fr)];exact q) (λb ps q=>⟨#[],by rw[af (ai q fr)];simp[q]⟩) (λm hm=>?_) (λb u' q=>?_) I.bare
   .have:b=it:=by simpa using hb
    subst this;exact⟨fi.2.2.2.1,fi.2.1,fi.2.2.2.2.1,fi.2.2.2.2.2⟩
   .obtain⟨o,es',ep,ho',r⟩:=hm;exact⟨o,es',ep,keep2 _ o (UM fi.2.1) ho',r⟩
   .by_cases hb:b=s.heap.objs.size
    .subst hb;rw[ag]at q;cases q;exact⟨by show 2<=sizeLine;decide,[.ref xs[i].2.1,xs[i].2.2],.cons rfl (.cons rv .nil),⟨_,hT'',rfl,0,rfl⟩⟩
    .rw[af hb]at q;refine(I.aS b u' q).stay (λc v hc' q'=>keep2 c v ?_ q') (λc r=>by rw[af (ai r fr)];exact r) λc ys r=>by rw[af (ai r fr)];exact r
     rcases hc' with z|z
     .rw[z];exact ai q fi.1
     .exact ai z fi.1
  refine⟨.ref s.heap.objs.size,_,I1,rfl,⟨_,xs[i].2.1,kvs[i].1,kvs[i].2,fr,rfl,hb,rfl,hk⟩,⟨_,_,hit''⟩,λb hb=>?_⟩;have:b=it:=by simpa using hb
  subst this;rw[af (T5 (TC st))];exact fi.1
 done:=by intro X hP hw hK hc i aa s σ H E I hf st hg;subst hP hw hK;obtain⟨hd,hi⟩:=hg;obtain⟨ok,ov,st⟩:=st;obtain⟨eo,_⟩:=(show ObjOk X.prog X.w H s.heap d (.aZ o u)from I.aS d _ hd);obtain⟨f0,f1,f2,f3,f4,f5⟩:=hf it (by simp);exact v8 (I.ok.hd hc) st ⟨o,eo,hex,hdat⟩ (by lia) λh' eb=>⟨rfl,I.turned (t':=s.toks) (λb o hb e=>eb b o hb e) f0 f1 f3 f4 f5⟩
 self:=λA i s Q E st h=>by obtain⟨ok,ov,st⟩:=st;have hT:s.TypeIs (.ref it) "dict_itemiterator":=⟨_,st,rfl⟩;refine Wb hT Vq (Us Vq hT (W5 (id':="dict_keyiterator.__iter__") (by kernel_rfl) rfl (by decide +kernel) (by kernel_rfl):entryFor table "dict_itemiterator.__iter__"=some Builtin.«dict_keyiterator.__iter__») ?_ (F.args_dict_itemiterator_iter_1 _));show wpAny _ _ (ret (.ref it)) _ _ s;exact Tu ⟨_,rfl,"dict_itemiterator",_,hT,Uy.lookup,h⟩
section
variable{X:Cx}{es:List Expr}{k0:Nat}{u7:Pos}
def NW(X:Cx)(b:TE):TI:=λσ H R=>b σ H λx a=>∃d kvs u,x=.ref d/\(u=.dT kvs\/(u=.dK []/\kvs=[]))/\((∃o,a d=some (.aZ o u)/\R (NV d o u kvs) a)\/(a d=some u/\∀o,(∀c v,X.H₀ d≠some (.aZ c v))->R (NV d o u kvs) (aP a d (.aZ o u))))
def sU(Q:PE X l tl)(g:autoParam (attributeBase l "items" X.env (eval l X.env)=eval l X.env) ae) (i:autoParam ((apos.endLine==cpos.line)=true) ae):PI X (.Tuple es k0 u7) (.Call (.Attribute l "items" apos) [] [] cpos) (NW X tl):=by
 intro aa s σ H R I h;refine Ws g i (bR (Q aa s σ H _ I h) λv s1 ⟨x,G,p,S,q1⟩=>?_);obtain⟨d,kvs,u,e,C,q⟩:=q1;subst e;cases S;have N:iz u:=by rcases C with rfl|⟨rfl,_⟩<;>exact True.intro
 have r:∀(o:Obj)(j:Hp),Inv X aa σ j s1->j d=some (.aZ o u)->R (NV d o u kvs) j->MethodOn X.prog X.w X.A "items" cpos (.ref d) [] (λv s1=>wpAny (model X.prog X.w) X.A (pyIter v) (QN X aa σ (.Tuple es k0 u7) R) X.xe s1) X.xe s1:=λo j D e2 q2=>by
  obtain⟨n,_⟩:=(show ObjOk X.prog X.w j s1.heap d (.aZ o u)from D.aS d _ e2);have key:(d==sysModules)=false/\∃en k,o.ExactDict/\o.data=.dict en k/\en.size=kvs.length:=by
   rcases C with rfl|⟨rfl,rfl⟩
   .obtain⟨_,hd,xs,m,T,en,k,f,hex,c,J,_,_⟩:=mi D.aS (.inr ⟨o,e2⟩);rw[n]at f;cases f;exact⟨hd,en,k,hex,c,by rw[size_of_entries J,Wo m]⟩
   .obtain⟨_,hd,vs,m,T,en,k,f,hex,c,_,K,_⟩:=l_ D.aS (.inr ⟨o,e2⟩);rw[n]at f;cases f;refine⟨hd,en,k,hex,c,?_⟩;have h1:=m.length;have O:=K.length;simp at h1 O ⊢;simpa[<- h1]using O
  obtain⟨hd,en,k,hex,c,U⟩:=key;have t:s1.TypeIs (.ref d) "dict":=⟨o,n,hex.1⟩;have y:∀a,Value.ref d=.ref a->∃P,s1.heap.get? a=some P/\P.dict=none:=λa e=>by cases e;exact⟨o,n,hex.2.1⟩
  refine⟨"dict","dict.items",T9,VX,PySem.F.type_dict_items,t,y,UE rfl (WX ?_)⟩;refine Vk VX t PySem.F.entry_dict_items (PySem.F.args_dict_items_1 _) (ue d hd) ⟨⟨en,k,o,n,hex,c⟩,?_⟩;have E:Inv X aa σ j { s1 with heap:=s1.heap.push { cls:=.type "dict_items",data:=.fields #[.ref d] } }:=D.kept (t':=s1.toks) λb o e=>RW _ e;have e3:({ s1 with heap:=s1.heap.push { cls:=.type "dict_items",data:=.fields #[.ref d] } }:Xt).heap.get? d=some o:=RW _ n;generalize L:({ s1 with heap:=s1.heap.push { cls:=.type "dict_items",data:=.fields #[.ref d] } }:Xt)=z at E e3;have V:z.heap.IsItemsView s1.heap.objs.size d:=by rw[<- L];exact⟨_,Tz _ rfl,rfl,rfl⟩
  show wpAny _ _ (pyIter (.ref s1.heap.objs.size)) _ _ _;refine v7 V ⟨o,e3,hex,c⟩ ?_;refine⟨z.heap.objs.size,[z.heap.objs.size],_,_,j,rfl,E.kept (t':=z.toks) λb o e=>RW _ e,v9 (C.imp id And.right) hex c U,⟨_,_,Tz _ rfl⟩,λb W=>?_,q2⟩;have e:b=z.heap.objs.size:=by simpa using W
  subst e;exact E.rB (Tt _) (E.aS.fresh (Tt _))
 rcases q with⟨o,e1,q⟩|⟨e1,q⟩
 .exact r o G p e1 q
 .have M:∃o,s1.heap.get? d=some o:=by
   rcases C with rfl|⟨rfl,_⟩
   .obtain⟨_,_,_,_,o,_,_,B,_⟩:=(show ObjOk X.prog X.w G s1.heap d (.dT kvs)from p.aS d _ e1);exact⟨o,B⟩
   .obtain⟨_,_,_,_,o,_,_,B,_⟩:=(show ObjOk X.prog X.w G s1.heap d (.dK [])from p.aS d _ e1);exact⟨o,B⟩
  obtain⟨o,B⟩:=M;exact r o _ (p.aZ e1 N B) ag (q o (p.Js e1 N))
end
section
variable{X:Cx}
theorem zl:∀{vs:List V}{its:List Xw},vs.length=its.length->(∀(i:Nat) v u,vs[i]?=some v->its[i]?=some u->RelV v u)->Vals vs its
 |[],[],_,_=>.nil
 |[],_::_,e,_=>by cases e
 |_::_,[],e,_=>by cases e
 |v::vs,u::its,e,f=>.cons (f 0 v u rfl rfl) (zl (by simpa using e) λi w z a b=>f (i+1) w z (by simpa using a) (by simpa using b))
def Gf(ta:TA):TE:=λσ H Q=>ta σ H λvs a=>∃j:Int,vs=[.int j]/\0<=j/\j<=1000/\∀l,a l=none->Q (.ref l) (aP a l (.lst ((List.range j.toNat).map λk=>.int (k:Nat))))
def AV(A:X.calm=true)(g:Gl X "list") (l:X.mg "list"=none) (m:bootBuiltins "list"=some (.type "list")) (B:Gl X "range") (C:X.mg "range"=none) (ha:PA X [a] ta) (hs:autoParam (starEach [a] X.env=[(false,eval a X.env)]) ae)
 (d:autoParam (starEach [.Call (.Name "range" p2) [a] [] pos2] X.env=[(false,eval (.Call (.Name "range" p2) [a] [] pos2) X.env)]) ae):PE X (.Call (.Name "list" p) [.Call (.Name "range" p2) [a] [] pos2] [] pos) (Gf ta):=by
 intro aa s σ H Q I h;refine Call_ (jS I g l m (U5 ?_ d rfl));rw[d];show wpAny _ _ (spliced ((false,eval (.Call (.Name "range" p2) [a] [] pos2) X.env)::[])) _ _ s;refine U2 (Call_ (jS I B C boot_range (U5 (bR (ha pos2 aa s σ H _ I h) λus s1 ⟨vs,D,E,F,q1⟩=>?_) hs rfl)));obtain⟨j,e,N,O,q⟩:=q1;subst e;cases F with
 |cons r G=>
  cases G;obtain⟨t,rfl⟩:=r;refine call_range_1 (Vz ?_);have f:Inv X aa σ D { s1 with heap:=s1.heap.push { cls:=.type "range",data:=.fields #[.int 0 s1.toks,.int j t,.int 1 (s1.toks+1)] },toks:=s1.toks+1+1 }:=E.kept λb o e=>RW _ e;have u:IsRange ({ s1 with heap:=s1.heap.push { cls:=.type "range",data:=.fields #[.int 0 s1.toks,.int j t,.int 1 (s1.toks+1)] },toks:=s1.toks+1+1 }:Xt).heap s1.heap.objs.size 0 j 1 s1.toks t (s1.toks+1):=Tz _ rfl;generalize({ s1 with heap:=s1.heap.push { cls:=.type "range",data:=.fields #[.int 0 s1.toks,.int j t,.int 1 (s1.toks+1)] },toks:=s1.toks+1+1 }:Xt)=s2 at f u;have J:Builtin.Range.rangeSize 0 j 1=(j.toNat:Nat):=by rw[rangeSize_one];split<;>lia
  refine call_list_range (f.ok.hd A) u (small_one (by lia) (by lia) (by lia) (by lia)) J (by lia) λh' tk c x kp e it=>?_;obtain⟨y,K⟩:=it;have L:Vals ((List.range j.toNat).map λk=>.int (k:Nat)) c.toList:=by
   refine zl (by rw[TN,WF,UY,y]) λi v w n z=>?_;obtain⟨t',rfl⟩:=K i w (by rw[<- Ui];exact z);rw[T3]at n;have M:i<j.toNat:=by have:=(TL.mp z).1;rw[UY,y]at this;exact this
   rw[List.getElem?_range M]at n;cases n;exact⟨t',by congr 1;lia⟩
  have e:h'.get? s2.heap.objs.size=some { cls:=.type "list",dict:=none,data:=.seq c.toList.toArray x,slots:=#[] }:=by rw[Array.toArray_toList];exact e
  exact⟨.ref s2.heap.objs.size,_,f.laid (t':=tk) kp (Tt _) (show ObjOk X.prog X.w _ h' _ (.lst ((List.range j.toNat).map λk=>.int (k:Nat)))from⟨by rw[TN,WF,Uj];lia,c.toList,x,L,e⟩),rfl,q _ (f.aS.fresh (Tt _))⟩
end
noncomputable def p9:List Int->Int
 |[]=>0
 |x::r=>r.foldl (λa b=>if b<a then b else a) x
def AW(h:l≠[])(z:Int):p9 (l++[z])=if z<p9 l then z else p9 l:=by
 cases l with
 |nil=>exact(h rfl).elim
 |cons x r=>show(r++[z]).foldl _ x=_;rw[Vf];rfl
theorem iQ(xs:Array (Int×Tok)):∀k,k<xs.size->numAt xs (argBest (λi j=>decide (numAt xs i<numAt xs j)) k)=p9 ((xs.toList.map (·.1)).take (k+1))
 |0,h=>by
  have e:xs.toList.map (·.1)≠[]:=λz=>by have:=Vv List.length z;simp at this;rw[this]at h;simp at h
  cases q:xs.toList.map (·.1)with
  |nil=>exact(e q).elim
  |cons y r=>
   have:(xs[0]?.map (·.1))=some y:=by rw[<- Ui,<- T3,q];rfl
   show numAt xs 0=y;unfold numAt;rw[this];rfl
 |k+1,h=>by
  have b:=iQ xs k (by lia);have c:(xs.toList.map (·.1))[k+1]?=some (numAt xs (k+1)):=by rw[T3,Ui];unfold numAt;rw[Array.getElem?_eq_getElem h];rfl
  have d:(xs.toList.map (·.1)).take (k+1+1)=(xs.toList.map (·.1)).take (k+1)++[numAt xs (k+1)]:=by rw[List.take_succ,c];rfl
  have ne:(xs.toList.map (·.1)).take (k+1)≠[]:=λz=>by have f:=Vv List.length z;rw[Vp,TN,UY,Vj]at f;lia
  rw[d,AW ne,<- b];show numAt xs (if(decide (numAt xs (k+1)<numAt xs (argBest _ k)))=true then k+1 else argBest _ k)=_;by_cases a:numAt xs (k+1)<numAt xs (argBest (λi j=>decide (numAt xs i<numAt xs j)) k)
  .rw[Tv (T4 a),Tv a]
  .rw[TJ (by simpa using a),TJ a]
theorem p_:∀{ns:List Int}{its:List Xw},Vals (ns.map V.int) its->∃ps:List (Int×Tok),its=ps.map (λp=>.int p.1 p.2)/\ps.map (·.1)=ns
 |[],_,h=>by cases h;exact⟨[],rfl,rfl⟩
 |n::ns,_,h=>by
  cases h with
  |cons r a=>obtain⟨t,rfl⟩:=r;obtain⟨ps,rfl,e⟩:=p_ a;exact⟨(n,t)::ps,rfl,by rw[Tw,e]⟩
def sV(c:X.calm=true):CallR X (.builtin "min") (λxs H Q=>∃p ns,xs=[.ref p]/\SqL X.K H p (ns.map V.int)/\ns≠[]/\Q (.int (p9 ns)) H):=by
 intro aa s σ H xs us Q I r h;obtain⟨p,ns,rfl,d,b,q⟩:=h;obtain⟨u,rfl,f⟩:=eF r;cases f;obtain⟨its,g,pl,hz⟩:=I.list d;obtain⟨ps,rfl,e⟩:=p_ g;have i:s.heap.IsList p (intItems ps.toArray):=by
  have:intItems ps.toArray=(ps.map (λp=>Value.int p.1 p.2)).toArray:=by simp[intItems]
  rw[this];exact pl.isList
 have a:0<ps.toArray.size:=by
  cases ps with
  |nil=>exact(b e.symm).elim
  |cons _ _=>simp
 refine min_intList (I.ok.hd c) i a λv h' tk j kp=>?_;obtain⟨t,rfl⟩:=intItems_at j;rw[iQ ps.toArray _ (by lia)];have k:(ps.toArray.toList.map (·.1)).take (ps.toArray.size-1+1)=ns:=by rw[UG (by simp;lia)];simpa using e
 rw[k];exact⟨.int (p9 ns),H,I.kept (t':=tk) kp,⟨t,rfl⟩,q⟩
end L2
namespace L2
open PySem PySem.Spec PyProof.Rows
open Sem (wp)
open Builtin
open Sem (wp)
open Builtin
noncomputable def qg(kts:List (Addr×List V))(a:Addr)(o:Obj)(ns:List Int):Hp:=λb=>match kts.lookup b with
 |some xs=>some (.tup xs)
 |none=>if b=a then some (.aZ o (.lst (ns.map V.int)))else none
section
variable{kts:List (Addr×List V)}{a b:Addr}{o:Obj}{ns:List Int}{xs:List V}
def Gg(e:kts.lookup b=some xs):qg kts a o ns b=some (.tup xs):=by unfold qg;rw[e]
def Gh(e:kts.lookup a=none):qg kts a o ns a=some (.aZ o (.lst (ns.map V.int))):=by unfold qg;rw[e];exact Tv rfl
def Gi(e:kts.lookup b=none)(n:b≠a):qg kts a o ns b=none:=by unfold qg;rw[e];exact TJ n
end
theorem mv:∀{vs:List Xw}{ns:List Int},IntsAre vs ns->Vals (ns.map V.int) vs
 |_,_,.nil=>.nil
 |_,_,.cons n t h=>.cons ⟨t,rfl⟩ (mv h)
def AX{P:Xv}{w:World}{K:Xu}{mg M:Str->Option Xw}{CX:AG}{k:Nat}{fa a:Addr}{fd:FuncData}{x:Str}{sp:Sp}{f:Xt}{vs:List Xw}{ns:List Int}{kts:List (Addr×List V)}
 (Z:K.In f.heap) (C:f.heap.Ns mainGlobals mg) (N:f.heap.Ns builtinsNs M) (O:∀x:Str,x≠"__name__"->M x=bootBuiltins x) (D:f.heap.NoLimit) (hg:f.gens=#[])
 (ha:f.heap.get? a=some { cls:=.type "list",data:=.seq vs.toArray }) (hi:IntsAre vs ns) (hl:ns.length<=sizeLine) (hr:dt k callerA)
 (hK:∀o,K.lookup a=some o->o.cls=.type "list"->False)
 (J:∀b xs,kts.lookup b=some xs->K.lookup b=none/\∃(o:Obj)(its:Array Xw)(n:Nat),f.heap.get? b=some o/\o.cls=.type "tuple"/\o.data=.seq its n/\its.size<=sizeLine/\Vals xs its.toList)
 (hM:∀p∈K,∀b xs,JE p.2=some (b,xs)->kts.lookup b=some xs)
 (F:∀base:Heap,K.In base->base.Ns mainGlobals mg->bG P w K mg base CX k fa fd [x] sp) (j:∀(s:Xt)(u:Xw),BindsTo s fd ⟨[u],[]⟩ [(x,u)])
 (Q:∀H:Hp,(∃o,H a=some (.aZ o (.lst (ns.map V.int))))->sp [.ref a] H (λv _=>v=.bl true) λ_ _ _=>False)
 (R:∀H e l,CX [] H f (λ_ _ _=>False) e l->False) :
 codeAny (model P w) callerA (.call (.ref fa) ⟨[.ref a],[]⟩) (λr l=>r=.ok (.ret (.bool true))/\OldK f.heap l.heap/\l.os=f.os/\AllBare l.gens) f:=by
 have rv:=mv hi;have S:K.lookup a=none:=by
  cases q:K.lookup a with
  |none=>rfl
  |some o=>have e:=Z a o q;rw[ha]at e;cases e;exact(hK _ q rfl).elim
 have T:kts.lookup a=none:=by
  cases q:kts.lookup a with
  |none=>rfl
  |some xs=>obtain⟨_,o,its,n,e,c,_⟩:=J a xs q;rw[ha]at e;cases e;exact absurd c (by simp)
 obtain⟨B,t⟩ : ∃B:Obj,B={ cls:=.type "list",data:=.seq vs.toArray }:=⟨_,rfl⟩;rw[<- t]at ha;generalize U:qg kts a B ns=H;have W:H a=some (.aZ B (.lst (ns.map V.int))):=by rw[<- U];exact Gh T
 have X:∀b xs,kts.lookup b=some xs->H b=some (.tup xs):=λb xs e=>by rw[<- U];exact Gg e
 have L:∀b,kts.lookup b=none->b≠a->H b=none:=λb e n=>by rw[<- U];exact Gi e n
 have y:∀b o,K.lookup b=some o->H b=none:=λb o e=>by
  refine L b ?_ λz=>by rw[z,S]at e;cases e
  cases q:kts.lookup b with
  |none=>rfl
  |some xs=>rw[(J b xs q).1]at e;cases e
 have A:∀(b:Addr)(o:Obj)(es:Array DictEntry)(E:Nat),f.heap.get? b=some o->o.data=.dict es E->H b=none:=λb o es E e d=>by
  refine L b ?_ λz=>?_
  .cases q:kts.lookup b with
   |none=>rfl
   |some xs=>obtain⟨_,o',its,n,e',_,d',_⟩:=J b xs q;rw[e]at e';cases e';rw[d]at d';cases d'
  .rw[z,ha]at e;cases e;rw[t]at d;cases d
 have i:∀{b:Addr}{m:Str->Option Xw},f.heap.Ns b m->(vm f.heap H).Ns b m:=λ{b m} ⟨o,es,E,e,d,r⟩=>⟨o,es,E,vn e (A b o es E e d),d,r⟩;have G:K.In (vm f.heap H):=λb o e=>vn (Z b o e) (y b o e);have Y:Mod K mg (vm f.heap H):=⟨G,i C,⟨M,i N,O⟩,let ⟨mc,h1,h2⟩:=D;⟨mc,i h1,h2⟩⟩;have aS:HOk P w H f.heap:=λb u e=>by
  cases q:kts.lookup b with
  |some xs=>rw[X b xs q]at e;cases e;obtain⟨_,o,its,n,e1,c,d,z,r⟩:=J b xs q;refine⟨by rw[r.length];simpa using z,its.toList,r,o,e1,c,n,by simpa using d⟩
  |none=>
   by_cases g:b=a
   .rw[g,W]at e;cases e;rw[g];exact⟨ha,by rw[TN];exact hl,vs,_,rv,by rw[ha,t]⟩
   .rw[L b q g]at e;cases e
 have e0:yP P w K mg (vm f.heap H) callerA [] f H:=⟨rfl,Y,λb o e=>Fz e,Xo (Ax _ _),trivial,λb N=>absurd (show b∈([]:List Addr)from N) (by simp),aS,.of_eq hg,λp hp b xs e=>X b xs (hM p hp b xs e)⟩;refine WI ((F _ G (i C)).run callerA [] f H ⟨[.ref a],[]⟩ [.ref a] [.ref a] _ _ hr e0 (j f (.ref a)) (.cons rfl .nil) (Q H ⟨B,W⟩)) λr l h=>?_;cases r with
 |error e=>exact(R H e l h).elim
 |ok fl=>
  cases fl with
  |next=>exact False.elim h
  |brk=>exact False.elim h
  |cont=>exact False.elim h
  |ret u=>
   obtain⟨v,H',os,bare,un,I,r',q⟩:=h;have q':v=.bl true:=q;subst q';obtain rfl:u=Value.bool true:=r';refine⟨rfl,OldK.of_keep λb o e=>?_,os,bare⟩;by_cases g:b=a
   .rw[g]at e ⊢;have z2:=un.oY a B _ W;obtain⟨e2,_⟩:=I a _ z2;rw[ha]at e;cases e;exact e2
   .refine un.keep b o e ?_ (by intro z;exact absurd (show b∈([]:List Addr)from z) (by simp)) (by simp);cases q:kts.lookup b with
    |none=>exact .inl (L b q g)
    |some xs=>exact .inr ⟨xs,X b xs q⟩
section
variable{K K':Xu}
def Rn(K:Xu):Bool:=K.all λp=>(JE p.2).isNone
structure xw(K K':Xu):Prop where
 look:∀b o,K.lookup b=some o->(∀its n,o.data≠.seq its n)->K'.lookup b=some o
def AY:xw K K:=⟨λ_ _ e _=>e⟩
def xw.code(S:xw K K')(h:codeIn K cd q=true):codeIn K' cd q=true:=by
 unfold codeIn at h ⊢;cases cd with
 |ref c=>
  dsimp only at h ⊢;cases e:K.lookup c with
  |none=>rw[e]at h;cases h
  |some o=>
   obtain⟨o1,b,a,d⟩:=o;cases a with
   |fields vs=>rw[S.look c _ e (λ_ _ z=>nomatch z)];rw[e]at h;exact h
   |_=>rw[e]at h;cases h
 |_=>cases h
def xw.keep(S:xw K K')(e:K.lookup f=some ⟨o1,o2,.func fd,o4⟩):keepIn K' (.ref f)=true:=by unfold keepIn;dsimp only;rw[S.look f _ e (λ_ _ z=>nomatch z)]
end
noncomputable def zn:Xw->Bool
 |.type n=>n=="list"
 |_=>false
def Ro(K:Xu):Bool:=K.all λp=>!zn p.2.cls
theorem C5:∀{K:Xu},Ro K=true->K.lookup a=some o->o.cls=.type "list"->False
 |[],_,e,_=>by cases e
 |(b,x)::r,h,e,c=>by
  unfold Ro at h;rw[List.all_cons,Um]at h;rw[V0]at e;split at e
  .cases e;rw[c]at h;have h1:=h.1;simp[zn]at h1
  .exact C5 (K:=r) h.2 e c
section
variable{l:PySem.W.OpenLaw}{n k:Nat}{q:Xv}{loose:List Str}{XP:(Str->Option Xw)->Heap->Prop}{YP:World->Heap->Prop}{d:DefRec}{K:Params->Xu}{CX:World->AG}{sp:World->Sp}{x:Str}
def C6(I:l.most=some n)(r:n<=sizeLine)(t:d.params.defaults=[])(J:dt k callerA)(L:∀(w:World)(h:Heap),YP w h->(K w.params).In h)
 (C:∀w:World,Ro (K w.params)=true/\Rn (K w.params)=true)
 (F:∀(w:World)(mg:Str->Option Xw)(fa:Addr)(h:Heap),(K w.params).In h->h.Ns mainGlobals mg->mg d.name=some (.ref fa)->
   ∃fd:FuncData,(∀(s:Xt)(u:Xw),BindsTo s fd ⟨[u],[]⟩ [(x,u)])/\∀base:Heap,(K w.params).In base->base.Ns mainGlobals mg->bG l.prog w (K w.params) mg base (CX w) k fa fd [x] (sp w))
 (y:∀(w:World)(H:Hp)(a:Addr)(ns:List Int),ns.length<=n->(∃o,H a=some (.aZ o (.lst (ns.map V.int))))->sp w [.ref a] H (λv _=>v=.bl true) λ_ _ _=>False)
 (z:∀(w:World)(H:Hp)(s:Xt)(e:Xw)(A:Xt),CX w [] H s (λ_ _ _=>False) e A->False) :
 PySem.W.WalkO q loose XP YP l.row.toRowW d [] (λf vs=>PySem.call f vs):=by
 refine Att.attach_call I t λw s₀ j mg S fa o pm U doc a vs ns G Y X hd M B m i D N=>?_;have E:=L w _ Y;obtain⟨fd,O,P⟩:=F w mg fa _ E G.T.g B;exact AX (kts:=[]) E G.T.g G.T.b G.T.builtins G.T.nolimit N m i (Ua D r) J (λo e c=>C5 (C w).1 e c) (λb xs e=>by cases e)
  (λp Q b xs e=>by have:=UK.mp (C w).2 p Q;rw[e]at this;cases this) P O (λH R=>y w H a ns D R) λH e A=>z w H j e A
end
end L2
namespace L2
open PySem PySem.Spec PySem.Calls PyProof.Rows
noncomputable abbrev K0:=Sum Int (List Int)
abbrev NX:=List (List K0×Addr×Xw)
noncomputable def NVs(H:Hp):List K0->List V->Prop
 |[],vs=>vs=[]
 |.inl i::ks,vs=>∃r,vs=.int i::r/\NVs H ks r
 |.inr l::ks,vs=>∃c r,vs=.ref c::r/\H c=some (.tup (l.map V.int))/\NVs H ks r
def KeyN(H:Hp)(k:List K0)(b:Addr):Prop:=∃vs,H b=some (.tup vs)/\NVs H k vs
section
variable{H H':Hp}
theorem NVs.mono(kt:∀b vs,H b=some (.tup vs)->H' b=some (.tup vs)):∀{k:List K0}{vs:List V},NVs H k vs->NVs H' k vs
 |[],_,h=>h
 |.inl i::ks,_,⟨r,e,h⟩=>⟨r,e,NVs.mono kt h⟩
 |.inr l::ks,_,⟨c,r,e,e2,h⟩=>⟨c,r,e,kt _ _ e2,NVs.mono kt h⟩
theorem KeyN.mono(kt:∀b vs,H b=some (.tup vs)->H' b=some (.tup vs))(h:KeyN H k b):KeyN H' k b:=let ⟨vs,e,q⟩:=h;⟨vs,kt _ _ e,q.mono kt⟩
end
end L2
namespace L2
open PySem PySem.Spec PySem.Calls PyProof.Rows ST
section
variable{X:Cx}
def AZ(t:TupsIn H vs its)(a:Vals vs us):us=valsT its:=by
 unfold TupsIn at t;induction t generalizing us with
 |nil=>cases a;rfl
 |cons q _ b=>
  cases a with
  |cons r s=>obtain⟨rfl,q⟩:=q;cases r;rw[b s];rfl
def rP(L:N<=300)(hs:mq X.prog X.w N):CallR X (.builtin "sorted") (λxs H Q=>∃(l:Addr)(vs:List V)(its:List jI),xs=[.ref l]/\Rd H l (.lst vs)/\TupsIn H vs its/\its.length<=N/\(∀x∈its,x.1≠[])/\(its.map (·.1)).Nodup/\
 ∀(j:Addr)(c:List jI),H j=none->c.Perm its->c.Pairwise (λx y=>dj x.1 y.1=true)->Q (.ref j) (aP H j (.lst (c.map λy=>.ref y.2)))):=by
 intro aa s σ H xs us Q I r h;obtain⟨l,vs,its,rfl,B,p,hz,k,nd,q⟩:=h;obtain⟨u,rfl,C⟩:=eF r;obtain rfl:u=Value.ref l:=C;obtain⟨_,us,n,t,D⟩:=(show ObjOk X.prog X.w H s.heap l (.lst vs)from B.ok I.aS);obtain⟨_,_,g3⟩:=p.get t;obtain rfl:=AZ p t;have f:(valsT its).length=its.length:=by simp[valsT]
 have sl:=Uj;refine Calls.call_function_entry kind_sorted plain_sorted entry_sorted (args_sorted1 _) ?_;unfold Builtin.«sorted»;refine KE (m:=checkCount "sorted" 1 1 _) (Tu (KE (collect_list (l:=l) (vs:=valsT its) ⟨_,D,rfl,n,rfl⟩ ?_ (by rw[f];lia))));have k1:∀b o,s.heap.get? b=some o->((s.heap.push (seqObj "list" #[] 0)).update s.heap.objs.size (Obj.mapSeq (·++ (valsT its).toArray))).get? b=some o:=λb o e=>(Ud _ _ (UM (T5 (TC e)))).trans (RW _ e);have g1:s.heap.objs.size<=((s.heap.push (seqObj "list" #[] 0)).update s.heap.objs.size (Obj.mapSeq (·++ (valsT its).toArray))).objs.size:=WH (TC (get?_update_seq (Tz _ rfl) (·++ (valsT its).toArray)));generalize((s.heap.push (seqObj "list" #[] 0)).update s.heap.objs.size (Obj.mapSeq (·++ (valsT its).toArray)))=h1 at k1 g1;refine KE (wpAny_newList ?_ (by rw[f];lia));have g:(h1.push (seqObj "list" (valsT its).toArray 0)).get? h1.objs.size=some (seqObj "list" (valsT its).toArray 0):=Tz _ rfl;have v:∀b o,s.heap.get? b=some o->(h1.push (seqObj "list" (valsT its).toArray 0)).get? b=some o:=λb o e=>RW _ (k1 b o e);have E:ss X.prog X.w (h1.push (seqObj "list" (valsT its).toArray 0)) its:=⟨λx F=>o5 (eV I.aS (g3 x F)) v,k,nd⟩;refine KE (UJ (Us slot_list_sort ⟨_,g,rfl⟩ entry_list_sort ?body (args_list_sort _)))
 case body=>
  refine hs _ _ { s with heap:=h1.push (seqObj "list" (valsT its).toArray 0) } _ _ _ _ g E hz λc M G d A i k2=>⟨_,rfl,?_⟩;have J:H h1.objs.size=none:=I.aS.fresh g1;refine Tu ⟨_,rfl,.ref h1.objs.size,_,I.laid (a:=h1.objs.size) (o:=.lst (c.map λy=>.ref y.2)) (t':=s.toks) (λb o e=>k2 b o (λz=>?_) (v b o e)) g1 ?_,rfl,q h1.objs.size c J d A⟩
  .subst z;exact absurd (TC e) (Nat.not_lt.mpr g1)
  .refine⟨by rw[TN,d.length_eq];lia,valsT c,G,?_,i⟩;clear i A d;induction c with
   |nil=>exact .nil
   |cons y c K=>exact .cons rfl K
end
end L2
namespace L3
open PySem PySem.Spec PyProof.Rows L2
abbrev DK:=Sum bm (List bm)
inductive D where
 |bn|bl (b:Bool)|int (i:Int)|str (x:Str)|tup (ds:List D)|lst (ds:List D)|cU (ks:List DK) (ds:List D)
mutual
noncomputable def D.flat:D->Bool
 |.lst _=>false
 |.cU _ _=>false
 |.tup ds=>D.bw ds
 |_=>true
noncomputable def D.bw:List D->Bool
 |[]=>true
 |d::ds=>d.flat&&D.bw ds
end
mutual
noncomputable def D.dep:D->Nat
 |.lst ds=>D.gZ ds+1
 |.tup ds=>D.gZ ds+1
 |.cU _ ds=>D.gZ ds+1000
 |_=>0
noncomputable def D.gZ:List D->Nat
 |[]=>0
 |d::ds=>max d.dep (D.gZ ds)
end
mutual
noncomputable def gE:D->D->Bool
 |.bn,e=>match e with|.bn=>true|_=>false
 |.bl a,e=>match e with|.bl b=>a==b|.int b=>(if a then 1 else 0)==b|_=>false
 |.int a,e=>match e with|.int b=>a==b|.bl b=>a==(if b then 1 else 0)|_=>false
 |.str a,e=>match e with|.str b=>a==b|_=>false
 |.tup c,e=>match e with|.tup bs=>eqDs c bs|_=>false
 |.lst c,e=>match e with|.lst bs=>eqDs c bs|_=>false
 |.cU ks c,e=>match e with|.cU d bs=>decide (ks=d)&&eqDs c bs|_=>false
noncomputable def eqDs:List D->List D->Bool
 |[],bs=>match bs with|[]=>true|_=>false
 |a::c,bs=>match bs with|b::r=>gE a b&&eqDs c r|[]=>false
end
mutual
theorem jZ:∀d:D,gE d d=true
 |.bn=>rfl
 |.bl a=>by simp[gE]
 |.int a=>by simp[gE]
 |.str a=>by simp[gE]
 |.tup b=>by simp only[gE];exact eqDs_refl b
 |.lst b=>by simp only[gE];exact eqDs_refl b
 |.cU ks b=>by simp only[gE,decide_true,Bool.true_and];exact eqDs_refl b
theorem eqDs_refl:∀ds:List D,eqDs ds ds=true
 |[]=>rfl
 |d::ds=>by simp only[eqDs,jZ d,eqDs_refl ds,WT]
end
def DAt(H:Hp)(a:Addr)(ks:List DK)(vs:List V):Prop:=(∃kvs:List (bm×V),Rd H a (.dK kvs)/\ks=kvs.map (λp=>.inl p.1)/\vs=kvs.map Prod.snd)\/∃kvs:List (List bm×V),Rd H a (.dT kvs)/\ks=kvs.map (λp=>.inr p.1)/\vs=kvs.map Prod.snd
noncomputable def Kn:HO->Prop
 |.lst _=>True
 |.dK _=>True
 |.dT _=>True
 |.ext _=>True
 |_=>False
def Mu(H:Hp)(a:Addr):Prop:=∃o,H a=some o/\Kn o
theorem Mu.lst(h:H a=some (.lst vs)):Mu H a:=⟨_,h,True.intro⟩
def Mu.same(h:Mu H a)(s:∀o,H a=some o->H' a=some o):Mu H' a:=let ⟨o,e,m⟩:=h;⟨o,s o e,m⟩
def Mu.some(h:Mu H a):H a≠none:=by obtain⟨o,e,_⟩:=h;rw[e];simp
def Iq(h:Rd H a u):∃o,H a=some o:=h.elim (λe=>⟨_,e⟩) λ⟨_,e⟩=>⟨_,e⟩
def nH(h:Rd H a u)(s:∀o,H a=some o->H' a=some o):Rd H' a u:=h.imp (s _) λ⟨o,e⟩=>⟨o,s _ e⟩
def DAt.obj(h:DAt H a ks vs):∃o,H a=some o:=h.elim (λ⟨_,e,_⟩=>Iq e) λ⟨_,e,_⟩=>Iq e
def DAt.mu(h:DAt H a ks vs)(n:∀o u,H a≠some (.aZ o u)):Mu H a:=by rcases h with⟨kvs,e|⟨o,e⟩,_⟩|⟨kvs,e|⟨o,e⟩,_⟩<;>first|exact⟨_,e,True.intro⟩|exact(n _ _ e).elim
def DAt.keep(h:DAt H a ks vs)(s:∀o,H a=some o->H' a=some o):DAt H' a ks vs:=h.imp (λ⟨kvs,e,r⟩=>⟨kvs,nH e s,r⟩) λ⟨kvs,e,r⟩=>⟨kvs,nH e s,r⟩
def DAt.inj(h:DAt H a ks vs)(g:DAt H a ls ws):ks=ls/\vs=ws:=by rcases h with⟨k1,e1|⟨o1,e1⟩,b,c⟩|⟨k1,e1|⟨o1,e1⟩,b,c⟩<;>rcases g with⟨k2,e2|⟨d,e2⟩,q1,q2⟩|⟨k2,e2|⟨d,e2⟩,q1,q2⟩<;>(rw[e1]at e2;cases e2;try exact⟨b.trans q1.symm,c.trans q2.symm⟩)
noncomputable def Rp:HO->Prop
 |.dK _=>False
 |.dT _=>False
 |.aZ _ (.dK _)=>False
 |.aZ _ (.dT _)=>False
 |_=>True
def DAt.no(h:DAt H a ks vs)(e:H a=some o)(n:Rp o):False:=by rcases h with⟨k,z|⟨b,z⟩,_⟩|⟨k,z|⟨b,z⟩,_⟩<;>(rw[e]at z;cases z;exact n)
mutual
noncomputable def Is(H:Hp)(m:Addr->Prop):D->V->Prop
 |.bn,v=>v=.bn
 |.bl b,v=>v=.bl b
 |.int i,v=>v=.int i
 |.str x,v=>v=.str x
 |.tup ds,v=>∃a vs,v=.ref a/\H a=some (.tup vs)/\IsAll H m ds vs
 |.lst ds,v=>∃a vs,v=.ref a/\((H a=some (.lst vs)/\m a)\/∃o,H a=some (.aZ o (.lst vs))/\m a)/\IsAll H m ds vs
 |.cU ks ds,v=>∃a vs,v=.ref a/\(DAt H a ks vs/\m a)/\IsAll H m ds vs
noncomputable def IsAll(H:Hp)(m:Addr->Prop):List D->List V->Prop
 |[],vs=>vs=[]
 |d::ds,vs=>∃v r,vs=v::r/\Is H m d v/\IsAll H m ds r
end
noncomputable def iA:HO->Prop
 |.tup _=>True
 |.aZ _ _=>True
 |_=>False
section
variable{H H':Hp}{m m':Addr->Prop}
mutual
theorem Is.mono(kp:∀a o,H a=some o->(m a\/iA o)->H' a=some o)(b:∀a o,H a=some o->m a->m' a):∀{d:D}{v:V},Is H m d v->Is H' m' d v
 |.bn,_,h=>h
 |.bl _,_,h=>h
 |.int _,_,h=>h
 |.str _,_,h=>h
 |.tup ds,_,h=>by obtain⟨a,vs,e,h1,c⟩:=h;exact⟨a,vs,e,kp a _ h1 (.inr True.intro),IsAll.mono kp b c⟩
 |.lst ds,_,h=>by
  obtain⟨a,vs,e,h1,c⟩:=h;refine⟨a,vs,e,?_,IsAll.mono kp b c⟩;rcases h1 with⟨h1,f⟩|⟨o,h1,f⟩
  .exact .inl ⟨kp a _ h1 (.inl f),b a _ h1 f⟩
  .exact .inr ⟨o,kp a _ h1 (.inr True.intro),b a _ h1 f⟩
 |.cU ks ds,_,h=>by obtain⟨a,vs,e,h1,c⟩:=h;obtain⟨o,g⟩:=h1.1.obj;exact⟨a,vs,e,⟨h1.1.keep λo e=>kp a o e (.inl h1.2),b a o g h1.2⟩,IsAll.mono kp b c⟩
theorem IsAll.mono(kp:∀a o,H a=some o->(m a\/iA o)->H' a=some o)(b:∀a o,H a=some o->m a->m' a):∀{ds:List D}{vs:List V},IsAll H m ds vs->IsAll H' m' ds vs
 |[],_,h=>h
 |d::ds,_,h=>by obtain⟨v,r,e,h1,c⟩:=h;exact⟨v,r,e,Is.mono kp b h1,IsAll.mono kp b c⟩
end
def Is.weak(b:∀a,m a->m' a)(h:Is H m d v):Is H m' d v:=h.mono (λ_ _ e _=>e) λa _ _=>b a
def IsAll.weak(b:∀a,m a->m' a)(h:IsAll H m ds vs):IsAll H m' ds vs:=h.mono (λ_ _ e _=>e) λa _ _=>b a
def Is.same(s:Same H H')(h:Is H m d v):Is H' m d v:=h.mono (λa o e _=>s a o e) λ_ _ _ z=>z
def IsAll.same(s:Same H H')(h:IsAll H m ds vs):IsAll H' m ds vs:=h.mono (λa o e _=>s a o e) λ_ _ _ z=>z
mutual
theorem Is.flat:∀{d:D}{v:V},d.flat=true->Is H m d v->Is H m' d v
 |.bn,_,_,h=>h
 |.bl _,_,_,h=>h
 |.int _,_,_,h=>h
 |.str _,_,_,h=>h
 |.tup ds,_,f,h=>by obtain⟨a,vs,e,h1,b⟩:=h;exact⟨a,vs,e,h1,IsAll.flat (by simpa only[D.flat]using f) b⟩
 |.lst ds,_,f,_=>by simp[D.flat]at f
 |.cU ks ds,_,f,_=>by simp[D.flat]at f
theorem IsAll.flat:∀{ds:List D}{vs:List V},D.bw ds=true->IsAll H m ds vs->IsAll H m' ds vs
 |[],_,_,h=>h
 |d::ds,_,f,h=>by obtain⟨v,r,e,h1,a⟩:=h;simp only[D.bw,Um]at f;exact⟨v,r,e,Is.flat f.1 h1,IsAll.flat f.2 a⟩
end
mutual
theorem Is.inj:∀{d e:D}{v:V},Is H m d v->Is H m' e v->d=e
 |.bn,e,_,h,g=>by cases e<;>first|rfl|(cases h;first|(obtain⟨_,_,z,_⟩:=g;cases z;done)|cases g)
 |.bl _,e,_,h,g=>by cases e<;>(cases h;first|(obtain⟨_,_,z,_⟩:=g;cases z;done)|(cases g;rfl)|cases g)
 |.int _,e,_,h,g=>by cases e<;>(cases h;first|(obtain⟨_,_,z,_⟩:=g;cases z;done)|(cases g;rfl)|cases g)
 |.str _,e,_,h,g=>by cases e<;>(cases h;first|(obtain⟨_,_,z,_⟩:=g;cases z;done)|(cases g;rfl)|cases g)
 |.tup ds,e,_,h,g=>by
  obtain⟨a,vs,rfl,h1,c⟩:=h;cases e with
  |tup es=>obtain⟨b,ws,z,g1,g2⟩:=g;cases z;rw[h1]at g1;cases g1;rw[IsAll.inj c g2]
  |lst es=>obtain⟨b,ws,z,g1,g2⟩:=g;cases z;rcases g1 with⟨g1,_⟩|⟨o,g1,_⟩<;>(rw[h1]at g1;cases g1)
  |cU f es=>obtain⟨b,ws,z,g1,g2⟩:=g;cases z;exact(g1.1.no h1 True.intro).elim
  |_=>cases g
 |.lst ds,e,_,h,g=>by
  obtain⟨a,vs,rfl,h1,c⟩:=h;cases e with
  |tup es=>obtain⟨b,ws,z,g1,g2⟩:=g;cases z;rcases h1 with⟨h1,_⟩|⟨o,h1,_⟩<;>(rw[h1]at g1;cases g1)
  |lst es=>
   obtain⟨b,ws,z,g1,g2⟩:=g;cases z;have e:vs=ws:=by rcases h1 with⟨h1,_⟩|⟨o,h1,_⟩<;>rcases g1 with⟨g1,_⟩|⟨i,g1,_⟩<;>(rw[h1]at g1;cases g1;try rfl)
   subst e;rw[IsAll.inj c g2]
  |cU f es=>obtain⟨b,ws,z,g1,g2⟩:=g;cases z;rcases h1 with⟨h1,_⟩|⟨o,h1,_⟩<;>exact(g1.1.no h1 True.intro).elim
  |_=>cases g
 |.cU ks ds,e,_,h,g=>by
  obtain⟨a,vs,rfl,h1,c⟩:=h;cases e with
  |tup es=>obtain⟨b,ws,z,g1,g2⟩:=g;cases z;exact(h1.1.no g1 True.intro).elim
  |lst es=>obtain⟨b,ws,z,g1,g2⟩:=g;cases z;rcases g1 with⟨g1,_⟩|⟨o,g1,_⟩<;>exact(h1.1.no g1 True.intro).elim
  |cU f es=>obtain⟨b,ws,z,g1,g2⟩:=g;cases z;obtain⟨e1,e2⟩:=h1.1.inj g1.1;subst e1 e2;rw[IsAll.inj c g2]
  |_=>cases g
theorem IsAll.inj:∀{ds es:List D}{vs:List V},IsAll H m ds vs->IsAll H m' es vs->ds=es
 |[],es,_,h,g=>by
  cases h;cases es with
  |nil=>rfl
  |cons e es=>obtain⟨_,_,z,_⟩:=g;cases z
 |d::ds,es,_,h,g=>by
  obtain⟨v,r,rfl,h1,a⟩:=h;cases es with
  |nil=>cases g
  |cons e es=>obtain⟨w,q,z,g1,g2⟩:=g;cases z;rw[Is.inj h1 g1,IsAll.inj a g2]
end
theorem IsAll.length:∀{ds:List D}{vs:List V},IsAll H m ds vs->vs.length=ds.length
 |[],_,h=>by cases h;rfl
 |d::ds,_,h=>by obtain⟨v,r,rfl,_,a⟩:=h;simp[IsAll.length a]
theorem IsAll.append:∀{ds es:List D}{vs ws:List V},IsAll H m ds vs->IsAll H m es ws->IsAll H m (ds++es) (vs++ws)
 |[],_,_,_,h,g=>by cases h;exact g
 |d::ds,_,_,_,h,g=>by obtain⟨v,r,rfl,h1,a⟩:=h;exact⟨v,r++_,rfl,h1,IsAll.append a g⟩
def IsAll.snoc(h:IsAll H m ds vs)(g:Is H m d v):IsAll H m (ds++[d]) (vs++[v]):=h.append ⟨v,[],rfl,g,rfl⟩
theorem IsAll.get:∀{ds:List D}{vs:List V}{i:Nat}{d:D},IsAll H m ds vs->ds[i]?=some d->∃v,vs[i]?=some v/\Is H m d v
 |[],_,_,_,_,e=>by simp at e
 |d::ds,_,0,_,h,e=>by obtain⟨v,r,rfl,h1,c⟩:=h;simp at e;subst e;exact⟨v,rfl,h1⟩
 |d::ds,_,i+1,_,h,e=>by obtain⟨v,r,rfl,h1,c⟩:=h;obtain⟨w,a,b⟩:=IsAll.get (i:=i) c (by simpa using e);exact⟨w,by simpa using a,b⟩
theorem IsAll.take:∀{ds:List D}{vs:List V}(n:Nat),IsAll H m ds vs->IsAll H m (ds.take n) (vs.take n)
 |_,_,0,_=>rfl
 |[],_,n+1,h=>by cases h;exact rfl
 |d::ds,_,n+1,h=>by obtain⟨v,r,rfl,h1,a⟩:=h;exact⟨v,r.take n,rfl,h1,IsAll.take n a⟩
theorem IsAll.drop:∀{ds:List D}{vs:List V}(n:Nat),IsAll H m ds vs->IsAll H m (ds.drop n) (vs.drop n)
 |_,_,0,h=>h
 |[],_,n+1,h=>by cases h;exact rfl
 |d::ds,_,n+1,h=>by obtain⟨v,r,rfl,h1,a⟩:=h;exact IsAll.drop n a
end
section
variable{P:Xv}{w:World}{H:Hp}{s:Xt}{m m':Addr->Prop}
def Ko(ok:HOk P w H s.heap)(h:(H a=some (.lst vs)/\m a)\/∃o,H a=some (.aZ o (.lst vs))/\m a) :
 ∃its:List Xw,Vals vs its/\s.heap.IsList a its.toArray:=by
 have key:ObjOk P w H s.heap a (.lst vs)->∃its:List Xw,Vals vs its/\s.heap.IsList a its.toArray:=λ⟨_,its,n,r,e⟩=>⟨its,r,⟨_,e,rfl,n,rfl⟩⟩;rcases h with⟨h,_⟩|⟨o,h,_⟩
 .exact key (ok a _ h)
 .exact key (ok a _ h).2
def Kp(ok:HOk P w H s.heap)(h:H a=some (.tup vs)):∃its:List Xw,Vals vs its/\s.heap.IsTuple a its.toArray:=by obtain⟨_,its,r,e⟩:=ok a _ h;exact⟨its,r,e⟩
theorem A0(n:Nat)(e:Nat->Bool):(List.range n).all e=true↔∀j,j<n->e j=true:=by simp[UK,Ur]
theorem qh:∀(ds es:List D),eqDs ds es=true↔ds.length=es.length/\∀(j:Nat)(d e:D),ds[j]?=some d->es[j]?=some e->gE d e=true
 |[],[]=>by simp[eqDs]
 |[],e::es=>by simp[eqDs]
 |d::ds,[]=>by simp[eqDs]
 |d::ds,e::es=>by
  simp only[eqDs,Um,qh ds es,T2,Nat.add_right_cancel_iff];constructor
  .rintro⟨h1,c,b⟩;refine⟨c,λj x y ex a=>?_⟩;cases j with
   |zero=>simp at ex a;subst ex;subst a;exact h1
   |succ j=>exact b j x y (by simpa using ex) (by simpa using a)
  .rintro⟨c,b⟩;exact⟨b 0 d e rfl rfl,c,λj x y ex a=>b (j+1) x y (by simpa using ex) (by simpa using a)⟩
theorem f9:∀{ds:List D}{j:Nat}{d:D},ds[j]?=some d->d.dep<=D.gZ ds
 |[],_,_,e=>by simp at e
 |d::ds,0,_,e=>by simp at e;subst e;simp only[D.gZ];lia
 |d::ds,j+1,x,e=>by have:=f9 (ds:=ds) (j:=j) (d:=x) (by simpa using e);simp only[D.gZ];lia
def uf(ok:HOk P w H s.heap){A:Xx}{ds es:List D}(h1:IsAll H m ds vs)(b:IsAll H m' es ws)(c:Vals vs its)(f:Vals ws its2)
 (rec:∀d∈ds,∀e∈es,∀(v w:V)(u u':Xw),Is H m d v->Is H m' e w->RelV v u->RelV w u'->SeqAt.EqAt A.in1 s u u' (gE d e)) :
 ∀j (g:j<its.toArray.size) (h:j<its2.toArray.size),SeqAt.EqAt A.in1 s its.toArray[j] its2.toArray[j] (match ds[j]?,es[j]? with|some d,some e=>gE d e|_,_=>true):=by
 intro j g h;have p:=c.length;have q:=f.length;have r:=h1.length;have t:=b.length;have x:j<its.length:=by simpa using g
 have y:j<its2.length:=by simpa using h
 have k1:j<ds.length:=by lia
 have k2:j<es.length:=by lia
 obtain⟨v,k,z⟩:=h1.get (i:=j) (d:=ds[j]) (by simp[k1]);obtain⟨B,a,l⟩:=b.get (i:=j) (d:=es[j]) (by simp[k2]);obtain⟨u,C,E⟩:=c.get k;obtain⟨u',n,o⟩:=f.get a
 grind
theorem yg(a:ds.length=es.length) :
 ((List.range ds.length).all λj=>match ds[j]?,es[j]? with|some d,some e=>gE d e|_,_=>true)=eqDs ds es:=by
 grind [A0,qh]
theorem ug(a:ds.length≠es.length):eqDs ds es=false:=by grind [eqDs,qh]
abbrev oC(H:Hp)(s:Xt)(m m':Addr->Prop)(A:Xx)(n:Nat):Prop:=∀(d e:D)(v w:V)(u u':Xw),d.dep<n->e.dep<1000->Is H m d v->Is H m' e w->RelV v u->RelV w u'->SeqAt.EqAt A.in1 s u u' (gE d e)
section
variable{A:Xx}{n:Nat}{l1 l2:List D}{vs1 vs2:List V}{its1 its2:List Xw}{a1 a2:Addr}
def qj(ok:HOk P w H s.heap)(i:(D.lst l1).dep<=n)(k:(D.lst l2).dep<1000)(f:A.units<cLine)(q1:IsAll H m l1 vs1)(q2:IsAll H m' l2 vs2)(g:Vals vs1 its1)(h:Vals vs2 its2)(p1:s.heap.IsList a1 its1.toArray)(p2:s.heap.IsList a2 its2.toArray)
 (rec:oC H s m m' A n):SeqAt.RcAt A s (.ref a1) (.ref a2) (gE (.lst l1) (.lst l2)):=by
 have e1:its1.toArray.size=l1.length:=by rw[TR,<- g.length,q1.length]
 have e2:its2.toArray.size=l2.length:=by rw[TR,<- h.length,q2.length]
 have hd:∀d∈l1,d.dep<n:=λd hd=>by obtain⟨j,b⟩:=TZ.mp hd;have:=f9 b;simp only[D.dep]at i;lia
 have l:∀e∈l2,e.dep<1000:=λd hd=>by obtain⟨j,b⟩:=TZ.mp hd;have:=f9 b;simp only[D.dep]at k;lia
 by_cases a:l1.length=l2.length
 .have z:=SeqAt.RcAt.lists p1 p2 (by rw[e1,e2,a]) f (uf ok q1 q2 g h λd o e c v w u u' p q r t=>rec d e v w u u' (hd d o) (l e c) p q r t);rw[e1,yg a]at z;exact z
 .have z:=SeqAt.RcAt.lists_lengths p1 p2 (by rw[e1,e2];simpa using a) f;rw[show gE (.lst l1) (.lst l2)=eqDs l1 l2 from rfl,ug a];exact z
def uh(ok:HOk P w H s.heap)(i:(D.lst l1).dep<=n)(k:(D.lst l2).dep<1000)(f:A.units<cLine)(q1:IsAll H m l1 vs1)(q2:IsAll H m' l2 vs2)(g:Vals vs1 its1)(h:Vals vs2 its2)(p1:s.heap.IsList a1 its1.toArray)(p2:s.heap.IsList a2 its2.toArray)
 (rec:oC H s m m' A n):SeqAt.RcNeAt A s (.ref a1) (.ref a2) (!gE (.lst l1) (.lst l2)):=by
 have e1:its1.toArray.size=l1.length:=by rw[TR,<- g.length,q1.length]
 have e2:its2.toArray.size=l2.length:=by rw[TR,<- h.length,q2.length]
 have hd:∀d∈l1,d.dep<n:=λd hd=>by obtain⟨j,b⟩:=TZ.mp hd;have:=f9 b;simp only[D.dep]at i;lia
 have l:∀e∈l2,e.dep<1000:=λd hd=>by obtain⟨j,b⟩:=TZ.mp hd;have:=f9 b;simp only[D.dep]at k;lia
 by_cases a:l1.length=l2.length
 .have z:=SeqAt.RcNeAt.lists p1 p2 (by rw[e1,e2,a]) f (uf ok q1 q2 g h λd o e c v w u u' p q r t=>rec d e v w u u' (hd d o) (l e c) p q r t);rw[e1,yg a]at z;exact z
 .have z:=SeqAt.RcNeAt.lists_lengths p1 p2 (by rw[e1,e2];simpa using a) f;rw[show gE (.lst l1) (.lst l2)=eqDs l1 l2 from rfl,ug a];exact z
def zp:((List.range (min l1.length l2.length)).all (λj=>match l1[j]?,l2[j]? with|some d,some e=>gE d e|_,_=>true)&&l1.length==l2.length)=eqDs l1 l2:=by grind [yg,ug]
def sW(ok:HOk P w H s.heap)(g:(D.tup l1).dep<=n)(h:(D.tup l2).dep<1000)(i:A.units<cLine)(q1:IsAll H m l1 vs1)(q2:IsAll H m' l2 vs2)(c:Vals vs1 its1)(f:Vals vs2 its2)(p1:s.heap.IsTuple a1 its1.toArray)(p2:s.heap.IsTuple a2 its2.toArray)
 (rec:oC H s m m' A n):SeqAt.RcAt A s (.ref a1) (.ref a2) (gE (.tup l1) (.tup l2)):=by
 have e1:its1.toArray.size=l1.length:=by rw[TR,<- c.length,q1.length]
 have e2:its2.toArray.size=l2.length:=by rw[TR,<- f.length,q2.length]
 have hd:∀d∈l1,d.dep<n:=λd hd=>by obtain⟨j,a⟩:=TZ.mp hd;have:=f9 a;simp only[D.dep]at g;lia
 have k:∀e∈l2,e.dep<1000:=λd hd=>by obtain⟨j,a⟩:=TZ.mp hd;have:=f9 a;simp only[D.dep]at h;lia
 have z:=SeqAt.RcAt.tuples p1 p2 i (uf ok q1 q2 c f λd l e b v w u u' o p q r=>rec d e v w u u' (hd d l) (k e b) o p q r);rw[e1,e2,zp]at z;exact z
def v_(ok:HOk P w H s.heap)(g:(D.tup l1).dep<=n)(h:(D.tup l2).dep<1000)(i:A.units<cLine)(q1:IsAll H m l1 vs1)(q2:IsAll H m' l2 vs2)(c:Vals vs1 its1)(f:Vals vs2 its2)(p1:s.heap.IsTuple a1 its1.toArray)(p2:s.heap.IsTuple a2 its2.toArray)
 (rec:oC H s m m' A n):SeqAt.RcNeAt A s (.ref a1) (.ref a2) (!gE (.tup l1) (.tup l2)):=by
 have e1:its1.toArray.size=l1.length:=by rw[TR,<- c.length,q1.length]
 have e2:its2.toArray.size=l2.length:=by rw[TR,<- f.length,q2.length]
 have hd:∀d∈l1,d.dep<n:=λd hd=>by obtain⟨j,a⟩:=TZ.mp hd;have:=f9 a;simp only[D.dep]at g;lia
 have k:∀e∈l2,e.dep<1000:=λd hd=>by obtain⟨j,a⟩:=TZ.mp hd;have:=f9 a;simp only[D.dep]at h;lia
 have z:=SeqAt.RcNeAt.tuples p1 p2 i (uf ok q1 q2 c f λd l e b v w u u' o p q r=>rec d e v w u u' (hd d l) (k e b) o p q r);rw[e1,e2,zp]at z;exact z
def wa(h:SeqAt.RcAt A s (.ref a1) (.ref a2) k)(hs:a1=a2->k=true):SeqAt.EqAt A s (.ref a1) (.ref a2) k:=by
 by_cases e:a1=a2
 .subst e;rw[hs rfl];exact SeqAt.EqAt.same _
 .exact SeqAt.EqAt.of_refs e h
end
def Is.shape(ok:HOk P w H s.heap)(c:d.dep<1000)(h:Is H m d v)(r:RelV v u):(d=.bn/\u=.none)\/(∃b,d=.bl b/\u=.bool b)\/(∃i t,d=.int i/\u=.int i t)\/(∃x t,d=.str x/\u=.str x t)\/
 (∃l a vs its,d=.lst l/\v=.ref a/\u=.ref a/\IsAll H m l vs/\Vals vs its/\s.heap.IsList a its.toArray)\/∃l a vs its,d=.tup l/\v=.ref a/\u=.ref a/\IsAll H m l vs/\Vals vs its/\s.heap.IsTuple a its.toArray:=by
 cases d with
 |bn=>cases h;cases r;exact .inl ⟨rfl,rfl⟩
 |bl b=>cases h;cases r;exact .inr (.inl ⟨b,rfl,rfl⟩)
 |int i=>cases h;obtain⟨t,rfl⟩:=r;exact .inr (.inr (.inl ⟨i,t,rfl,rfl⟩))
 |str x=>cases h;obtain⟨t,rfl⟩:=r;exact .inr (.inr (.inr (.inl ⟨x,t,rfl,rfl⟩)))
 |lst l=>obtain⟨a,vs,rfl,g,q⟩:=h;cases r;obtain⟨its,y,p⟩:=Ko ok g;exact .inr (.inr (.inr (.inr (.inl ⟨l,a,vs,its,rfl,rfl,rfl,q,y,p⟩))))
 |tup l=>obtain⟨a,vs,rfl,g,q⟩:=h;cases r;obtain⟨its,y,p⟩:=Kp ok g;exact .inr (.inr (.inr (.inr (.inr ⟨l,a,vs,its,rfl,rfl,rfl,q,y,p⟩))))
 |cU k l=>exact absurd c (by simp only[D.dep];lia)
def Gj(ok:HOk P w H s.heap)(a:A.units<cLine)(rec:oC H s m m' A n)(x:d.dep<=n)(G:n<1000)(o:e.dep<1000)(h1:Is H m d v)(y:Is H m' e w')(z:RelV v u)(B:RelV w' u') :
 SeqAt.RcAt A s u u' (gE d e):=by
 rcases h1.shape ok (by lia) z with⟨rfl,rfl⟩|⟨f,rfl,rfl⟩|⟨g,b,rfl,rfl⟩|⟨x1,b,rfl,rfl⟩|⟨C,D,p,k,rfl,rfl,rfl,q1,q,p1⟩|⟨C,D,p,k,rfl,rfl,rfl,q1,q,p1⟩<;>rcases y.shape ok o B with⟨rfl,rfl⟩|⟨h,rfl,rfl⟩|⟨i,c,rfl,rfl⟩|⟨j,c,rfl,rfl⟩|⟨E,F,r,l,rfl,rfl,rfl,q2,t,p2⟩|⟨E,F,r,l,rfl,rfl,rfl,q2,t,p2⟩;exact .none_none;exact .none_bool h;exact .none_int i c;exact .none_str j c;exact .none_list p2 a;exact .none_tuple p2 a;exact .bool_none f;exact .bool_bool f h;exact .bool_int f i c;exact .bool_str f j c;exact .bool_list f p2 a;exact .bool_tuple f p2 a;exact .int_none g b;exact .int_bool g b h;exact .int_int g b i c;exact .int_str g b j c;exact .int_list g b p2 a;exact .int_tuple g b p2 a;exact .str_none x1 b;exact .str_bool x1 b h;exact .str_int x1 b i c;exact .str_str x1 b j c;exact .str_list x1 b p2 a;exact .str_tuple x1 b p2 a;exact .list_none p1 a;exact .list_bool h p1 a;exact .list_int i c p1 a;exact .list_str j c p1 a;exact qj ok x o a q1 q2 q t p1 p2 rec;exact .list_tuple p1 p2 a;exact .tuple_none p1 a;exact .tuple_bool h p1 a;exact .tuple_int i c p1 a;exact .tuple_str j c p1 a;exact .tuple_list p1 p2 a;exact sW ok x o a q1 q2 q t p1 p2 rec
def Gk(ok:HOk P w H s.heap)(a:A.units<cLine)(rec:oC H s m m' A n)(x:d.dep<=n)(G:n<1000)(o:e.dep<1000)(h1:Is H m d v)(y:Is H m' e w')(z:RelV v u)(B:RelV w' u') :
 SeqAt.RcNeAt A s u u' (!gE d e):=by
 rcases h1.shape ok (by lia) z with⟨rfl,rfl⟩|⟨f,rfl,rfl⟩|⟨g,b,rfl,rfl⟩|⟨x1,b,rfl,rfl⟩|⟨C,D,p,k,rfl,rfl,rfl,q1,q,p1⟩|⟨C,D,p,k,rfl,rfl,rfl,q1,q,p1⟩<;>rcases y.shape ok o B with⟨rfl,rfl⟩|⟨h,rfl,rfl⟩|⟨i,c,rfl,rfl⟩|⟨j,c,rfl,rfl⟩|⟨E,F,r,l,rfl,rfl,rfl,q2,t,p2⟩|⟨E,F,r,l,rfl,rfl,rfl,q2,t,p2⟩;exact .none_none;exact .none_bool h;exact .none_int i c;exact .none_str j c;exact .none_list p2 a;exact .none_tuple p2 a;exact .bool_none f;exact .bool_bool f h;exact .bool_int f i c;exact .bool_str f j c;exact .bool_list f p2 a;exact .bool_tuple f p2 a;exact .int_none g b;exact .int_bool g b h;exact .int_int g b i c;exact .int_str g b j c;exact .int_list g b p2 a;exact .int_tuple g b p2 a;exact .str_none x1 b;exact .str_bool x1 b h;exact .str_int x1 b i c;exact .str_str x1 b j c;exact .str_list x1 b p2 a;exact .str_tuple x1 b p2 a;exact .list_none p1 a;exact .list_bool h p1 a;exact .list_int i c p1 a;exact .list_str j c p1 a;exact uh ok x o a q1 q2 q t p1 p2 rec;exact .list_tuple p1 p2 a;exact .tuple_none p1 a;exact .tuple_bool h p1 a;exact .tuple_int i c p1 a;exact .tuple_str j c p1 a;exact .tuple_list p1 p2 a;exact v_ ok x o a q1 q2 q t p1 p2 rec
def zq(ok:HOk P w H s.heap)(a:A.units<cLine)(rec:oC H s m m' A n)(y:d.dep<=n)(I:n<1000)(o:e.dep<1000)(h1:Is H m d v)(p:Is H m' e w')(B:RelV v u)(C:RelV w' u') :
 SeqAt.EqAt A s u u' (gE d e):=by
 rcases h1.shape ok (by lia) B with⟨rfl,rfl⟩|⟨f,rfl,rfl⟩|⟨g,b,rfl,rfl⟩|⟨x1,b,rfl,rfl⟩|⟨D,E,q,k,rfl,rfl,rfl,q1,r,p1⟩|⟨D,E,q,k,rfl,rfl,rfl,q1,r,p1⟩<;>rcases p.shape ok o C with⟨rfl,rfl⟩|⟨h,rfl,rfl⟩|⟨i,c,rfl,rfl⟩|⟨j,c,rfl,rfl⟩|⟨F,G,t,l,rfl,rfl,rfl,q2,x,p2⟩|⟨F,G,t,l,rfl,rfl,rfl,q2,x,p2⟩;exact .same _;exact .none_bool h;exact .none_int i c;exact .none_str j c;exact .none_list p2 a;exact .none_tuple p2 a;exact .bool_none f;exact .bool_bool f h;exact .bool_int f i c;exact .bool_str f j c;exact .bool_list f p2 a;exact .bool_tuple f p2 a;exact .int_none g b;exact .int_bool g b h;exact .int_int g b i c;exact .int_str g b j c;exact .int_list g b p2 a;exact .int_tuple g b p2 a;exact .str_none x1 b;exact .str_bool x1 b h;exact .str_int x1 b i c;exact .str_str x1 b j c;exact .str_list x1 b p2 a;exact .str_tuple x1 b p2 a;exact .list_none p1 a;exact .list_bool h p1 a;exact .list_int i c p1 a;exact .list_str j c p1 a;exact wa (qj ok y o a q1 q2 r x p1 p2 rec) (λz=>by subst z;rw[Is.inj h1 p];exact jZ _);exact .list_tuple p1 p2 a;exact .tuple_none p1 a;exact .tuple_bool h p1 a;exact .tuple_int i c p1 a;exact .tuple_str j c p1 a;exact .tuple_list p1 p2 a;exact wa (sW ok y o a q1 q2 r x p1 p2 rec) (λz=>by subst z;rw[Is.inj h1 p];exact jZ _)
theorem C7(ok:HOk P w H s.heap):∀(n:Nat)(A:Xx){d e:D}{v c:V}{u u':Xw},A.units+n<cLine->n<1000->d.dep<=n->e.dep<1000->Is H m d v->Is H m' e c->RelV v u->RelV c u'->SeqAt.EqAt A s u u' (gE d e)
 |0,A,d,e,v,c,u,u',j,f,g,h,h1,i,a,b=>zq ok (by lia) (λd e v w u u' hd=>absurd hd (by lia)) g f h h1 i a b
 |n+1,A,d,e,v,c,u,u',j,f,g,h,h1,i,a,b=>zq ok (by lia) (λd e v w u u' hd k l o a b=>C7 ok n A.in1 (by show A.units+1+n<cLine;lia) (by lia) (by lia) k l o a b) g f h h1 i a b
def C8(ok:HOk P w H s.heap)(h:A.units+n<cLine)(i:n<1000):oC H s m m' A n:=λd e v w u u' hd a b c f g=>C7 ok (n-1) A.in1 (by show A.units+1+(n-1)<cLine;lia) (by lia) (by lia) a b c f g
end
abbrev St:=L2.St
inductive Res(α:Type) where
 |stuck|ok (a:α)|exc (c:Str)
noncomputable def Res.bind{α b:Type}:Res α->(α->Res b)->Res b
 |.stuck,_=>.stuck
 |.exc c,_=>.exc c
 |.ok a,k=>k a
@[simp] theorem Res.ii {α b:Type}(a:α)(k:α->Res b):(Res.ok a).bind k=k a:=rfl
inductive Kd where
 |no|tr (d:D)|ds (d:D)
inductive Sl where
 |val (d:D) (fr:Bool)|own (ds:List D) (fr:Bool)|g9 (d:D)|B4 (d:D)
noncomputable abbrev En:=List (Option Sl)
inductive R where
 |val (d:D) (fr:Bool) (al:List Nat)|new (ds:List D) (fr:Bool)|g8 (d:D)
noncomputable def R.d:R->D
 |.val d _ _=>d
 |.new ds _=>.lst ds
 |.g8 d=>d
noncomputable def R.fr:R->Bool
 |.val _ f _=>f
 |.new _ f=>f
 |.g8 _=>true
noncomputable def R.al:R->List Nat
 |.val _ _ al=>al
 |.new _ _=>[]
 |.g8 _=>[]
def jJ(d:D)(fr:Bool)(al:List Nat):R:=if d.flat then .val d true []else .val d fr al
structure Gd where
 H₀:Hp
 Ma:Addr->Prop
 Z:Addr->Prop
 root:Option V
 QK:Option V
noncomputable abbrev NY(H:Hp)(Ma:Addr->Prop):Gd:=⟨H,Ma,λ_=>False,none,none⟩
def MuZ(g:Gd)(H:Hp)(a:Addr):Prop:=Mu H a\/(g.Z a/\∃o u,H a=some (.aZ o u))
theorem MuZ.same(h:MuZ g H a)(s:∀o,H a=some o->H' a=some o):MuZ g H' a:=h.imp (λz=>z.same s) λ⟨z,o,u,e⟩=>⟨z,o,u,s _ e⟩
def fQ(g:Gd)(M:Addr->Prop)(fr:Bool)(a:Addr):Prop:=M a/\(fr=true->g.H₀ a=none)
noncomputable abbrev Pr:=Nat->Addr->Prop
def vmsk(g:Gd)(M:Addr->Prop)(fr:Bool)(b:Pr)(al:List Nat)(a:Addr):Prop:=fQ g M fr a\/∃i,i∈al/\b i a
mutual
noncomputable def IsSh(H:Hp)(m:Addr->Prop):D->V->Prop
 |.tup ds,v=>∃a vs,v=.ref a/\H a=some (.tup vs)/\IsShs H m ds vs
 |.lst _,v=>∃a vs,v=.ref a/\H a=some (.lst vs)/\m a
 |_,_=>True
noncomputable def IsShs(H:Hp)(m:Addr->Prop):List D->List V->Prop
 |[],_=>True
 |d::ds,vs=>∃v r,vs=v::r/\IsSh H m d v/\IsShs H m ds r
end
def Dst(H:Hp)(T:Addr->Prop)(v:V):Prop:=∃(a:Addr)(vs:List V),v=.ref a/\T a/\(H a=some (.lst vs)\/(∃kvs,H a=some (.dK kvs)/\vs=kvs.map Prod.snd)\/(H a=some (.dT [])/\vs=[]))/\V.ref a∉vs/\∀(i j:Nat)(b:Addr),vs[i]?=some (V.ref b)->vs[j]?=some (V.ref b)->i=j
def Dst.mono(kp:∀a o,T a->H a=some o->H' a=some o)(b:∀a,T a->T' a)(h:Dst H T v):Dst H' T' v:=by obtain⟨a,vs,e,ta,h1,c⟩:=h;exact⟨a,vs,e,b a ta,h1.imp (kp a _ ta) (.imp (λ⟨kvs,q,z⟩=>⟨kvs,kp a _ ta q,z⟩) λ⟨q,z⟩=>⟨kp a _ ta q,z⟩),c⟩
def KdOk(H:Hp)(T:Addr->Prop)(v:V):Kd->Prop
 |.no=>True
 |.tr d=>Is H T d v
 |.ds d=>Is H T d v/\Dst H T v
theorem KdOk.mono(kp:∀a o,H a=some o->(T a\/iA o)->H' a=some o)(h:KdOk H T v k):KdOk H' T v k:=by
 cases k with
 |no=>exact h
 |tr d=>exact Is.mono kp (λ_ _ _ z=>z) h
 |ds d=>exact⟨Is.mono kp (λ_ _ _ z=>z) h.1,h.2.mono (λa o z e=>kp a o e (.inl z)) λ_ z=>z⟩
noncomputable def Gd.rt(g:Gd)(n:Nat):Option V:=if n=0 then g.root else g.QK
def SlOk(g:Gd)(M T:Addr->Prop)(H:Hp)(v:V):Sl->Prop
 |.val d fr=>Is H (fQ g M fr) d v
 |.own ds fr=>∃a vs,v=.ref a/\H a=some (.lst vs)/\(∀b,T b↔b=a)/\IsAll H (fQ g M fr) ds vs
 |.g9 d=>Is H T d v
 |.B4 d=>IsSh H T d v
noncomputable def Sl.QH:Sl->Bool
 |.val _ _=>false
 |_=>true
def hJ(env:En)(j:Nat):Bool:=match env[j]? with
 |some (some sl)=>sl.QH
 |_=>false
structure Rep(g:Gd) (M:Addr->Prop) (ρ:Pr) (env:En) (σ:St) (H:Hp):Prop where
 same:Same g.H₀ H
 jG:∀a,M a->H a≠none
 u9:∀a,M a->g.H₀ a=none\/g.Ma a
 fl:∀a,M a->g.H₀ a=none->MuZ g H a
 slot:∀(i:Nat)(sl:Sl),env[i]?=some (some sl)->∃v,σ[i]?=some (some v)/\SlOk g M (ρ i) H v sl
 b8:∀(i:Nat)(a:Addr),ρ i a->¬M a/\g.H₀ a=none/\Mu H a
 apart:∀(i j:Nat)(a:Addr),ρ i a->ρ j a->i=j
 ow:∀(i:Nat)(a:Addr),ρ i a->hJ env i=true
 len:env.length=σ.length
 zz:∀a,g.Z a->H a≠none
def ROk(g:Gd)(M:Addr->Prop)(b:Pr)(c H:Hp)(v:V):R->Prop
 |.val d fr al=>Is H (vmsk g M fr b al) d v
 |.new ds fr=>∃a vs,v=.ref a/\H a=some (.lst vs)/\¬M a/\c a=none/\(∀i,¬b i a)/\IsAll H (fQ g M fr) ds vs
 |.g8 d=>∃T:Addr->Prop,(∀a,T a->¬M a/\c a=none/\Mu H a/\∀i,¬b i a)/\Is H T d v
structure Ext(M:Addr->Prop) (H:Hp) (M':Addr->Prop) (H':Hp):Prop where
 m:∀a,M a->M' a
 h:Same H H'
 n:∀a,M' a->M a\/H a=none
theorem Ext.refl(M:Addr->Prop)(H:Hp):Ext M H M H:=⟨λ_ z=>z,Same.refl H,λ_ z=>.inl z⟩
theorem Ext.trans{M M1 M2:Addr->Prop}(a:Ext M H M1 H1)(b:Ext M1 H1 M2 H2):Ext M H M2 H2:=⟨λx z=>b.m x (a.m x z),a.h.trans b.h,λx z=>(b.n x z).elim (a.n x) λw=>.inr (a.h.free w)⟩
section
variable{g:Gd}{M M':Addr->Prop}{ρ:Pr}{env:En}{σ:St}{H H' H0:Hp}{fr:Bool}{al:List Nat}
mutual
theorem IsSh.mono(kp:∀a o,H a=some o->iA o->H' a=some o)(c:∀a vs,m a->H a=some (.lst vs)->∃vs',H' a=some (.lst vs'))(f:∀a,m a->m' a):∀{d:D}{v:V},IsSh H m d v->IsSh H' m' d v
 |.bn,_,h=>h
 |.bl _,_,h=>h
 |.int _,_,h=>h
 |.str _,_,h=>h
 |.tup ds,_,h=>by obtain⟨a,vs,e,h1,b⟩:=h;exact⟨a,vs,e,kp a _ h1 True.intro,IsShs.mono kp c f b⟩
 |.lst ds,_,h=>by obtain⟨a,vs,e,h1,b⟩:=h;obtain⟨vs',i⟩:=c a vs b h1;exact⟨a,vs',e,i,f a b⟩
 |.cU _ _,_,h=>h
theorem IsShs.mono(kp:∀a o,H a=some o->iA o->H' a=some o)(b:∀a vs,m a->H a=some (.lst vs)->∃vs',H' a=some (.lst vs'))(c:∀a,m a->m' a):∀{ds:List D}{vs:List V},IsShs H m ds vs->IsShs H' m' ds vs
 |[],_,h=>h
 |d::ds,_,h=>by obtain⟨v,r,e,h1,f⟩:=h;exact⟨v,r,e,IsSh.mono kp b c h1,IsShs.mono kp b c f⟩
end
def fQ.mono(b:∀a,M a->M' a)(h:fQ g M fr a):fQ g M' fr a:=⟨b a h.1,h.2⟩
theorem vmsk.mono(b:∀a,M a->M' a)(h:vmsk g M fr ρ al a):vmsk g M' fr ρ al a:=h.imp (fQ.mono b) id
def Is.ext(e:Ext M H M' H')(h:Is H (vmsk g M fr ρ al) d v):Is H' (vmsk g M' fr ρ al) d v:=h.mono (λa o q _=>e.h a o q) λ_ _ _ z=>z.mono e.m
def IsAll.ext(e:Ext M H M' H')(h:IsAll H (vmsk g M fr ρ al) ds vs):IsAll H' (vmsk g M' fr ρ al) ds vs:=h.mono (λa o q _=>e.h a o q) λ_ _ _ z=>z.mono e.m
theorem SlOk.weak(c:∀a,M a->M' a)(h:SlOk g M T H v sl):SlOk g M' T H v sl:=by
 cases sl with
 |val d fr=>exact Is.weak (λb z=>fQ.mono c z) h
 |own ds fr=>obtain⟨b,vs,rfl,h1,e,f⟩:=h;exact⟨b,vs,rfl,h1,e,IsAll.weak (λb z=>fQ.mono c z) f⟩
 |g9 d=>exact h
 |B4 d=>exact h
theorem SlOk.same(s:Same H H')(h:SlOk g M T H v sl):SlOk g M T H' v sl:=by
 cases sl with
 |val d fr=>exact Is.same s h
 |own ds fr=>obtain⟨b,vs,rfl,h1,c,f⟩:=h;exact⟨b,vs,rfl,s _ _ h1,c,IsAll.same s f⟩
 |g9 d=>exact Is.same s h
 |B4 d=>exact IsSh.mono (λa o e _=>s a o e) (λa vs _ e=>⟨vs,s _ _ e⟩) (λ_ z=>z) h
def Rep.Fi{T:Addr->Prop}(r:Rep g M ρ env σ H)(ht:∀a,T a->Mu H a/\g.H₀ a=none/\∀i,¬ρ i a):Rep g (λb=>M b\/T b) ρ env σ H where
 same:=r.same
 jG:=λb hb=>hb.elim (r.jG b) λe=>(ht b e).1.some
 u9:=λb hb=>hb.elim (r.u9 b) λe=>.inl (ht b e).2.1
 fl:=λb hb h0=>hb.elim (λz=>r.fl b z h0) λe=>.inl (ht b e).1
 slot:=λi sl e=>by obtain⟨v,ev,s⟩:=r.slot i sl e;exact⟨v,ev,SlOk.weak (λ_=>.inl) s⟩
 b8:=λi a h=>⟨λz=>z.elim (r.b8 i a h).1 λz=>(ht a z).2.2 i h,(r.b8 i a h).2⟩
 apart:=r.apart
 ow:=r.ow
 len:=r.len
 zz:=r.zz
def Rep.more{a:Addr}(r:Rep g M ρ env σ H)(ha:H a=some (.lst ws))(c:g.H₀ a=none)(no:∀i,¬ρ i a):Rep g (λb=>M b\/b=a) ρ env σ H:=r.Fi λb e=>by subst e;exact⟨Mu.lst ha,c,no⟩
def Rep.grow(r:Rep g M ρ env σ H)(s:Same H H'):Rep g M ρ env σ H' where
 same:=r.same.trans s
 jG:=λa ha e=>by
  cases q:H a with
  |none=>exact r.jG a ha q
  |some o=>rw[s a o q]at e;cases e
 u9:=r.u9
 fl:=λa ha h0=>(r.fl a ha h0).same λo e=>s a o e
 slot:=λi sl e=>by obtain⟨v,ev,k⟩:=r.slot i sl e;exact⟨v,ev,SlOk.same s k⟩
 b8:=λi a h=>let ⟨a1,a2,a3⟩:=r.b8 i a h;⟨a1,a2,a3.same λo e=>s a o e⟩
 apart:=r.apart
 ow:=r.ow
 len:=r.len
 zz:=λa z e=>by
  cases q:H a with
  |none=>exact r.zz a z q
  |some o=>rw[s a o q]at e;cases e
theorem Rep.free(r:Rep g M ρ env σ H)(h:H a=none):g.H₀ a=none/\¬M a/\∀i,¬ρ i a:=by refine⟨r.same.free h,λz=>r.jG a z h,λi o=>?_⟩;exact(r.b8 i a o).2.2.some h
def aK(h:H a=none):Same H (aP H a o):=λb u e=>by rw[af (ai e h)];exact e
theorem ROk.is(c:Rep g M ρ env σ H)(x:Ext M0 H0 M H)(f:Same g.H₀ H0)(h:ROk g M ρ H0 H v r):∃M',Ext M0 H0 M' H/\(∀a,M a->M' a)/\Rep g M' ρ env σ H/\Is H (vmsk g M' r.fr ρ r.al) r.d v:=by
 cases r with
 |val d fr al=>exact⟨M,x,λ_ z=>z,c,h⟩
 |new ds fr=>obtain⟨a,vs,rfl,h1,t,j,l,o⟩:=h;have k:g.H₀ a=none:=f.free j;exact⟨λb=>M b\/b=a,⟨λb z=>.inl (x.m b z),x.h,λb z=>z.elim (x.n b) λe=>.inr (e▸j)⟩,λ_=>.inl,c.more h1 k l,a,vs,rfl,.inl ⟨h1,.inl ⟨.inr rfl,λ_=>k⟩⟩,IsAll.weak (λb z=>.inl (fQ.mono (λ_=>.inl) z)) o⟩
 |g8 d=>obtain⟨T,i,is⟩:=h;exact⟨λb=>M b\/T b,⟨λb z=>.inl (x.m b z),x.h,λb z=>z.elim (x.n b) λe=>.inr (i b e).2.1⟩,λ_=>.inl,c.Fi λa z=>let ⟨u,p,q,s⟩:=i a z;⟨q,f.free p,s⟩,Is.weak (λb z=>.inl ⟨.inr z,λ_=>f.free (i b z).2.1⟩) is⟩
theorem ROk.jJ(h:Is H (vmsk g M fr ρ al) d v):ROk g M ρ H0 H v (jJ d fr al):=by
 unfold L3.jJ;split
 .exact Is.flat (by assumption) h
 .exact h
def ROk.back(s:Same H1 H0)(h:ROk g M ρ H0 H v r):ROk g M ρ H1 H v r:=by
 cases r with
 |val d fr al=>exact h
 |new ds fr=>obtain⟨a,vs,rfl,h1,b,c,e,f⟩:=h;exact⟨a,vs,rfl,h1,b,s.free c,e,f⟩
 |g8 d=>obtain⟨T,i,is⟩:=h;exact⟨T,λa z=>let ⟨j,k,l⟩:=i a z;⟨j,s.free k,l⟩,is⟩
end
def Gm(mg:Str->Option Xw)(E:XK)(g:Gd)(c:Str):Prop:=∀cls a H',mg c=some cls->Same g.H₀ H'->E cls a H'
section
variable(mg:Str->Option Xw)(E:XK)(g:Gd)(M:Addr->Prop)(ρ:Pr)(env:En)(σ:St)(H:Hp)
def PostE(Q:VK):Res R->Prop
 |.stuck=>False
 |.exc c=>Gm mg E g c
 |.ok r=>∀v a H',Ext M H a H'->Rep g a ρ env σ H'->ROk g a ρ H H' v r->Q v H'
def bM(rs:List R):Bool:=rs.all R.fr
def cn(rs:List R):List Nat:=rs.flatMap R.al
def PostA(Q:List V->Hp->Prop):Res (List R)->Prop
 |.stuck=>False
 |.exc c=>Gm mg E g c
 |.ok rs=>∀vs a H',Ext M H a H'->Rep g a ρ env σ H'->IsAll H' (vmsk g a (bM rs) ρ (cn rs)) (rs.map R.d) vs->Q vs H'
noncomputable def PostT(Q:Bool->Hp->Prop):Res Bool->Prop
 |.stuck=>False
 |.exc c=>Gm mg E g c
 |.ok b=>∀a H',Ext M H a H'->Rep g a ρ env σ H'->Q b H'
end
def Snd(mg:Str->Option Xw)(E:XK)(t:TE)(f:En->Res R):Prop:=∀g M a env σ H Q,Rep g M a env σ H->PostE mg E g M a env σ H Q (f env)->t σ H Q
def SndA(mg:Str->Option Xw)(E:XK)(t:TA)(f:En->Res (List R)):Prop:=∀g M a env σ H Q,Rep g M a env σ H->PostA mg E g M a env σ H Q (f env)->t σ H Q
def SndT(mg:Str->Option Xw)(E:XK)(t:TT)(f:En->Res Bool):Prop:=∀g M a env σ H Q,Rep g M a env σ H->PostT mg E g M a env σ H Q (f env)->t σ H Q
def PD(X:Cx)(E:XK)(e:Expr)(f:En->Res R):Prop:=∃t,PE X e t/\Snd X.mg E t f
def C9(X:Cx)(E:XK)(es:List Expr)(f:En->Res (List R)):Prop:=∃t,PA X es t/\SndA X.mg E t f
def zr(X:Cx)(E:XK)(e:Expr)(f:En->Res Bool):Prop:=∃t,PT X e t/\SndT X.mg E t f
def PWD(X:Cx)(E:XK)(e:Expr)(f:En->Res Bool):Prop:=∃t,PW X e t/\SndT X.mg E t f
theorem PWD.pt(h:PWD X E e f):zr X E e f:=let ⟨t,a,b⟩:=h;⟨t,a.pt,b⟩
section
variable{mg:Str->Option Xw}{E:XK}{g:Gd}{M M':Addr->Prop}{ρ:Pr}{env:En}{σ:St}{H H':Hp}
def PostE.ext(e:Ext M H M' H')(p:PostE mg E g M ρ env σ H Q r):PostE mg E g M' ρ env σ H' Q r:=by
 cases r with
 |stuck=>exact p
 |exc c=>exact p
 |ok r=>exact λv M2 b e2 a ro=>p v M2 b (e.trans e2) a (ro.back e.h)
def PostA.ext(e:Ext M H M' H')(p:PostA mg E g M ρ env σ H Q r):PostA mg E g M' ρ env σ H' Q r:=by
 cases r with
 |stuck=>exact p
 |exc c=>exact p
 |ok r=>exact λv M2 a e2=>p v M2 a (e.trans e2)
def PostT.ext(e:Ext M H M' H')(p:PostT mg E g M ρ env σ H Q r):PostT mg E g M' ρ env σ H' Q r:=by
 cases r with
 |stuck=>exact p
 |exc c=>exact p
 |ok r=>exact λM2 a e2=>p M2 a (e.trans e2)
def PostE.val(p:PostE mg E g M ρ env σ H Q (.ok (jJ d fr al)))(a:Rep g M ρ env σ H)(h:Is H (vmsk g M fr ρ al) d v):Q v H:=p v M H (Ext.refl M H) a (ROk.jJ h)
theorem PostE.new(p:PostE mg E g M ρ env σ H Q (.ok (.new ds fr)))(b:Rep g M ρ env σ H)(ha:H a=none)(h:IsAll H (fQ g M fr) ds vs):Q (.ref a) (aP H a (.lst vs)):=by have s:Same H (aP H a (.lst vs)):=aK ha;obtain⟨e,c,d⟩:=b.free ha;exact p _ M _ ⟨λ_ z=>z,s,λ_ z=>.inl z⟩ (b.grow s) ⟨a,vs,rfl,ag,c,ha,d,IsAll.same s h⟩
theorem PostE.tup(p:PostE mg E g M ρ env σ H Q (.ok (jJ (.tup ds) fr al)))(b:Rep g M ρ env σ H)(ha:H a=none)(h:IsAll H (vmsk g M fr ρ al) ds vs):Q (.ref a) (aP H a (.tup vs)):=by have s:Same H (aP H a (.tup vs)):=aK ha;exact p _ M _ ⟨λ_ z=>z,s,λ_ z=>.inl z⟩ (b.grow s) (ROk.jJ ⟨a,vs,rfl,ag,IsAll.same s h⟩)
def Snd.one{t:TE}{f:En->Res R}(h:Snd mg E t f)(b:Rep g M ρ env σ H){α:Type}{K:R->Res α}{P:(M:Addr->Prop)->(H:Hp)->Res α->Prop}{Q:VK}
 (a:P M H ((f env).bind K)) (hs:∀M H,P M H .stuck->False) (l:∀M H c,P M H (.exc c)->Gm mg E g c) (m:∀M H M' H' r,Ext M H M' H'->P M H r->P M' H' r)
 (k:∀r v M' H',Ext M H M' H'->Rep g M' ρ env σ H'->Is H' (vmsk g M' r.fr ρ r.al) r.d v->P M' H' (K r)->Q v H'):t σ H Q:=by
 refine h g M ρ env σ H Q b ?_;cases e:f env with
 |stuck=>rw[e]at a;exact hs _ _ a
 |exc c=>rw[e]at a;exact l _ _ c a
 |ok r=>rw[e]at a;intro v M1 n e1 i ro;obtain⟨M2,e2,_,j,is⟩:=ro.is i e1 b.same;exact k r v M2 n e2 j is (m _ _ _ _ _ e2 a)
def Snd.fL{f:En->Res R}(h:Snd mg E t f)(a:Rep g M ρ env σ H){K:R->Res R}(b:PostE mg E g M ρ env σ H Q' ((f env).bind K))
 (k:∀r v M' H',Ext M H M' H'->Rep g M' ρ env σ H'->Is H' (vmsk g M' r.fr ρ r.al) r.d v->PostE mg E g M' ρ env σ H' Q' (K r)->Q v H'):t σ H Q:=
 h.one a (P:=λM H r=>PostE mg E g M ρ env σ H Q' r) b (λ_ _ z=>z) (λ_ _ _ z=>z) (λ_ _ _ _ _ e p=>p.ext e) k
def Snd.MV{f:En->Res R}(h:Snd mg E t f)(a:Rep g M ρ env σ H){K:R->Res (List R)}{b:List V->Hp->Prop}(c:PostA mg E g M ρ env σ H b ((f env).bind K))
 (k:∀r v M' H',Ext M H M' H'->Rep g M' ρ env σ H'->Is H' (vmsk g M' r.fr ρ r.al) r.d v->PostA mg E g M' ρ env σ H' b (K r)->Q v H'):t σ H Q:=
 h.one a (P:=λM H r=>PostA mg E g M ρ env σ H b r) c (λ_ _ z=>z) (λ_ _ _ z=>z) (λ_ _ _ _ _ e p=>p.ext e) k
def Snd.yT{f:En->Res R}(h:Snd mg E t f)(a:Rep g M ρ env σ H){K:R->Res Bool}{b:Bool->Hp->Prop}(c:PostT mg E g M ρ env σ H b ((f env).bind K))
 (k:∀r v M' H',Ext M H M' H'->Rep g M' ρ env σ H'->Is H' (vmsk g M' r.fr ρ r.al) r.d v->PostT mg E g M' ρ env σ H' b (K r)->Q v H'):t σ H Q:=
 h.one a (P:=λM H r=>PostT mg E g M ρ env σ H b r) c (λ_ _ z=>z) (λ_ _ _ z=>z) (λ_ _ _ _ _ e p=>p.ext e) k
def Snd.B0{fa h:En->Res R}(ha:Snd mg E ta fa)(j:Snd mg E tb h)(e:Rep g M ρ env σ H){K:R->R->Res R}{S:V->V->Hp->Prop}
 (l:PostE mg E g M ρ env σ H Q' ((fa env).bind λra=>(h env).bind λa=>K ra a))
 (k:∀ra a x y M' H',Rep g M' ρ env σ H'->Is H' (vmsk g M' ra.fr ρ ra.al) ra.d x->Is H' (vmsk g M' a.fr ρ a.al) a.d y->PostE mg E g M' ρ env σ H' Q' (K ra a)->S x y H') :
 ta σ H λx i=>tb σ i λy f=>S x y f:=
 ha.fL e l λra x M1 i e1 b m p1=>j.fL b p1 λa y M2 f e2 c n p2=>k ra a x y M2 f c (m.ext e2) n p2
end
noncomputable def lim:Nat:=1000000
def j3(h:n<=lim):n<=sizeLine:=by rw[Uj];unfold lim at h;lia
def ui(h:n<lim):n<sizeLine:=by rw[Uj];unfold lim at h;lia
def oE(ds:List D)(fr:Bool)(al:List Nat):R:=if D.bw ds then .new ds true else if al.isEmpty then .new ds fr else .val (.lst ds) fr al
section
variable{mg:Str->Option Xw}{E:XK}{g:Gd}{M:Addr->Prop}{ρ:Pr}{env:En}{σ:St}{H:Hp}
def vmsk.nil(h:vmsk g M fr ρ [] a):fQ g M fr a:=h.elim id λ⟨_,z,_⟩=>absurd z (by simp)
theorem PostE.lst(p:PostE mg E g M ρ env σ H Q (.ok (oE ds fr al)))(c:Rep g M ρ env σ H)(ha:H a=none)(h:IsAll H (vmsk g M fr ρ al) ds vs):Q (.ref a) (aP H a (.lst vs)):=by
 unfold oE at p;by_cases d:D.bw ds=true
 .rw[Tv d]at p;exact p.new c ha (IsAll.flat d h)
 .rw[TJ d]at p;cases al with
  |nil=>exact PostE.new (p:=p) c ha (IsAll.weak (λ_ z=>z.nil) h)
  |cons i al=>have p:PostE mg E g M ρ env σ H Q (.ok (.val (.lst ds) fr (i::al))):=p;have s:Same H (aP H a (.lst vs)):=aK ha;obtain⟨f,k,j⟩:=c.free ha;refine p _ (λb=>M b\/b=a) _ ⟨λ_=>.inl,s,λb z=>z.imp id λ(e:b=a)=>by grind⟩ ((c.grow s).more ag f j) ⟨a,vs,rfl,.inl ⟨ag,.inl ⟨.inr rfl,λ_=>f⟩⟩,?_⟩;exact(IsAll.same s h).weak λb z=>z.mono λ_=>.inl
def Is.rd(h:Is H m (.lst ds) v):∃a vs,v=.ref a/\Rd H a (.lst vs)/\IsAll H m ds vs:=by obtain⟨a,vs,e,h1,b⟩:=h;exact⟨a,vs,e,h1.imp (·.1) λ⟨o,z,_⟩=>⟨o,z⟩,b⟩
end
section
variable{X:Cx}{E:XK}
def ao(i:Nat):En->Res R:=λenv=>match env[i]? with
 |some (some (.val d fr))=>.ok (jJ d fr [])
 |some (some (.own ds fr))=>.ok (.val (.lst ds) fr [i])
 |some (some (.g9 d))=>.ok (.val d true [i])
 |_=>.stuck
def zt:Snd mg E (aI i) (ao i):=by
 intro g M h env σ H Q b p;unfold ao at p;cases e1:env[i]? with
 |none=>rw[e1]at p;exact p.elim
 |some o=>
  cases o with
  |none=>rw[e1]at p;exact p.elim
  |some sl=>
   obtain⟨v,c,k⟩:=b.slot i sl e1;rw[e1]at p;refine⟨v,c,?_⟩;cases sl with
   |val d fr=>exact PostE.val p b (Is.weak (λ_ z=>.inl z) k)
   |own ds fr=>obtain⟨a,vs,rfl,h1,e,f⟩:=k;exact p _ M H (Ext.refl M H) b ⟨a,vs,rfl,.inl ⟨h1,.inr ⟨i,by simp,(e a).mpr rfl⟩⟩,IsAll.weak (λ_ z=>.inl z) f⟩
   |g9 d=>exact p _ M H (Ext.refl M H) b (Is.weak (λa z=>.inr ⟨i,by simp,z⟩) k)
   |B4 d=>exact p.elim
def Kq(h:PE X e (aI i)):PD X E e (ao i):=⟨_,h,zt⟩
def vC(d:D):En->Res R:=λ_=>.ok (.val d true [])
def C_(h:∀H m,Is H m d v):Snd mg E (tC v) (vC d):=λg M b env σ H Q a p=>p v M H (Ext.refl M H) a (h H _)
def aB{i j pos}:PD X E (.Constant (.int i) j pos) (vC (.int i)):=⟨_,aQ,C_ λ_ _=>rfl⟩
def NZ{b j pos}:PD X E (.Constant (.bool b) j pos) (vC (.bl b)):=⟨_,Nz,C_ λ_ _=>rfl⟩
def Da{j pos}:PD X E (.Constant .none j pos) (vC .bn):=⟨_,lI,C_ λ_ _=>rfl⟩
def v2(op:R->R->Res R)(fa a:En->Res R):En->Res R:=λenv=>(fa env).bind λra=>(a env).bind λb=>op ra b
def rE(X:Cx)(E:XK)(f:Xw->Xw->Sem Xw)(op:R->R->Res R):Prop:=∃r:R2,OpR X f r/\
 ∀g M a env σ H Q ra b x y,Rep g M a env σ H->Is H (vmsk g M ra.fr a ra.al) ra.d x->Is H (vmsk g M b.fr a b.al) b.d y->PostE X.mg E g M a env σ H Q (op ra b)->r x y H Q
def aL(e:rE X E (binaryOp op) k)(ha:PD X E a fa)(f:PD X E b fb):PD X E (.BinOp a op b pos) (v2 k fa fb):=by obtain⟨r,h1,h⟩:=e;obtain⟨ta,i,sa⟩:=ha;obtain⟨tb,j,l⟩:=f;exact⟨_,pE h1 i j,λg M m env σ H Q d p=>sa.B0 l d p λra n x y o H' c q s t=>h g o m env σ H' Q ra n x y c q s t⟩
def nI(e:rE X E (compareOp op) k)(ha:PD X E a fa)(f:PD X E b fb)(h:behindInMarks op b=false):PD X E (.Compare a [op] [b] pos) (v2 k fa fb):=by obtain⟨r,h1,i⟩:=e;obtain⟨ta,j,sa⟩:=ha;obtain⟨tb,l,m⟩:=f;exact⟨_,yY h1 j l h,λg M n env σ H Q d p=>sa.B0 m d p λra o x y q H' c s t u=>i g q n env σ H' Q ra o x y c s t u⟩
def oI(C:Int->Int->Bool)(k:Int->Int->D)(a b:R):Res R:=match a.d,b.d with
 |.int i,.int j=>if C i j then .ok (.val (k i j) true [])else .stuck
 |_,_=>.stuck
def sX{f:Xw->Xw->Sem Xw}{C:Int->Int->Prop}{kV:Int->Int->V}(c:Int->Int->Bool)(k:Int->Int->D)(l:OpR X f (rI C kV))(n:∀i j,c i j=true->C i j)(o:∀H m i j,Is H m (k i j) (kV i j)):rE X E f (oI c k):=by
 refine⟨_,l,λg M r env σ H Q ra q x y a b e p=>?_⟩;unfold oI at p;cases e1:ra.d with
 |int i=>
  rw[e1]at p b;cases e2:q.d with
  |int j=>
   rw[e2]at p e;cases b;cases e;by_cases h:c i j=true
   .simp only[h,Vd]at p;exact⟨i,j,rfl,rfl,n i j h,p _ M H (Ext.refl M H) a (o H _ i j)⟩
   .simp only[h]at p;exact p.elim
  |_=>rw[e2]at p;exact p.elim
 |_=>rw[e1]at p;exact p.elim
def uj{f:Xw->Xw->Sem Xw}{kV:Int->Int->V}(k:Int->Int->D)(c:OpR X f (AA kV))(d:∀H m i j,Is H m (k i j) (kV i j)):rE X E f (oI (λ_ _=>true) k):=by refine sX (C:=λ_ _=>True) (kV:=kV) _ k (λaa s σ H x y v u Q I e g h=>?_) (λ_ _ _=>True.intro) d;obtain⟨i,j,a,b,_,q⟩:=h;exact c aa s σ H x y v u Q I e g ⟨i,j,a,b,q⟩
noncomputable def A1(i j:Int):Bool:=(decide (-(2^64)<i)&&decide (i<2^64)) ||(decide (-(2^64)<j)&&decide (j<2^64))
def qo:R->R->Res R:=oI A1 λi j=>.int (i*j)
def nJ:R->R->Res R:=oI (λ_ j=>decide (0<j)&&decide (j<1073741824)) λi j=>.int (i/j)
def dF:R->R->Res R:=oI (λ_ j=>decide (0<j)) λi j=>.int (i%j)
def j5:rE X E (binaryOp .Mult) qo:=sX _ _ JT (λi j h=>by simp only[A1,Bool.or_eq_true,Um,Vg]at h;exact h) λ_ _ _ _=>rfl
def gF:rE X E (binaryOp .FloorDiv) nJ:=sX _ _ FF (λi j h=>by simp only[Um,Vg]at h;exact h) λ_ _ _ _=>rfl
def bC:rE X E (binaryOp .Mod) dF:=sX _ _ JU (λi j h=>by simpa using h) λ_ _ _ _=>rfl
def QQ:R->R->Res R:=oI (λ_ _=>true) λi j=>.bl (decide (i<j))
def Rr:R->R->Res R:=oI (λ_ _=>true) λi j=>.bl (decide (j<i))
def Rt:R->R->Res R:=oI (λ_ _=>true) λi j=>.bl (decide (j<=i))
def Ir:rE X E (compareOp .Lt) QQ:=uj _ Ic λ_ _ _ _=>rfl
def N0:rE X E (compareOp .Gt) Rr:=uj _ Ie λ_ _ _ _=>rfl
def N1:rE X E (compareOp .GtE) Rt:=uj _ NH λ_ _ _ _=>rfl
def Inv.SS(I:L2.Inv X aa σ H s)(h:Rd H l (.lst xs)) :
 xs.length<=sizeLine/\∃(its:List Xw)(n:Nat),Vals xs its/\xs.length=its.length/\s.heap.get? l=some { cls:=.type "list",data:=.seq its.toArray n }:=by
 obtain⟨z,its,n,r,e⟩:=(h.ok I.aS:ObjOk X.prog X.w H s.heap l (.lst xs));exact⟨z,its,n,r,r.length,e⟩
def N2:R2:=λx y H Q=>∃l b xs a,x=.ref l/\y=.ref b/\Rd H l (.lst xs)/\Rd H b (.lst a)/\xs.length+a.length<=sizeLine/\∀p,H p=none->Q (.ref p) (aP H p (.lst (xs++a)))
def op_catS:OpR X (binaryOp .Add) N2:=by
 intro aa s σ H x y v u Q I c d h;obtain⟨l,b,xs,m,rfl,rfl,f,g,hz,q⟩:=h;cases c;cases d;obtain⟨z,its,n,r,o,e⟩:=Inv.SS I f;obtain⟨p,a,t,i,j,e2⟩:=Inv.SS I g;refine PySem.P.add_list e e2 ?_ (by grind);have k:its.toArray++a.toArray=(its++a).toArray:=by simp
 rw[k];exact⟨.ref _,_,I.SB (t':=s.toks) (r.append i) (by grind),rfl,q _ I.fresh⟩
def fE(a b:R):Res R:=match a.d,b.d with
 |.int i,.int j=>.ok (.val (.int (i+j)) true [])
 |.lst xs,.lst c=>if xs.length+c.length<=lim then .ok (oE (xs++c) (a.fr&&b.fr) (a.al++b.al))else .stuck
 |.tup xs,.tup c=>if xs.length+c.length<=lim/\xs≠[]then .ok (jJ (.tup (xs++c)) (a.fr&&b.fr) (a.al++b.al))else .stuck
 |.str x,.str y=>if x.length+y.length<=lim then .ok (.val (.str (x++y)) true [])else .stuck
 |_,_=>.stuck
section
variable{g:Gd}{M:Addr->Prop}{ρ:Pr}
def vmsk.l(h:vmsk g M f1 ρ l1 a):vmsk g M (f1&&f2) ρ (l1++l2) a:=h.imp (λz=>⟨z.1,λe=>z.2 (by grind)⟩) λ⟨i,b,o⟩=>⟨i,by simp[b],o⟩
def vmsk.r(h:vmsk g M f2 ρ l2 a):vmsk g M (f1&&f2) ρ (l1++l2) a:=h.imp (λz=>⟨z.1,λe=>z.2 (by grind)⟩) λ⟨i,b,o⟩=>⟨i,by simp[b],o⟩
end
def cg:rE X E (binaryOp .Add) fE:=by
 refine⟨_,op_add.or (op_catS.or (op_catT.or xI)),λg M v env σ H Q ra n x y c e f p=>?_⟩;unfold fE at p;cases e1:ra.d with
 |int i=>
  rw[e1]at p e;cases e2:n.d with
  |int j=>rw[e2]at p f;cases e;cases f;exact .inl ⟨i,j,rfl,rfl,p _ M H (Ext.refl M H) c rfl⟩
  |_=>rw[e2]at p;exact p.elim
 |lst xs=>
  rw[e1]at p e;cases e2:n.d with
  |lst h=>
   rw[e2]at p f;obtain⟨a,vs,rfl,h1,k⟩:=e.rd;obtain⟨b,ws,rfl,o,m⟩:=f.rd;by_cases hz:xs.length+h.length<=lim
   .simp only[hz,Vd]at p;refine .inr (.inl ⟨a,b,vs,ws,rfl,rfl,h1,o,by rw[k.length,m.length];exact j3 hz,λq s=>?_⟩);exact p.lst c s ((k.weak λ_ z=>z.l).append (m.weak λ_ z=>z.r))
   .simp only[hz,UI]at p;exact p.elim
  |_=>rw[e2]at p;exact p.elim
 |tup xs=>
  rw[e1]at p e;cases e2:n.d with
  |tup h=>
   rw[e2]at p f;obtain⟨a,vs,rfl,h1,k⟩:=e;obtain⟨b,ws,rfl,o,m⟩:=f;dsimp only at p;by_cases hz:xs.length+h.length<=lim/\xs≠[]
   .rw[Tv hz]at p;have t:vs≠[]:=λz=>hz.2 (by have:=k.length;rw[z]at this;exact WR this.symm);refine .inr (.inr (.inl ⟨a,b,vs,ws,rfl,rfl,SqT.of h1,SqT.of o,t,by rw[k.length,m.length];exact j3 hz.1,λz=>?_,λ_ q s=>?_⟩))
    .have u:h=[]:=by have:=m.length;rw[z]at this;exact WR this.symm
     rw[u,V3]at p;exact p.val c (Is.weak (d:=.tup xs) (λ_ z=>z.l) ⟨a,vs,rfl,h1,k⟩)
    .exact p.tup c s ((k.weak λ_ z=>z.l).append (m.weak λ_ z=>z.r))
   .rw[TJ hz]at p;exact p.elim
  |_=>rw[e2]at p;exact p.elim
 |str xs=>
  rw[e1]at p e;cases e2:n.d with
  |str h=>
   rw[e2]at p f;cases e;cases f;by_cases hz:xs.length+h.length<=lim
   .simp only[hz,Vd]at p;exact .inr (.inr (.inr ⟨xs,h,rfl,rfl,j3 hz,p _ M H (Ext.refl M H) c rfl⟩))
   .simp only[hz,UI]at p;exact p.elim
  |_=>rw[e2]at p;exact p.elim
 |_=>rw[e1]at p;exact p.elim
def B7(a b:R):Res R:=if a.d.dep<=50/\b.d.dep<=50 then .ok (.val (.bl (gE a.d b.d)) true [])else .stuck
def Fm(a b:R):Res R:=if a.d.dep<=50/\b.d.dep<=50 then .ok (.val (.bl (!gE a.d b.d)) true [])else .stuck
def Ru:R2:=λx y H Q=>∃d e m m',Is H m d x/\Is H m' e y/\(d.dep<=50/\e.dep<=50)/\Q (.bl (gE d e)) H
def Rv:R2:=λx y H Q=>∃d e m m',Is H m d x/\Is H m' e y/\(d.dep<=50/\e.dep<=50)/\Q (.bl (!gE d e)) H
def Kr(f:X.A.units+64<cLine):OpR X (compareOp .Eq) Ru:=by intro aa s σ H x y v u Q I a b h;obtain⟨d,e,m,m',h1,c,hd,q⟩:=h;exact Gj I.aS (by lia) (C8 I.aS (A:=X.A) (n:=50) (by lia) (by lia)) hd.1 (by lia) (by lia) h1 c a b X.prog X.w X.xe _ ⟨.bl _,H,I,rfl,q⟩
def Ks(f:X.A.units+64<cLine):OpR X (compareOp .NotEq) Rv:=by intro aa s σ H x y v u Q I a b h;obtain⟨d,e,m,m',h1,c,hd,q⟩:=h;exact Gk I.aS (by lia) (C8 I.aS (A:=X.A) (n:=50) (by lia) (by lia)) hd.1 (by lia) (by lia) h1 c a b X.prog X.w X.xe _ ⟨.bl _,H,I,rfl,q⟩
def oF(b:X.A.units+64<cLine):rE X E (compareOp .Eq) B7:=by
 refine⟨_,Kr b,λg M i env σ H Q ra c x y a e f p=>?_⟩;unfold B7 at p;by_cases h:ra.d.dep<=50/\c.d.dep<=50
 .rw[Tv h]at p;exact⟨_,_,_,_,e,f,h,p _ M H (Ext.refl M H) a rfl⟩
 .rw[TJ h]at p;exact p.elim
def Dc(b:X.A.units+64<cLine):rE X E (compareOp .NotEq) Fm:=by
 refine⟨_,Ks b,λg M i env σ H Q ra c x y a e f p=>?_⟩;unfold Fm at p;by_cases h:ra.d.dep<=50/\c.d.dep<=50
 .rw[Tv h]at p;exact⟨_,_,_,_,e,f,h,p _ M H (Ext.refl M H) a rfl⟩
 .rw[TJ h]at p;exact p.elim
end
section
variable{X:Cx}{E:XK}
noncomputable def D.kR:D->Bool
 |.bn=>true
 |_=>false
def Is.As(h:Is H m d v):decide (v=.bn)=d.kR:=by
 cases d with
 |bn=>cases h;rfl
 |bl b=>cases h;rfl
 |int b=>cases h;rfl
 |str b=>cases h;rfl
 |tup ds=>obtain⟨a,vs,rfl,_⟩:=h;rfl
 |lst ds=>obtain⟨a,vs,rfl,_⟩:=h;rfl
 |cU ks ds=>obtain⟨a,vs,rfl,_⟩:=h;rfl
def Kt(fa:En->Res R):En->Res R:=λenv=>(fa env).bind λra=>.ok (.val (.bl ra.d.kR) true [])
def Ku(ha:PD X E a fa):PD X E (.Compare a [.Is] [.Constant .none j pos'] pos) (Kt fa):=by obtain⟨ta,d,sa⟩:=ha;refine⟨_,JH (B_ d),λg M k env σ H Q c p=>sa.fL c p λr v f H' e b i h=>?_⟩;show Q (.bl (decide (v=.bn))) H';rw[i.As];exact h _ f H' (Ext.refl _ _) b rfl
def Gn(fa:En->Res R):En->Res R:=λenv=>(fa env).bind λra=>match ra.d with
 |.bl b=>.ok (.val (.bl (!b)) true [])
 |_=>.stuck
def A2(fa a:En->Res R):En->Res R:=λenv=>(fa env).bind λra=>match ra.d with
 |.bl true=>a env
 |.bl false=>.ok (.val (.bl false) true [])
 |_=>.stuck
def Dd(ha:PD X E a fa):PD X E (.UnaryOp .Not a pos) (Gn fa):=by
 obtain⟨ta,j,sa⟩:=ha;refine⟨_,JN j,λg M l env σ H Q h p=>sa.fL h p λr v k H' e c i f=>?_⟩;cases q:r.d with
 |bl b=>rw[q]at i;simp only[q]at f;cases i;exact⟨b,rfl,f _ k H' (Ext.refl _ _) c rfl⟩
 |_=>simp only[q]at f;exact f.elim
def yh(ha:PD X E a fa):PD X E (.BoolOp op [a] pos) fa:=let ⟨t,b,sa⟩:=ha;⟨t,JL b,sa⟩
def uk{rest:List Expr}{fa k:En->Res R}{f:Pos}(ha:PD X E a fa)(m:PD X E (.BoolOp .And (b::rest) f) k):PD X E (.BoolOp .And (a::b::rest) f) (A2 fa k):=by
 obtain⟨ta,n,sa⟩:=ha;obtain⟨tb,o,s⟩:=m;refine⟨_,JM n o,λg M t env σ H Q j p=>sa.fL j p λr v l H' e c i h=>?_⟩;cases q:r.d with
 |bl b=>
  rw[q]at i;simp only[q]at h;cases i;refine⟨b,rfl,?_⟩;cases b with
  |true=>exact vM (s g l t env σ H' Q c h)
  |false=>exact xU (h _ l H' (Ext.refl _ _) c rfl)
 |_=>simp only[q]at h;exact h.elim
def Iu:D->Res Bool
 |.bn=>.ok false
 |.bl b=>.ok b
 |.int i=>.ok (i != 0)
 |.str y=>if y.length<=lim then .ok ((y.length:Int) != 0)else .stuck
 |.tup ds=>.ok (!ds.isEmpty)
 |.lst ds=>.ok (!ds.isEmpty)
 |.cU _ _=>.stuck
theorem Is.Iu(h:Is H m d v)(e:Iu d=.ok k):J2 X.K v H k:=by
 cases d with
 |bn=>cases h;cases e;rfl
 |bl b=>cases h;cases e;rfl
 |int b=>cases h;cases e;rfl
 |str b=>
  cases h;unfold L3.Iu at e;dsimp only at e;by_cases c:b.length<=lim
  .rw[Tv c]at e;cases e;exact⟨j3 c,rfl⟩
  .rw[TJ c]at e;cases e
 |tup ds=>obtain⟨a,vs,rfl,h1,f⟩:=h;cases e;refine .inr (.inl ⟨vs,SqT.of h1,?_⟩);have:=f.length;cases ds<;>cases vs<;>simp_all
 |lst ds=>obtain⟨a,vs,rfl,h1,f⟩:=h.rd;cases e;refine .inl ⟨vs,.inl h1,?_⟩;have:=f.length;cases ds<;>cases vs<;>simp_all
 |cU ks ds=>cases e
def Kv(fa:En->Res R):En->Res Bool:=λenv=>(fa env).bind λra=>Iu ra.d
def Kw(ha:PD X E a fa)(l:autoParam (∀b,isTrue a X.env b=(do let v <- b;standAt a.pos;holding [v] (truthy v))) ab):zr X E a (Kv fa):=by
 obtain⟨ta,m,sa⟩:=ha;refine⟨_,Ci m l,λg M o env σ H Q j p=>sa.yT j p λr v n H' e f i h=>?_⟩;cases q:Iu r.d with
 |stuck=>rw[q]at h;exact h.elim
 |exc c=>
  exfalso;unfold Iu at q
  grind
 |ok k=>rw[q]at h;exact⟨k,i.Iu q,h n H' (Ext.refl _ _) f⟩
def vB(fa:En->Res R):En->Res Bool:=λenv=>(fa env).bind λra=>match ra.d with
 |.bl b=>.ok b
 |_=>.stuck
def cM(m:rE X E (compareOp op) k)(ha:PD X E a fa)(n:PD X E b fb)(o:behindInMarks op b=false):zr X E (.Compare a [op] [b] pos) (vB (v2 k fa fb)):=by
 obtain⟨r,h1,s⟩:=m;obtain⟨ta,t,sa⟩:=ha;obtain⟨tb,u,w⟩:=n;have S:Snd X.mg E (lL r ta tb) (v2 k fa fb):=λg M l env σ H Q f p=>sa.B0 w f p λra z x y j H' c A B h=>s g j l env σ H' Q ra z x y c A B h;refine⟨_,jc h1 t u o,λg M l env σ H Q f p=>S.yT f p λr v j H' e c i h=>?_⟩;cases q:r.d with
 |bl b=>rw[q]at i;simp only[q]at h;cases i;exact⟨b,rfl,h j H' (Ext.refl _ _) c⟩
 |_=>simp only[q]at h;exact h.elim
def Gp(ha:PD X E a fa):zr X E (.Compare a [.Is] [.Constant .none j pos'] pos) (λenv=>(fa env).bind λra=>.ok ra.d.kR):=by obtain⟨ta,f,sa⟩:=ha;refine⟨_,JI (B_ f),λg M l env σ H Q c p=>sa.yT c p λr v h H' e b i k=>?_⟩;exact⟨_,rfl,by rw[i.As];exact k h H' (Ext.refl _ _) b⟩
def Kx(fa:En->Res Bool):En->Res Bool:=λenv=>(fa env).bind λb=>.ok (!b)
def Ky(fa a:En->Res Bool):En->Res Bool:=λenv=>(fa env).bind λb=>if b then a env else .ok false
def QR(fa a:En->Res Bool):En->Res Bool:=λenv=>(fa env).bind λb=>if b then .ok true else a env
section
variable{mg:Str->Option Xw}{g:Gd}{M M':Addr->Prop}{ρ:Pr}{env:En}{σ:St}{H H':Hp}
def SndT.yT{f:En->Res Bool}(h:SndT mg E t f)(i:Rep g M ρ env σ H){K:Bool->Res Bool}{j:Bool->Hp->Prop}{Q:Bool->Hp->Prop}(a:PostT mg E g M ρ env σ H j ((f env).bind K))
 (k:∀b M' H',Ext M H M' H'->Rep g M' ρ env σ H'->PostT mg E g M' ρ env σ H' j (K b)->Q b H'):t σ H Q:=by
 refine h g M ρ env σ H Q i ?_;cases e:f env with
 |stuck=>rw[e]at a;exact a
 |exc c=>rw[e]at a;exact a
 |ok b=>rw[e]at a;exact λM1 l e1 d=>k b M1 l e1 d (PostT.ext e1 a)
def SndT.fL{f:En->Res Bool}(h:SndT mg E t f)(i:Rep g M ρ env σ H){K:Bool->Res R}{Q:Bool->Hp->Prop}(a:PostE mg E g M ρ env σ H Q' ((f env).bind K))
 (k:∀b M' H',Ext M H M' H'->Rep g M' ρ env σ H'->PostE mg E g M' ρ env σ H' Q' (K b)->Q b H'):t σ H Q:=by
 refine h g M ρ env σ H Q i ?_;cases e:f env with
 |stuck=>rw[e]at a;exact a
 |exc c=>rw[e]at a;exact a
 |ok b=>rw[e]at a;exact λM1 j e1 d=>k b M1 j e1 d (PostE.ext e1 a)
end
def Gq(ha:zr X E a fa):zr X E (.UnaryOp .Not a pos) (Kx fa):=by obtain⟨ta,f,sa⟩:=ha;exact⟨_,Cb f,λg M j env σ H Q d p=>sa.yT d p λb h H' e c i=>i h H' (Ext.refl _ _) c⟩
def Dg(ha:zr X E a fa):PWD X E (.BoolOp .And [a] pos) fa:=let ⟨t,b,sa⟩:=ha;⟨t,FD b,sa⟩
def zu(ha:zr X E a fa):PWD X E (.BoolOp .Or [a] pos) fa:=let ⟨t,b,sa⟩:=ha;⟨t,Ca b,sa⟩
def Gr{rest:List Expr}{fa h:En->Res Bool}{d:Pos}(ha:zr X E a fa)(k:PWD X E (.BoolOp .And (b::rest) d) h):PWD X E (.BoolOp .And (a::b::rest) d) (Ky fa h):=by
 obtain⟨ta,l,sa⟩:=ha;obtain⟨tb,m,n⟩:=k;refine⟨_,JK l m,λg M o env σ H Q f p=>sa.yT f p λb i H' e c j=>?_⟩;cases b with
 |true=>exact vM (n g i o env σ H' Q c j)
 |false=>exact xU (j i H' (Ext.refl _ _) c)
def Dh{rest:List Expr}{fa h:En->Res Bool}{d:Pos}(ha:zr X E a fa)(k:PWD X E (.BoolOp .Or (b::rest) d) h):PWD X E (.BoolOp .Or (a::b::rest) d) (QR fa h):=by
 obtain⟨ta,l,sa⟩:=ha;obtain⟨tb,m,n⟩:=k;refine⟨_,Ib l m,λg M o env σ H Q f p=>sa.yT f p λb i H' e c j=>?_⟩;cases b with
 |true=>exact vM (j i H' (Ext.refl _ _) c)
 |false=>exact xU (n g i o env σ H' Q c j)
def Rw(a:En->Res Bool)(fa c:En->Res R):En->Res R:=λenv=>(a env).bind λb=>if b then fa env else c env
def N3(k:zr X E c fc)(ha:PD X E a fa)(l:PD X E b fb):PD X E (.IfExp c a b pos) (Rw fc fa fb):=by
 obtain⟨s,m,n⟩:=k;obtain⟨ta,o,sa⟩:=ha;obtain⟨tb,q,r⟩:=l;refine⟨_,Cc m o q,λg M h env σ H Q f p=>n.fL f p λb i H' e d j=>?_⟩;cases b with
 |true=>exact vM (sa g i h env σ H' Q d j)
 |false=>exact xU (r g i h env σ H' Q d j)
def Di(a b:R):Res R:=match a.d,b.d with
 |.lst xs,.int i=>match fP xs i with
  |some d=>.ok (jJ d a.fr a.al)
  |none=>.stuck
 |.tup xs,.int i=>match fP xs i with
  |some d=>.ok (jJ d a.fr a.al)
  |none=>.stuck
 |.str z,.int i=>if z.length<=lim then(match fP z.cps.toList i with
  |some c=>.ok (.val (.str ⟨#[c]⟩) true [])
  |none=>.stuck)else .stuck
 |_,_=>.stuck
theorem IsAll.fP(h:IsAll H m ds vs)(e:L2.fP ds i=some d):∃v,L2.fP vs i=some v/\Is H m d v:=by
 unfold L2.fP at e ⊢;rw[h.length];cases q:B6 ds.length i with
 |none=>rw[q]at e;cases e
 |some j=>rw[q]at e;exact h.get e
def Iv:∃r:R2,IxR X r/\∀g M j env σ H Q ra b x y,Rep g M j env σ H->Is H (vmsk g M ra.fr j ra.al) ra.d x->Is H (vmsk g M b.fr j b.al) b.d y->PostE X.mg E g M j env σ H Q (Di ra b)->r x y H Q:=by
 refine⟨_,J9,λg M j env σ H Q ra b x y e f h p=>?_⟩;unfold Di at p;cases e1:ra.d with
 |lst xs=>
  rw[e1]at p f;cases e2:b.d with
  |int i=>
   rw[e2]at p h;cases h;obtain⟨a,vs,rfl,h1,k⟩:=f.rd;cases q:fP xs i with
   |none=>simp only[q]at p;exact p.elim
   |some d=>simp only[q]at p;obtain⟨v,l,m⟩:=k.fP q;exact .inl ⟨a,vs,i,v,rfl,rfl,.inl h1,l,p.val e m⟩
  |_=>rw[e2]at p;exact p.elim
 |tup xs=>
  rw[e1]at p f;cases e2:b.d with
  |int i=>
   rw[e2]at p h;cases h;obtain⟨a,vs,rfl,h1,k⟩:=f;cases q:fP xs i with
   |none=>simp only[q]at p;exact p.elim
   |some d=>simp only[q]at p;obtain⟨v,l,m⟩:=k.fP q;exact .inr (.inl ⟨a,vs,i,v,rfl,rfl,SqT.of h1,l,p.val e m⟩)
  |_=>rw[e2]at p;exact p.elim
 |str z=>
  rw[e1]at p f;cases e2:b.d with
  |int i=>
   rw[e2]at p h;cases f;cases h;by_cases hz:z.length<=lim
   .simp only[hz,Vd]at p;cases q:fP z.cps.toList i with
    |none=>simp only[q]at p;exact p.elim
    |some c=>simp only[q]at p;exact .inr (.inr ⟨z,i,c,rfl,rfl,j3 hz,q,p _ M H (Ext.refl _ _) e rfl⟩)
   .simp only[hz,UI]at p;exact p.elim
  |_=>rw[e2]at p;exact p.elim
 |_=>rw[e1]at p;exact p.elim
def Iw(ha:PD X E a fa)(e:PD X E b fb)(hs:tY b):PD X E (.Subscript a b pos) (v2 Di fa fb):=by obtain⟨r,h1,f⟩:=Iv (X:=X) (E:=E);obtain⟨ta,h,sa⟩:=ha;obtain⟨tb,i,j⟩:=e;exact⟨_,bA h1 h i hs,λg M k env σ H Q d p=>sa.B0 j d p λra l x y m H' c n o q=>f g m k env σ H' Q ra l x y c n o q⟩
def bI(i:Nat)(a:En->Res R):En->Res R:=λenv=>match env[i]? with
 |some (some (.own ds fr))=>(a env).bind λb=>match b.d with
  |.int k=>match fP ds k with
   |some d=>.ok (jJ d fr [])
   |none=>.stuck
  |_=>.stuck
 |_=>v2 Di (ao i) a env
def yi(ha:PE X a (aI i))(u:PD X E b fb)(hs:tY b):PD X E (.Subscript a b pos) (bI i fb):=by
 obtain⟨r,h1,A⟩:=Iv (X:=X) (E:=E);obtain⟨tb,B,t⟩:=u;refine⟨_,bA (ix_list.or h1) ha B hs,λg M l env σ H Q j p=>?_⟩;have gen:PostE X.mg E g M l env σ H Q (v2 Di (ao i) fb env)->lL (λx y H Q=>J7 X.K x y H Q\/r x y H Q) (aI i) tb σ H Q:=λp=>Snd.B0 zt t j p λra n x y s H' c C m f=>.inr (A g s l env σ H' Q ra n x y c C m f);unfold bI at p;cases e1:env[i]? with
 |none=>rw[e1]at p;exact gen p
 |some o=>
  cases o with
  |none=>rw[e1]at p;exact gen p
  |some sl=>
   cases sl with
   |val d fr=>rw[e1]at p;exact gen p
   |g9 d=>rw[e1]at p;exact gen p
   |B4 d=>rw[e1]at p;exact gen p
   |own ds fr=>
    rw[e1]at p;obtain⟨v,D,a,vs,rfl,k1,k2,F⟩:=j.slot i _ e1;refine⟨_,D,t.fL j p λn y s H' e c m f=>?_⟩;cases q:n.d with
    |int k=>
     rw[q]at m;simp only[q]at f;cases m;cases q2:fP ds k with
     |none=>simp only[q2]at f;exact f.elim
     |some d=>simp only[q2]at f;have G:IsAll H' (vmsk g s fr l []) ds vs:=(IsAll.weak (λ_ z=>.inl z) F:IsAll H (vmsk g M fr l []) ds vs).ext e;obtain⟨w,I,J⟩:=G.fP q2;exact .inl ⟨a,vs,k,w,rfl,rfl,.inl (.inl (e.h _ _ k1)),I,f.val c J⟩
    |_=>simp only[q]at f;exact f.elim
end
section
variable{mg:Str->Option Xw}{E:XK}{g:Gd}{M M':Addr->Prop}{ρ:Pr}{env:En}{σ:St}{H H':Hp}
def SndA.one{t:TA}{f:En->Res (List R)}(h:SndA mg E t f)(i:Rep g M ρ env σ H){α:Type}{K:List R->Res α}{P:(M:Addr->Prop)->(H:Hp)->Res α->Prop}{Q:List V->Hp->Prop}
 (a:P M H ((f env).bind K)) (hs:∀M H,P M H .stuck->False) (j:∀M H c,P M H (.exc c)->Gm mg E g c) (l:∀M H M' H' r,Ext M H M' H'->P M H r->P M' H' r)
 (k:∀rs vs M' H',Ext M H M' H'->Rep g M' ρ env σ H'->IsAll H' (vmsk g M' (bM rs) ρ (cn rs)) (rs.map R.d) vs->P M' H' (K rs)->Q vs H'):t σ H Q:=by
 refine h g M ρ env σ H Q i ?_;cases e:f env with
 |stuck=>rw[e]at a;exact hs _ _ a
 |exc c=>rw[e]at a;exact j _ _ c a
 |ok r=>rw[e]at a;exact λvs M1 m e1 b is=>k r vs M1 m e1 b is (l _ _ _ _ _ e1 a)
def SndA.fL{f:En->Res (List R)}(h:SndA mg E t f)(a:Rep g M ρ env σ H){K:List R->Res R}{Q:List V->Hp->Prop}(b:PostE mg E g M ρ env σ H Q' ((f env).bind K))
 (k:∀rs vs M' H',Ext M H M' H'->Rep g M' ρ env σ H'->IsAll H' (vmsk g M' (bM rs) ρ (cn rs)) (rs.map R.d) vs->PostE mg E g M' ρ env σ H' Q' (K rs)->Q vs H'):t σ H Q:=
 h.one a (P:=λM H r=>PostE mg E g M ρ env σ H Q' r) b (λ_ _ z=>z) (λ_ _ _ z=>z) (λ_ _ _ _ _ e p=>p.ext e) k
def SndA.MV{f:En->Res (List R)}(h:SndA mg E t f)(a:Rep g M ρ env σ H){K:List R->Res (List R)}{b:List V->Hp->Prop}{Q:List V->Hp->Prop}(c:PostA mg E g M ρ env σ H b ((f env).bind K))
 (k:∀rs vs M' H',Ext M H M' H'->Rep g M' ρ env σ H'->IsAll H' (vmsk g M' (bM rs) ρ (cn rs)) (rs.map R.d) vs->PostA mg E g M' ρ env σ H' b (K rs)->Q vs H'):t σ H Q:=
 h.one a (P:=λM H r=>PostA mg E g M ρ env σ H b r) c (λ_ _ z=>z) (λ_ _ _ z=>z) (λ_ _ _ _ _ e p=>p.ext e) k
def IsAll.args(h1:Is H (vmsk g M r.fr ρ r.al) r.d v)(b:IsAll H (vmsk g M (bM rs) ρ (cn rs)) (rs.map R.d) vs) :
 IsAll H (vmsk g M (bM (r::rs)) ρ (cn (r::rs))) ((r::rs).map R.d) (v::vs):=by
 refine⟨v,vs,rfl,h1.weak λa z=>?_,b.weak λa z=>?_⟩
 .exact(z.l:vmsk g M (r.fr&&bM rs) ρ (r.al++cn rs) a)
 .exact(z.r:vmsk g M (r.fr&&bM rs) ρ (r.al++cn rs) a)
end
section
variable{X:Cx}{E:XK}
noncomputable def aV:En->Res (List R):=λ_=>.ok []
def aj(f:En->Res R)(fs:En->Res (List R)):En->Res (List R):=λenv=>(f env).bind λr=>(fs env).bind λrs=>.ok (r::rs)
def ax:C9 X E [] aV:=⟨_,aC,λg M b env σ H Q a p=>p [] M H (Ext.refl _ _) a rfl⟩
def ac(d:PD X E e f)(h:C9 X E es fs)(hs:autoParam (starEach (e::es) X.env=(false,eval e X.env)::starEach es X.env) ae):C9 X E (e::es) (aj f fs):=by obtain⟨t,p1,s1⟩:=d;obtain⟨u,p2,s2⟩:=h;refine⟨_,ah p1 p2 hs,λg M l env σ H Q c p=>s1.MV c p λr v M1 m e1 a i q1=>s2.MV a q1 λrs vs M2 j e2 b k q2=>?_⟩;exact q2 (v::vs) M2 j (Ext.refl _ _) b (IsAll.args (i.ext e2) k)
def iB(fs:En->Res (List R)):En->Res R:=λenv=>(fs env).bind λrs=>if rs.length<=lim then .ok (jJ (.tup (rs.map R.d)) (bM rs) (cn rs))else .stuck
def cG(h:C9 X E es fs):PD X E (.Tuple es k pos) (iB fs):=by
 obtain⟨t,p1,s1⟩:=h;refine⟨_,cv p1,λg M f env σ H Q c p=>s1.fL c p λrs vs M1 i e1 b e q1=>?_⟩;by_cases d:rs.length<=lim
 .rw[Tv d]at q1;exact⟨by rw[e.length,TN];exact j3 d,λa ha=>q1.tup b ha e⟩
 .rw[TJ d]at q1;exact q1.elim
def lj(fs:En->Res (List R)):En->Res R:=λenv=>(fs env).bind λrs=>if rs.length<=lim then .ok (oE (rs.map R.d) (bM rs) (cn rs))else .stuck
def fR(h:C9 X E es fs):PD X E (.List es pos) (lj fs):=by
 obtain⟨t,p1,s1⟩:=h;refine⟨_,iu p1,λg M f env σ H Q c p=>s1.fL c p λrs vs M1 i e1 b e q1=>?_⟩;by_cases d:rs.length<=lim
 .rw[Tv d]at q1;exact⟨by rw[e.length,TN];exact j3 d,λa ha=>q1.lst b ha e⟩
 .rw[TJ d]at q1;exact q1.elim
end
def nl(b H':Hp)(a:Addr):Prop:=b a=none/\Mu H' a
def RetOk(g:Gd)(H':Hp)(v:V):R->Prop
 |.val d fr _=>Is H' (λa=>nl g.H₀ H' a\/(fr=false/\g.Ma a)) d v
 |.new ds fr=>∃a vs,v=.ref a/\H' a=some (.lst vs)/\g.H₀ a=none/\IsAll H' (λb=>b≠a/\(nl g.H₀ H' b\/(fr=false/\g.Ma b))) ds vs
 |.g8 d=>Is H' (nl g.H₀ H') d v
def N4(mg:Str->Option Xw)(E:XK)(g:Gd)(Q:VK):Res R->Prop
 |.stuck=>False
 |.exc c=>Gm mg E g c
 |.ok r=>∀v H',Same g.H₀ H'->RetOk g H' v r->Q v H'
def mw(mg:Str->Option Xw)(n:Nat)(F:List D->Res R):Sp:=λvs H Q E=>vs.length=n/\∃ds Ma,IsAll H Ma ds vs/\N4 mg E (NY H Ma) Q (F ds)
def Iy(d:D)(fr:Bool)(rs:List R):R:=if d.flat then .val d true []else if fr then .g8 d else .val d (bM rs) (cn rs)
def iS(rs:List R):R->R
 |.val d fr _=>Iy d fr rs
 |.new ds fr=>if D.bw ds then .new ds true else if fr then .g8 (.lst ds)else if(cn rs).isEmpty then .new ds (bM rs)else .val (.lst ds) (bM rs) (cn rs)
 |.g8 d=>Iy d true rs
section
variable{g:Gd}{M:Addr->Prop}{ρ:Pr}{env:En}{σ:St}{H H':Hp}
def Rep.came(b:Rep g M ρ env σ H)(s:Same H H')(p:Addr->Prop):Rep g (λa=>M a\/(nl H H' a/\p a)) ρ env σ H':=(b.grow s).Fi λa z=>⟨z.1.2,b.same.free z.1.1,(b.free z.1.1).2.2⟩
def Dj(rs:List R)(b:Rep g M ρ env σ H)(s:Same H H')(h:Is H' (λa=>nl H H' a\/(fr=false/\vmsk g M (bM rs) ρ (cn rs) a)) d v) :
 ∃c,Ext M H c H'/\Rep g c ρ env σ H'/\ROk g c ρ H H' v (Iy d fr rs):=by
 unfold Iy;by_cases e:d.flat=true
 .rw[Tv e];exact⟨M,⟨λ_ z=>z,s,λ_ z=>.inl z⟩,b.grow s,Is.flat e h⟩
 .rw[TJ e];cases fr with
  |true=>
   refine⟨M,⟨λ_ z=>z,s,λ_ z=>.inl z⟩,b.grow s,nl H H',λa z=>?_,?_⟩
   .exact⟨λw=>b.jG a w z.1,z.1,z.2,(b.free z.1).2.2⟩
   .exact Is.weak (λa z=>z.elim id λw=>by cases w.1) h
  |false=>
   refine⟨_,⟨λ_=>.inl,s,λ_ z=>z.imp id (·.1.1)⟩,b.came s λ_=>True,?_⟩;refine Is.weak (λa z=>?_) h;rcases z with z|⟨_,z⟩
   .exact .inl ⟨.inr ⟨z,True.intro⟩,λ_=>b.same.free z.1⟩
   .exact z.mono λ_=>.inl
def RetOk.caller(rs:List R)(c:Rep g M ρ env σ H)(s:Same H H')(h:RetOk (NY H (vmsk g M (bM rs) ρ (cn rs))) H' v r) :
 ∃k,Ext M H k H'/\Rep g k ρ env σ H'/\ROk g k ρ H H' v (iS rs r):=by
 cases r with
 |val d fr al=>exact Dj rs c s h
 |g8 d=>exact Dj rs c s (Is.weak (λa z=>.inl z) h)
 |new ds fr=>
  obtain⟨a,vs,rfl,h1,f,j⟩:=h;have f:H a=none:=f;obtain⟨t,x,l⟩:=c.free f;have m:Rep g (λb=>M b\/(nl H H' b/\b≠a)) ρ env σ H':=c.came s λb=>b≠a;have u:¬(M a\/(nl H H' a/\a≠a)):=λz=>z.elim x λz=>z.2 rfl;have o:Ext M H (λb=>M b\/(nl H H' b/\b≠a)) H':=⟨λ_=>.inl,s,λ_ z=>z.imp id (·.1.1)⟩;unfold iS;dsimp only;by_cases i:D.bw ds=true
  .rw[Tv i];exact⟨_,o,m,a,vs,rfl,h1,u,f,l,IsAll.flat i j⟩
  .rw[TJ i];cases fr with
   |true=>
    refine⟨M,⟨λ_ z=>z,s,λ_ z=>.inl z⟩,c.grow s,nl H H',λa z=>?_,?_⟩
    .exact⟨λw=>c.jG a w z.1,z.1,z.2,(c.free z.1).2.2⟩
    .exact⟨a,vs,rfl,.inl ⟨h1,f,Mu.lst h1⟩,IsAll.weak (λb z=>z.2.elim id λw=>by cases w.1) j⟩
   |false=>
    simp only[TY,UI];by_cases p:(cn rs).isEmpty=true
    .rw[Tv p];refine⟨_,o,m,a,vs,rfl,h1,u,f,l,?_⟩;refine IsAll.weak (λb z=>?_) j;rcases z with⟨q,z|⟨y,z⟩⟩
     .exact⟨.inr ⟨z,q⟩,λ_=>c.same.free z.1⟩
     .have A:cn rs=[]:=by simpa using p
      have z:vmsk g M (bM rs) ρ (cn rs) b:=z;rw[A]at z;exact⟨.inl z.nil.1,z.nil.2⟩
    .rw[TJ p];refine⟨λb=>(M b\/(nl H H' b/\b≠a))\/b=a,⟨λ_ z=>.inl (.inl z),s,λb z=>z.elim (o.n b) λe=>.inr (e▸f)⟩,m.more h1 t l,a,vs,rfl,.inl ⟨h1,.inl ⟨.inr rfl,λ_=>t⟩⟩,?_⟩;refine IsAll.weak (λb z=>?_) j;rcases z with⟨q,z|⟨y,z⟩⟩
     .exact .inl ⟨.inl (.inr ⟨z,q⟩),λ_=>c.same.free z.1⟩
     .exact vmsk.mono (λ_ w=>.inl (.inl w)) z
end
section
variable{X:Cx}{E:XK}{CX:AG}{k:Nat}{f:Addr}{fd:FuncData}{ps:List Str}{F:List D->Res R}{x:Str}{p pos:Pos}{e:Expr}{es:List Expr}{fs:En->Res (List R)}
def b9(F:List D->Res R)(fs:En->Res (List R)):En->Res R:=λenv=>(fs env).bind λrs=>(F (rs.map R.d)).bind λr=>.ok (iS rs r)
def Dk(l:∀env rs,fs env=.ok rs->rs.length=ps.length)(s:SndA X.mg E t fs):Snd X.mg E (yZ (mw X.mg ps.length F) [] E t) (b9 F fs):=by
 intro g M j env σ H Q h p;refine s g M j env σ H _ h ?_;unfold b9 at p;cases e:fs env with
 |stuck=>rw[e]at p;exact p
 |exc c=>rw[e]at p;exact p
 |ok rs=>
  rw[e]at p;intro vs M1 m e1 a is;have p1:PostE X.mg E g M1 j env σ m Q ((F (rs.map R.d)).bind λr=>.ok (iS rs r)):=PostE.ext e1 p;rw[V3];refine⟨by rw[is.length,TN];exact l env rs e,rs.map R.d,_,is,?_⟩;cases q:F (rs.map R.d)with
  |stuck=>rw[q]at p1;exact p1
  |exc c=>rw[q]at p1;exact λcls n H' h1 o=>p1 cls n H' h1 (a.same.trans o)
  |ok r=>rw[q]at p1;intro v u s2 ro;obtain⟨w,e3,b,i⟩:=RetOk.caller rs a s2 ro;exact p1 v w u e3 b i
def Gs(G:bG X.prog X.w X.K X.mg X.base CX k f fd ps (mw X.mg ps.length F))(c:dt k X.A)(d:Gl X x)(g:X.mg x=some (.ref f))(h:keepIn X.K (.ref f)=true)(i:Binds X.K fd ps [])(j:gy CX X E)
 (ha:C9 X E (e::es) fs) (l:∀env rs,fs env=.ok rs->rs.length=ps.length) (a:autoParam ((x==("__debug__" : Str))=false) am) (m:autoParam (starEach (e::es) X.env=(false,eval e X.env)::starEach es X.env) ae) (b:autoParam ((backTo pos (starEach es X.env)).any (·.1)=false) ae) :
 PD X E (.Call (.Name x p) (e::es) [] pos) (b9 F fs):=by
 obtain⟨t,p1,s1⟩:=ha;exact⟨_,tW G c d g h i .nil j p1 a m b,Dk l s1⟩
def aY:∀env rs,aV env=.ok rs->rs.length=0:=λ_ _ e=>by cases e;rfl
def aw{f:En->Res R}{fs:En->Res (List R)}(h:∀env rs,fs env=.ok rs->rs.length=n):∀env rs,aj f fs env=.ok rs->rs.length=n+1:=λenv rs e=>by
 unfold aj at e;cases q:f env with
 |stuck=>rw[q]at e;cases e
 |exc c=>rw[q]at e;cases e
 |ok r=>
  rw[q]at e;cases q2:fs env with
  |stuck=>simp only[Res.ii,q2]at e;cases e
  |exc c=>simp only[Res.ii,q2]at e;cases e
  |ok a=>simp only[Res.ii,q2]at e;cases e;simp[h env a q2]
def iT(X:Cx)(E:XK)(f:Xw)(k:List R->Res R):Prop:=∃r,CallR X f r/\
 ∀g M a env σ H Q rs vs,Rep g M a env σ H->IsAll H (vmsk g M (bM rs) a (cn rs)) (rs.map R.d) vs->PostE X.mg E g M a env σ H Q (k rs)->r vs H Q
def qp(k:List R->Res R)(fs:En->Res (List R)):En->Res R:=λenv=>(fs env).bind k
def cp{id:String}{k:List R->Res R}(h:iT X E (.builtin id) k) (i:Gl X x) (j:X.mg x=none) (l:bootBuiltins x=some (.builtin id)) (ha:C9 X E (e::es) fs) (m:autoParam (x≠"__name__") am) (b:autoParam ((x==("__debug__" : Str))=false) am)
 (n:autoParam (starEach (e::es) X.env=(false,eval e X.env)::starEach es X.env) ae) (c:autoParam ((backTo pos (starEach es X.env)).any (·.1)=false) ae):PD X E (.Call (.Name x p) (e::es) [] pos) (qp k fs):=by
 obtain⟨r,h1,o⟩:=h;obtain⟨t,p1,s1⟩:=ha;exact⟨_,cW h1 i j l p1 m b n c,λg M q env σ H Q d p=>s1.fL d p λrs vs M1 s e1 a u q1=>o g M1 q env σ s Q rs vs a u q1⟩
def gv{k:List R->Res R}(h:iT X E (.type T) k) (i:Gl X x) (j:X.mg x=none) (l:bootBuiltins x=some (.type T)) (ha:C9 X E (e::es) fs) (m:autoParam (x≠"__name__") am) (b:autoParam ((x==("__debug__" : Str))=false) am)
 (n:autoParam (starEach (e::es) X.env=(false,eval e X.env)::starEach es X.env) ae) (c:autoParam ((backTo pos (starEach es X.env)).any (·.1)=false) ae):PD X E (.Call (.Name x p) (e::es) [] pos) (qp k fs):=by
 obtain⟨r,h1,o⟩:=h;obtain⟨t,p1,s1⟩:=ha;exact⟨_,nz h1 i j l p1 m b n c,λg M q env σ H Q d p=>s1.fL d p λrs vs M1 s e1 a u q1=>o g M1 q env σ s Q rs vs a u q1⟩
def Dm:List R->Res R
 |[r]=>match r.d with
  |.lst ds=>.ok (.val (.int ds.length) true [])
  |.tup ds=>.ok (.val (.int ds.length) true [])
  |.str z=>if z.length<=lim then .ok (.val (.int z.length) true [])else .stuck
  |_=>.stuck
 |_=>.stuck
def Kz:iT X E (.builtin "len") Dm:=by
 refine⟨_,call_len_seq.or t3,λg M j env σ H Q rs vs c i p=>?_⟩;rcases rs with _|⟨r,_|_⟩
 .exact p.elim
 rotate_left
 .exact p.elim
 obtain⟨v,w,rfl,b,l⟩:=i;cases l;have b:Is H (vmsk g M (bM [r]) j (cn [r])) r.d v:=b;unfold Dm at p;dsimp only at p;cases q:r.d with
 |lst ds=>rw[q]at p b;obtain⟨a,ws,rfl,h1,h⟩:=b.rd;exact .inl ⟨a,ws,rfl,.inl (.inl h1),by rw[h.length];exact p _ M H (Ext.refl _ _) c rfl⟩
 |tup ds=>rw[q]at p b;obtain⟨a,ws,rfl,h1,h⟩:=b;exact .inl ⟨a,ws,rfl,.inr (SqT.of h1),by rw[h.length];exact p _ M H (Ext.refl _ _) c rfl⟩
 |str z=>
  rw[q]at p b;cases b;by_cases hz:z.length<=lim
  .simp only[hz,Vd]at p;exact .inr ⟨z,rfl,j3 hz,p _ M H (Ext.refl _ _) c rfl⟩
  .simp only[hz,UI]at p;exact p.elim
 |_=>rw[q]at p;exact p.elim
def oG:List R->Res R
 |[r]=>match r.d with
  |.lst ds=>.ok (oE ds r.fr r.al)
  |.tup ds=>.ok (oE ds r.fr r.al)
  |_=>.stuck
 |_=>.stuck
def zv(h:vmsk g M (bM [r]) ρ (cn [r]) a):vmsk g M r.fr ρ r.al a:=by
 have e1:bM [r]=r.fr:=by simp[bM]
 have e2:cn [r]=r.al:=by simp[cn]
 rw[e1,e2]at h;exact h
def o9:iT X E (.type "list") oG:=by
 refine⟨_,t4,λg M m env σ H Q rs vs c i p=>?_⟩;rcases rs with _|⟨r,_|_⟩
 .exact p.elim
 rotate_left
 .exact p.elim
 obtain⟨v,w,rfl,b,n⟩:=i;cases n;have b:Is H (vmsk g M (bM [r]) m (cn [r])) r.d v:=b;replace b:=b.weak λ_ z=>zv z;unfold oG at p;dsimp only at p;cases q:r.d with
 |lst ds=>rw[q]at p b;obtain⟨a,ws,rfl,h1,h⟩:=b.rd;exact⟨a,ws,rfl,.inl (.inl h1),λl j=>p.lst c j h⟩
 |tup ds=>rw[q]at p b;obtain⟨a,ws,rfl,h1,h⟩:=b;exact⟨a,ws,rfl,.inr (SqT.of h1),λl j=>p.lst c j h⟩
 |_=>rw[q]at p;exact p.elim
end
inductive Fl where
 |nx (env:En)|rt (r:R)|bk (env:En)|ct (env:En)|rm (r:R) (env:En)
structure l7(M:Addr->Prop) (H:Hp) (M':Addr->Prop) (H':Hp):Prop where
 m:∀a,M a->M' a
 h:∀a o,H a=some o->(M a\/iA o)->H' a=some o
def l7.refl(M:Addr->Prop)(H:Hp):l7 M H M H:=⟨λ_ z=>z,λ_ _ e _=>e⟩
def l7.trans{M M1 M2:Addr->Prop}(a:l7 M H M1 H1)(b:l7 M1 H1 M2 H2):l7 M H M2 H2:=⟨λx z=>b.m x (a.m x z),λx o e z=>b.h x o (a.h x o e z) (z.imp (a.m x) id)⟩
def Ext.aZ(e:Ext M H M' H'):l7 M H M' H':=⟨e.m,λa o q _=>e.h a o q⟩
section
variable(mg:Str->Option Xw)(E:XK)(g:Gd)(M:Addr->Prop)(H:Hp)(D:Ends)
def PostS:Res Fl->Prop
 |.stuck=>False
 |.exc c=>Gm mg E g c
 |.ok (.nx env)=>∀σ b e H',l7 M H b H'->Rep g b e env σ H'->D.nx σ H'
 |.ok (.bk env)=>∀σ b e H',l7 M H b H'->Rep g b e env σ H'->D.bk σ H'
 |.ok (.ct env)=>∀σ b e H',l7 M H b H'->Rep g b e env σ H'->D.ct σ H'
 |.ok (.rt r)=>∀v b H',l7 M H b H'->Same g.H₀ H'->((∀a,¬g.Z a)->RetOk g H' v r)->(r.d.flat=true->Is H' (λ_=>False) r.d v)->D.rt v H'
 |.ok (.rm r env)=>∀v σ b e f H',l7 M H b H'->Rep g b e env σ H'->Same g.H₀ f->ROk g b e f H' v r->D.rt v H'
end
def Gu(mg:Str->Option Xw)(E:XK)(t:TS)(f:En->Res Fl):Prop:=∀g M a env σ H D,Rep g M a env σ H->PostS mg E g M H D (f env)->t D σ H
def A3(X:Cx)(E:XK)(st:Stmt)(f:En->Res Fl):Prop:=∃t,PS X st t/\Gu X.mg E t f
def um(X:Cx)(E:XK)(st:List Stmt)(f:En->Res Fl):Prop:=∃t,PSs X st t/\Gu X.mg E t f
section
variable{mg:Str->Option Xw}{E:XK}{g:Gd}{M M':Addr->Prop}{ρ:Pr}{env:En}{σ:St}{H H':Hp}{D:Ends}
def PostS.aZ(e:l7 M H M' H')(p:PostS mg E g M H D r):PostS mg E g M' H' D r:=by
 cases r with
 |stuck=>exact p
 |exc c=>exact p
 |ok r=>cases r with
  |nx env=>exact λσ M2 a b e2=>p σ M2 a b (e.trans e2)
  |bk env=>exact λσ M2 a b e2=>p σ M2 a b (e.trans e2)
  |ct env=>exact λσ M2 a b e2=>p σ M2 a b (e.trans e2)
  |rt r=>exact λv M2 b e2=>p v M2 b (e.trans e2)
  |rm r env=>exact λv σ M2 a d b e2=>p v σ M2 a d b (e.trans e2)
def Snd.sr{f:En->Res R}(h:Snd mg E t f)(d:Rep g M ρ env σ H){K:R->Res Fl}(a:PostS mg E g M H D ((f env).bind K))
 (k:∀r v M' H',Ext M H M' H'->Rep g M' ρ env σ H'->ROk g M' ρ H H' v r->PostS mg E g M' H' D (K r)->Q v H'):t σ H Q:=by
 refine h g M ρ env σ H Q d ?_;cases e:f env with
 |stuck=>rw[e]at a;exact a
 |exc c=>rw[e]at a;exact a
 |ok r=>rw[e]at a;exact λv M1 i e1 b ro=>k r v M1 i e1 b ro (PostS.aZ e1.aZ a)
def SndT.sr{f:En->Res Bool}(h:SndT mg E t f)(i:Rep g M ρ env σ H){K:Bool->Res Fl}{Q:Bool->Hp->Prop}(a:PostS mg E g M H D ((f env).bind K))
 (k:∀b M' H',l7 M H M' H'->Rep g M' ρ env σ H'->PostS mg E g M' H' D (K b)->Q b H'):t σ H Q:=by
 refine h g M ρ env σ H Q i ?_;cases e:f env with
 |stuck=>rw[e]at a;exact a
 |exc c=>rw[e]at a;exact a
 |ok r=>rw[e]at a;exact λM1 j e1 d=>k r M1 j e1.aZ d (PostS.aZ e1.aZ a)
noncomputable def N5(ρ:Pr)(i:Nat):Pr:=λj a=>if j=i then False else ρ j a
def yj(h:j≠i):N5 ρ i j=ρ j:=by funext a;unfold N5;rw[TJ h]
def qu(h:N5 ρ i j a):j≠i/\ρ j a:=by grind [N5]
noncomputable def wb(ρ:Pr)(i:Nat)(T:Addr->Prop):Pr:=λj a=>if j=i then T a else ρ j a
theorem fy(h:j≠i):wb ρ i T j=ρ j:=by funext a;unfold wb;rw[TJ h]
theorem hV:wb ρ i T i=T:=by funext a;unfold wb;rw[Tv rfl]
def gX(env:En)(i:Nat):En:=match env[i]? with
 |some (some (.own ds fr))=>env.set i (some (.val (.lst ds) fr))
 |some (some (.g9 d))=>env.set i (some (.val d true))
 |some (some (.B4 _))=>env.set i none
 |_=>env
def aZ(env:En)(al:List Nat):En:=al.foldl gX env
def uq(h:j≠i):(gX env i)[j]?=env[j]?:=by unfold gX;split<;>first|rfl|exact Uw (UM h)
def wc(i:Nat):(gX env i).length=env.length:=by unfold gX;split<;>simp
theorem Dn:∀(al:List Nat){env:En}{j:Nat},¬j∈al->(aZ env al)[j]?=env[j]?
 |[],_,_,_=>rfl
 |i::al,env,j,h=>by show(aZ (gX env i) al)[j]?=_;rw[Dn al λz=>h (by simp[z]),uq λz=>h (by simp[z])]
theorem ur:∀(al:List Nat)(env:En),(aZ env al).length=env.length
 |[],_=>rfl
 |i::al,env=>by show(aZ (gX env i) al).length=_;rw[ur al,wc]
theorem Rep.gX(rep:Rep g M ρ env σ H)(i:Nat):Rep g (λa=>M a\/ρ i a) (N5 ρ i) (gX env i) σ H where
 same:=rep.same
 jG:=λb hb=>hb.elim (rep.jG b) λz=>(rep.b8 i b z).2.2.some
 u9:=λb hb=>hb.elim (rep.u9 b) λz=>.inl (rep.b8 i b z).2.1
 fl:=λb hb h0=>hb.elim (λz=>rep.fl b z h0) λz=>.inl (rep.b8 i b z).2.2
 slot:=λj sl ej=>by
  by_cases hj:j=i
  .subst hj;cases e:env[j]? with
   |none=>
    have:L3.gX env j=env:=by unfold L3.gX;rw[e]
    rw[this,e]at ej;cases ej
   |some o=>
    have hi:j<env.length:=(TL.mp e).1;cases o with
    |none=>
     have:L3.gX env j=env:=by unfold L3.gX;rw[e]
     rw[this,e]at ej;cases ej
    |some s0=>
     obtain⟨v,ev,k⟩:=rep.slot j s0 e;cases s0 with
     |val d fr=>
      have:L3.gX env j=env:=by unfold L3.gX;rw[e]
      rw[this,e]at ej;cases ej;exact⟨v,ev,Is.weak (λb z=>fQ.mono (λ_=>.inl) z) k⟩
     |own ds fr=>
      have:L3.gX env j=env.set j (some (.val (.lst ds) fr)):=by unfold L3.gX;rw[e]
      rw[this,Up hi]at ej;cases ej;obtain⟨a,vs,rfl,h1,h2,h4⟩:=k;have ha:=(h2 a).mpr rfl;exact⟨_,ev,a,vs,rfl,.inl ⟨h1,.inr ha,λ_=>(rep.b8 j a ha).2.1⟩,IsAll.weak (λb z=>fQ.mono (λ_=>.inl) z) h4⟩
     |g9 d=>
      have:L3.gX env j=env.set j (some (.val d true)):=by unfold L3.gX;rw[e]
      rw[this,Up hi]at ej;cases ej;exact⟨v,ev,Is.weak (λb z=>⟨.inr z,λ_=>(rep.b8 j b z).2.1⟩) k⟩
     |B4 d=>
      have:L3.gX env j=env.set j none:=by unfold L3.gX;rw[e]
      rw[this,Up hi]at ej;cases ej
  .rw[uq hj]at ej;obtain⟨v,ev,k⟩:=rep.slot j sl ej;exact⟨v,ev,by rw[yj hj];exact SlOk.weak (λ_=>.inl) k⟩
 b8:=λj a h=>by obtain⟨hj,h⟩:=qu h;exact⟨λz=>z.elim (rep.b8 j a h).1 λz=>hj (rep.apart j i a h z),(rep.b8 j a h).2⟩
 apart:=λj k a h1 h2=>rep.apart j k a (qu h1).2 (qu h2).2
 ow:=λj a h=>by obtain⟨hj,h⟩:=qu h;have:=rep.ow j a h;unfold hJ at this ⊢;rw[uq hj];exact this
 len:=by rw[wc];exact rep.len
 zz:=rep.zz
theorem Rep.aZ:∀(al:List Nat){env:En}{M:Addr->Prop}{ρ:Pr},Rep g M ρ env σ H->∃(M':Addr->Prop)(b:Pr),(∀a,M a->M' a)/\Rep g M' b (L3.aZ env al) σ H/\(∀i,i∈al->∀a,ρ i a->M' a)/\(∀j a,b j a->ρ j a)/\(∀j,¬j∈al->b j=ρ j)
 |[],env,M,ρ,c=>⟨M,ρ,λ_ z=>z,c,λ_ z=>absurd z (by simp),λ_ _ o=>o,λ_ _=>rfl⟩
 |i::al,env,M,ρ,c=>by
  obtain⟨M2,h,e2,e,k,k2,l⟩:=Rep.aZ al (c.gX i);refine⟨M2,h,λa z=>e2 a (.inl z),e,λj f a o=>?_,λj a o=>(qu (k2 j a o)).2,λj f=>?_⟩
  .by_cases d:j=i
   .exact e2 a (.inr (d▸o))
   .exact k j ((TH.mp f).resolve_left d) a (by rw[yj d];exact o)
  .rw[l j λz=>f (by simp[z]),yj λz=>f (by simp[z])]
def Is.frozen(b:Rep g M ρ env σ H)(e:∀a,M a->M' a)(c:∀i,i∈al->∀a,ρ i a->M' a)(h:Is H (vmsk g M fr ρ al) d v):Is H (fQ g M' fr) d v:=h.weak λa z=>z.elim (fQ.mono e) λ⟨i,f,o⟩=>⟨c i f a o,λ_=>(b.b8 i a o).2.1⟩
def Rep.put(b:Rep g M ρ env σ H)(m:i<env.length)(ok:SlOk g M T H v sl)(f:∀a,T a->¬M a/\g.H₀ a=none/\Mu H a/\∀j,j≠i->¬ρ j a)(o:autoParam (∀a,T a->sl.QH=true) XC._auto_1) :
 Rep g M (wb ρ i T) (env.set i (some sl)) (σ.set i (some v)) H:=by
 have n:i<σ.length:=by rw[<- b.len];exact m
 refine⟨b.same,b.jG,b.u9,b.fl,λj s l=>?_,λj a h=>?_,λj k a h1 d=>?_,λj a h=>?_,by rw[V5,V5];exact b.len,b.zz⟩
 .by_cases c:j=i
  .subst c;rw[Up m]at l;cases l;exact⟨v,Up n,by rw[hV];exact ok⟩
  .rw[Uw (UM c)]at l;obtain⟨w,p,k⟩:=b.slot j s l;exact⟨w,by rw[Uw (UM c)];exact p,by rw[fy c];exact k⟩
 .by_cases c:j=i
  .subst c;rw[hV]at h;exact⟨(f a h).1,(f a h).2.1,(f a h).2.2.1⟩
  .rw[fy c]at h;exact b.b8 j a h
 .by_cases c:j=i
  .by_cases e:k=i
   .rw[c,e]
   .subst c;rw[hV]at h1;rw[fy e]at d;exact absurd d ((f a h1).2.2.2 k e)
  .by_cases e:k=i
   .subst e;rw[hV]at d;rw[fy c]at h1;exact absurd h1 ((f a d).2.2.2 j c)
   .rw[fy c]at h1;rw[fy e]at d;exact b.apart j k a h1 d
 .unfold hJ;by_cases c:j=i
  .subst c;rw[hV]at h;rw[Up m];exact o a h
  .rw[fy c]at h;rw[Uw (UM c)];exact b.ow j a h
def put(env:En)(i:Nat):R->En
 |.new ds fr=>env.set i (some (.own ds fr))
 |.val d fr al=>(aZ env al).set i (some (.val d fr))
 |.g8 d=>env.set i (some (.g9 d))
def Rep.store(c:Rep g M ρ env σ H)(m:Same g.H₀ H0)(k:i<env.length)(h:ROk g M ρ H0 H v r):∃M' l,l7 M H M' H/\Rep g M' l (L3.put env i r) (σ.set i (some v)) H:=by
 cases r with
 |new ds fr=>obtain⟨a,vs,rfl,h1,n,o,p,q⟩:=h;exact⟨M,_,l7.refl _ _,c.put (sl:=.own ds fr) (T:=λb=>b=a) k ⟨a,vs,rfl,h1,λ_=>Iff.rfl,q⟩ λb e=>by subst e;exact⟨n,m.free o,Mu.lst h1,λj _=>p j⟩⟩
 |val d fr al=>obtain⟨M1,s,e1,f,o1,k1,_⟩:=Rep.aZ al c;exact⟨M1,_,⟨e1,λ_ _ e _=>e⟩,f.put (sl:=.val d fr) (T:=λ_=>False) (by rw[ur];exact k) (Is.frozen c e1 o1 h) (λ_ z=>z.elim) λ_ z=>z.elim⟩
 |g8 d=>obtain⟨T,t,is⟩:=h;exact⟨M,_,l7.refl _ _,c.put (sl:=.g9 d) (T:=T) k is λb z=>let ⟨u,w,x,y⟩:=t b z;⟨u,m.free w,x,λj _=>y j⟩⟩
def Rep.Fj(F:Kn u')(f:Rep g M ρ env σ H)(o:ρ i a)(G:i<env.length)(U:σ[i]?=some (some v))(ok:SlOk g M (ρ i) (aP H a u') v sl)(I:autoParam (sl.QH=true) ae) :
 l7 M H M (aP H a u')/\Rep g M ρ (env.set i (some sl)) σ (aP H a u'):=by
 obtain⟨t,J,K,ha,n⟩:=f.b8 i a o;have L:∀u,H a=some u->¬iA u:=λu e z=>by rw[ha]at e;cases e;cases K<;>first|exact z|exact n
 have kp:∀b u,H b=some u->(M b\/iA u)->aP H a u' b=some u:=λb u q z=>by grind [af]
 have x:∀(fr:Bool) b u,H b=some u->(fQ g M fr b\/iA u)->aP H a u' b=some u:=λfr b u q z=>kp b u q (z.imp (·.1) id);refine⟨⟨λ_ z=>z,kp⟩,λb u q=>?_,λb l=>?_,f.u9,λb l N=>?_,λj s y=>?_,λj b h=>?_,f.apart,λj b h=>?_,by rw[V5];exact f.len,λc z e=>by
  by_cases A:c=a
  .subst A;rw[ag]at e;cases e
  .rw[af A]at e;exact f.zz c z e⟩
 .rw[af (λz=>by rw[z,J]at q;cases q)];exact f.same b u q
 .have p:b≠a:=λz=>t (by rw[<- z];exact l);rw[af p];exact f.jG b l
 .have p:b≠a:=λz=>t (by rw[<- z];exact l);exact(f.fl b l N).same λo e=>by rw[af p];exact e
 .by_cases m:j=i
  .grind
  .rw[Uw (UM m)]at y;obtain⟨w,O,k⟩:=f.slot j s y;refine⟨w,O,?_⟩;have B:∀b,ρ j b->b≠a:=λb l e=>m (f.apart j i a (e▸l) o);cases s with
   |val d fr=>exact Is.mono (x fr) (λ_ _ _ z=>z) k
   |own P r=>obtain⟨b,ws,rfl,h1,C,Q⟩:=k;exact⟨b,ws,rfl,by rw[af (B b ((C b).mpr rfl))];exact h1,C,IsAll.mono (x r) (λ_ _ _ z=>z) Q⟩
   |g9 d=>
    refine Is.mono (λb u q z=>?_) (λ_ _ _ z=>z) k
    grind [af]
   |B4 d=>refine IsSh.mono (λb u q z=>kp b u q (.inr z)) (λb ws z q=>⟨ws,by rw[af (B b z)];exact q⟩) (λ_ z=>z) k
 .obtain⟨R,S,T⟩:=f.b8 j b h;refine⟨R,S,?_⟩;by_cases e:b=a
  .exact⟨u',by rw[e,ag],F⟩
  .exact T.same λo z=>by rw[af e];exact z
 .unfold hJ;by_cases m:j=i
  .subst m;rw[Up G];exact I
  .rw[Uw (UM m)];exact f.ow j b h
def Rep.write(b:Rep g M ρ env σ H)(o:ρ i a)(c:i<env.length)(d:σ[i]?=some (some v))(ok:SlOk g M (ρ i) (aP H a (.lst vs')) v sl)(e:autoParam (sl.QH=true) ae) :
 l7 M H M (aP H a (.lst vs'))/\Rep g M ρ (env.set i (some sl)) σ (aP H a (.lst vs')):=b.Fj (u':=.lst vs') True.intro o c d ok e
end
section
variable{X:Cx}{E:XK}
noncomputable def rQ:En->Res Fl:=λenv=>.ok (.nx env)
def bB(f k:En->Res Fl):En->Res Fl:=λenv=>(f env).bind λr=>match r with
 |.nx a=>k a
 |r=>.ok r
def fF:um X E [] rQ:=⟨_,l9,λg M b env σ H D a p=>p σ M b H (l7.refl _ _) a⟩
def aN{st:Stmt}{f:En->Res Fl}(h:A3 X E st f):um X E [st] f:=let ⟨t,a,b⟩:=h;⟨t,aW a,b⟩
def av{st:Stmt}{rest:List Stmt}{f k:En->Res Fl}(h1:A3 X E st f)(n:um X E rest k):um X E (st::rest) (bB f k):=by
 obtain⟨t,a,b⟩:=h1;obtain⟨u,c,d⟩:=n;refine⟨_,aU a c,λg M o env σ H D j p=>b g M o env σ H _ j ?_⟩;unfold bB at p;cases q:f env with
 |stuck=>rw[q]at p;exact p
 |exc c=>rw[q]at p;exact p
 |ok r=>
  rw[q]at p;cases r with
  |nx i=>exact λl s m H' e h=>d g s m i l H' D h (PostS.aZ e p)
  |bk i=>exact p
  |ct i=>exact p
  |rt r=>exact p
  |rm r i=>exact p
def Fo(c:En->Res Bool)(a b:En->Res Fl):En->Res Fl:=λenv=>(c env).bind λk=>if k then a env else b env
def j6(k:zr X E c fc)(ha:um X E a fa)(l:um X E b fb):A3 X E (.If c a b pos) (Fo fc fa fb):=by
 obtain⟨n,p1,s1⟩:=k;obtain⟨ta,p2,s2⟩:=ha;obtain⟨tb,p3,m⟩:=l;refine⟨_,sA p1 p2 p3,λg M h env σ H D f p=>s1.sr f p λb i H' e d j=>?_⟩;cases b with
 |true=>exact vM (s2 g i h env σ H' D d j)
 |false=>exact xU (m g i h env σ H' D d j)
def gG(f:En->Res R):En->Res Fl:=λenv=>(f env).bind λr=>.ok (.rt r)
def ROk.ret(c:Rep g M ρ env σ H)(j:Same g.H₀ H0)(h:ROk g M ρ H0 H v r)(hz:∀a,¬g.Z a):RetOk g H v r:=by
 have mu:∀a,M a->g.H₀ a=none->Mu H a:=λa h1 f=>(c.fl a h1 f).elim id λz=>(hz a z.1).elim;have key:∀{fr:Bool}{a:Addr},fQ g M fr a->nl g.H₀ H a\/(fr=false/\g.Ma a):=λ{fr a} z=>by
  cases fr with
  |true=>exact .inl ⟨z.2 rfl,mu a z.1 (z.2 rfl)⟩
  |false=>exact(c.u9 a z.1).imp (λw=>⟨w,mu a z.1 w⟩) λw=>⟨rfl,w⟩
 cases r with
 |val d fr al=>exact Is.weak (λa z=>z.elim key λ⟨i,_,o⟩=>.inl (c.b8 i a o).2) h
 |new ds fr=>obtain⟨a,vs,rfl,h1,f,k,q,l⟩:=h;exact⟨a,vs,rfl,h1,j.free k,IsAll.weak (λb z=>⟨λe=>f (e▸z.1),key z⟩) l⟩
 |g8 d=>obtain⟨T,m,is⟩:=h;exact Is.weak (λa z=>let ⟨_,n,p,_⟩:=m a z;⟨j.free n,p⟩) is
def ROk.flatIs(h:ROk g M ρ H0 H v r)(a:r.d.flat=true):Is H (λ_=>False) r.d v:=by
 cases r with
 |val d fr al=>exact Is.flat a h
 |new ds fr=>simp[D.flat,R.d]at a
 |g8 d=>obtain⟨T,_,is⟩:=h;exact Is.flat a is
def bE(h:PD X E e f):A3 X E (.Return (some e) pos) (gG f):=by obtain⟨t,p1,s1⟩:=h;exact⟨_,lJ p1,λg M j env σ H D b p=>s1.sr b p λr v c H' e a ro d=>d v c H' (l7.refl _ _) a.same (λhz=>ro.ret a b.same hz) λi=>ro.flatIs i⟩
def cX(i:Nat)(f:En->Res R):En->Res Fl:=λenv=>(f env).bind λr=>if i<env.length then .ok (.nx (put env i r))else .stuck
def zw(s:Snd mg E t f):Gu mg E (lK t (aT i)) (cX i f):=by
 intro g M k env σ H D a p;refine s.sr a p λr v l H' e b ro d=>?_;by_cases h:i<env.length
 .rw[Tv h]at d;obtain⟨M2,j,e2,c⟩:=b.store a.same h ro;exact d _ M2 j H' e2 c
 .rw[TJ h]at d;exact d.elim
def be(a:X.N.Nodup)(b:X.N[i]?=some x)(c:JF X.env.scope x)(h:PD X E e f)(hs:autoParam (swapsWith e (some (.Name x pos')) pos.line X.env=pure false) ae)
 (d:autoParam (X.fn x=true\/X.env.scope.names.lookup x=some .local) aM):A3 X E (.Assign [.Name x pos'] e pos) (cX i f):=by
 obtain⟨t,p1,s1⟩:=h;exact⟨_,iq a b c p1 hs d,zw s1⟩
def qw(env:En)(i:Nat):Option (List D×Bool):=match env[i]? with
 |some (some (.own ds fr))=>some (ds,fr)
 |some (some (.g9 (.lst ds)))=>some (ds,true)
 |_=>none
mutual
noncomputable def D.sz:D->Nat
 |.tup ds=>D.Nw ds+1
 |.lst ds=>D.Nw ds+1
 |.cU _ ds=>D.Nw ds+1
 |_=>0
noncomputable def D.Nw:List D->Nat
 |[]=>0
 |d::ds=>d.sz+D.Nw ds+1
end
section
variable{H:Hp}{m m':Addr->Prop}
mutual
theorem Is.avoid(ha:Is H m' e (.ref a)):∀{d:D}{v:V},d.sz<e.sz->Is H m d v->Is H (λb=>m b/\b≠a) d v
 |.bn,_,_,h=>h
 |.bl _,_,_,h=>h
 |.int _,_,_,h=>h
 |.str _,_,_,h=>h
 |.tup ds,_,hs,h=>by obtain⟨b,vs,rfl,h1,c⟩:=h;simp only[D.sz]at hs;exact⟨b,vs,rfl,h1,IsAll.avoid ha (by lia) c⟩
 |.lst ds,_,hs,h=>by
  have h':=h;obtain⟨b,vs,rfl,h1,c⟩:=h;have f:b≠a:=λz=>by subst z;have q:=Is.inj h' ha;rw[q]at hs;lia
  simp only[D.sz]at hs;refine⟨b,vs,rfl,?_,IsAll.avoid ha (by lia) c⟩;rcases h1 with⟨h1,g⟩|⟨o,h1,g⟩
  .exact .inl ⟨h1,g,f⟩
  .exact .inr ⟨o,h1,g,f⟩
 |.cU ks ds,_,hs,h=>by
  have h':=h;obtain⟨b,kvs,rfl,h1,c⟩:=h;have f:b≠a:=λz=>by subst z;have q:=Is.inj h' ha;rw[q]at hs;lia
  simp only[D.sz]at hs;exact⟨b,kvs,rfl,⟨h1.1,h1.2,f⟩,IsAll.avoid ha (by lia) c⟩
theorem IsAll.avoid(ha:Is H m' e (.ref a)):∀{ds:List D}{vs:List V},D.Nw ds<e.sz->IsAll H m ds vs->IsAll H (λb=>m b/\b≠a) ds vs
 |[],_,_,h=>h
 |d::ds,_,hs,h=>by obtain⟨v,r,rfl,h1,c⟩:=h;simp only[D.Nw]at hs;exact⟨v,r,rfl,Is.avoid ha (by lia) h1,IsAll.avoid ha (by lia) c⟩
end
end
def Rep.Ju(c:Rep g M ρ env σ H)(e:qw env i=some (ds,fr)) :
 ∃(p:Addr->Prop)(m:Pr)(a:Addr)(vs:List V),(∀b,M b->p b)/\Rep g p m (env.set i (some (.own ds fr))) σ H/\σ[i]?=some (some (.ref a))/\H a=some (.lst vs)/\(∀b,m i b↔b=a)/\IsAll H (fQ g p fr) ds vs/\i<env.length/\(∀j b,m j b->ρ j b)/\(∀j,j≠i->m j=ρ j):=by
 unfold qw at e;cases q:env[i]? with
 |none=>rw[q]at e;cases e
 |some o=>
  have t:i<env.length:=(TL.mp q).1;have C:env.set i (env[i])=env:=WO t;cases o with
  |none=>rw[q]at e;cases e
  |some sl=>
   obtain⟨v,A,k⟩:=c.slot i sl q;rw[q]at e;cases sl with
   |val d f=>cases e
   |B4 d=>cases e
   |own F f'=>
    cases e;obtain⟨a,vs,rfl,h1,L,T⟩:=k
    grind
   |g9 d=>
    cases d with
    |lst F=>
     cases e;have P:=k;obtain⟨a,vs,rfl,h1,L⟩:=k;have G:ρ i a:=by rcases h1 with⟨_,z⟩|⟨_,_,z⟩<;>exact z
     obtain⟨pm,Q,U,pl,I⟩:=c.b8 i a G;have J:H a=some (.lst vs):=by
      rcases h1 with⟨h1,_⟩|⟨o,h1,_⟩
      .exact h1
      .rw[h1]at pl;cases pl;exact I.elim
     have n:IsAll H (λb=>ρ i b/\b≠a) ds vs:=IsAll.avoid P (by simp only[D.sz];lia) L
     let p:Addr->Prop:=λb=>M b\/(ρ i b/\b≠a)
     let m:Pr:=wb ρ i λb=>b=a
     have N:Rep g p m (env.set i (some (.own ds true))) (σ.set i (some (.ref a))) H:=by
      have R:Rep g p (λj b=>if j=i then b=a else ρ j b) (env.set i (some (.own ds true))) σ H:=by
       refine⟨c.same,λb y=>y.elim (c.jG b) λz=>?_,λb y=>y.elim (c.u9 b) λz=>.inl (c.b8 i b z.1).2.1,λb y S=>y.elim (λz=>c.fl b z S) λz=>.inl (c.b8 i b z.1).2.2,λj s B=>?_,λj b h=>?_,λj k b u w=>?_,λj b h=>?_,by rw[V5];exact c.len,c.zz⟩
       .exact(c.b8 i b z.1).2.2.some
       .by_cases l:j=i
        .subst l;rw[Up t]at B;cases B;exact⟨_,A,a,vs,rfl,J,λb=>by simp,IsAll.weak (λb z=>⟨.inr z,λ_=>(c.b8 j b z.1).2.1⟩) n⟩
        .rw[Uw (UM l)]at B;obtain⟨O,K,k2⟩:=c.slot j s B;have eT:(λb=>if j=i then b=a else ρ j b)=ρ j:=by funext b;rw[TJ l]
         exact⟨O,K,by show SlOk g p (λb=>if j=i then b=a else ρ j b) H O s;rw[eT];exact SlOk.weak (λ_=>.inl) k2⟩
       .by_cases l:j=i
        .rw[Tv l]at h;subst h;exact⟨λz=>z.elim pm λz=>z.2 rfl,Q,Mu.lst J⟩
        .rw[TJ l]at h;exact⟨λz=>z.elim (c.b8 j b h).1 λz=>l (c.apart j i b h z.1),(c.b8 j b h).2⟩
       .by_cases l:j=i
        .by_cases x:k=i
         .rw[l,x]
         .rw[Tv l]at u;rw[TJ x]at w;subst u;exact absurd (c.apart k i b w G) x
        .by_cases x:k=i
         .rw[Tv x]at w;rw[TJ l]at u;subst w;exact absurd (c.apart j i b u G) l
         .rw[TJ l]at u;rw[TJ x]at w;exact c.apart j k b u w
       .unfold hJ;by_cases l:j=i
        .subst l;rw[Up t];rfl
        .rw[TJ l]at h;rw[Uw (UM l)];exact c.ow j b h
      have r:i<σ.length:=by rw[<- c.len];exact t
      have es:σ.set i (some (.ref a))=σ:=by have:σ[i]=some (.ref a):=(TL.mp A).2;rw[<- this];exact WO r
      rw[es];exact R
     have r:i<σ.length:=by rw[<- c.len];exact t
     have es:σ.set i (some (.ref a))=σ:=by have:σ[i]=some (.ref a):=(TL.mp A).2;rw[<- this];exact WO r
     rw[es]at N;refine⟨p,m,a,vs,λ_=>.inl,N,A,J,λb=>by show wb ρ i (λb=>b=a) i b↔b=a;rw[hV],IsAll.weak (λb z=>⟨.inr z,λ_=>(c.b8 i b z.1).2.1⟩) n,t,λj b z=>?_,λj l=>fy l⟩
     grind [wb,hV,fy]
    |_=>cases e
def A4(i:Nat)(f:En->Res R):En->Res Fl:=λenv=>match qw env i with
 |some (ds,fr)=>(f env).bind λr=>if ds.length<lim/\¬i∈r.al then .ok (.nx ((aZ env r.al).set i (some (.own (ds++[r.d]) (fr&&r.fr)))))else .stuck
 |none=>.stuck
def zx(ha:PE X a (aI i))(h:PD X E e f)
 (n:autoParam (attributeBase a "append" X.env (eval a X.env)=eval a X.env) ae)
 (w:autoParam (((backTo cpos (starEach [e] X.env)).all (λx=>!x.1)&&(backToKw cpos (keywordEach [] X.env)).all (λx=>x.1.isSome)
   && decide (([e]:List Expr).length+([]:List Keyword).length+(if([]:List Keyword).isEmpty then 0 else 1)<30))=true) ae)
 (s:autoParam ((apos.endLine==cpos.line)=true) ae) (hs:autoParam (starEach [e] X.env=(false,eval e X.env)::starEach [] X.env) ae) (c:autoParam ((backTo cpos (starEach [] X.env)).any (·.1)=false) ae)
 (J:autoParam (swapsWith (.Call (.Attribute a "append" apos) [e] [] cpos) none pos.line X.env=pure false) ae) :
 A3 X E (.Expr (.Call (.Attribute a "append" apos) [e] [] cpos) pos) (A4 i f):=by
 obtain⟨t,p1,s1⟩:=h;refine⟨_,bV (iN U1 UW UX du ha (ah p1 aC hs) n w s hs c) J,λg M ρ env σ H D v p=>?_⟩;unfold A4 at p;cases e1:qw env i with
 |none=>rw[e1]at p;exact p.elim
 |some o=>
  obtain⟨ds,fr⟩:=o;rw[e1]at p;dsimp only at p;obtain⟨M0,ρ0,l,vs,m0,U,K,k1,k2,k4,hi,_⟩:=v.Ju e1;refine⟨_,K,.inl ⟨rfl,vs,SqL.of k1⟩,s1.sr v p λr y M' H' e A ro G=>?_⟩;by_cases I:ds.length<lim/\¬i∈r.al
  .rw[Tv I]at G;obtain⟨M1,x1,L,j,N⟩:=ro.is A e v.same;obtain⟨M2,ρ2,V,B,o2,k5,k6⟩:=Rep.aZ r.al j;have O:Is H' (fQ g M2 r.fr) r.d y:=Is.frozen j V o2 N;have e2:qw (aZ env r.al) i=some (ds,fr):=by unfold qw;rw[Dn _ I.2];exact e1
   obtain⟨P,C,l3,vs3,W,k,F,Y,Z,j4,Q,_⟩:=B.Ju e2;rw[K]at F;cases F;have R:H' l=some (.lst vs):=e.h _ _ k1;rw[R]at Y;cases Y;have pl:C i l:=(Z l).mpr rfl;obtain⟨S,_⟩:=k.b8 i l pl;have T:IsAll H' (fQ g P (fr&&r.fr)) (ds++[r.d]) (vs++[y]):=by refine IsAll.snoc (IsAll.weak (λb z=>⟨z.1,λq=>z.2 (by cases fr<;>simp_all)⟩) j4) (Is.weak (λb z=>⟨W b z.1,λq=>z.2 (by cases fr<;>simp_all)⟩) O)
   have kp:∀b u,H' b=some u->(fQ g P (fr&&r.fr) b\/iA u)->aP H' l (.lst (vs++[y])) b=some u:=λb u q z=>by
    rw[af]
    .exact q
    .rintro rfl;rcases z with z|z
     .exact S z.1
     .rw[R]at q;cases q;exact z
   obtain⟨f1,m⟩:=k.write (sl:=.own (ds++[r.d]) (fr&&r.fr)) (vs':=vs++[y]) pl (by rw[V5];exact Q) K ⟨l,vs++[y],rfl,ag,Z,IsAll.mono kp (λ_ _ _ z=>z) T⟩;rw[List.set_set]at m;refine⟨l,vs,y,rfl,rfl,R,by rw[k4.length];exact ui I.1,?_⟩;exact G σ P C _ (l7.trans ⟨λa z=>W a (V a (L a z)),λ_ _ q _=>q⟩ f1) m
  .rw[TJ I]at G;exact G.elim
end
def KA(ix:List Nat)(t:TG)(asg:D->Bool->En->Option En):Prop:=∀(g:Gd)(M:Addr->Prop)(e:Pr)(env f:En)(σ:St)(H:Hp)(d:D)(fr:Bool)(v:V)(Q:St->Hp->Prop),
 Rep g M e env σ H->Is H (fQ g M fr) d v->asg d fr env=some f->(∀(b:St)(c:Pr),Rep g M c f b H->(∀j,¬j∈ix->b[j]?=σ[j]?)->(∀j a,c j a->e j a)->Q b H)->t v σ H Q
def N6(ix:List Nat)(t:Nj)(asg:List D->Bool->En->Option En):Prop:=∀(g:Gd)(M:Addr->Prop)(d:Pr)(env e:En)(σ:St)(H:Hp)(ds:List D)(fr:Bool)(vs:List V)(Q:St->Hp->Prop),
 Rep g M d env σ H->IsAll H (fQ g M fr) ds vs->asg ds fr env=some e->(∀(b:St)(c:Pr),Rep g M c e b H->(∀j,¬j∈ix->b[j]?=σ[j]?)->(∀j a,c j a->d j a)->Q b H)->t vs σ H Q
def Fp(X:Cx)(ix:List Nat)(tg:Expr)(asg:D->Bool->En->Option En):Prop:=∃t,PG X tg t/\KA ix t asg
def Gv(X:Cx)(ix:List Nat)(ts:List Expr)(asg:List D->Bool->En->Option En):Prop:=∃t,JO X ts t/\N6 ix t asg
section
variable{X:Cx}{E:XK}
def gN(i:Nat):D->Bool->En->Option En:=λd fr env=>if i<env.length then some (env.set i (some (.val d fr)))else none
def A5:KA [i] (aT i) (gN i):=by
 intro g M h env l σ H d fr v Q c is e k;unfold gN at e;by_cases f:i<env.length
 .rw[Tv f]at e;cases e;exact k _ _ (c.put (sl:=.val d fr) (T:=λ_=>False) f is (λ_ z=>z.elim) λ_ z=>z.elim) (λj b=>Uw λe=>b (by simp[e])) λj a z=>by
   by_cases b:j=i
   .subst b;rw[hV]at z;exact z.elim
   .rw[fy b]at z;exact z
 .rw[TJ f]at e;cases e
def aG(a:X.N.Nodup)(b:X.N[i]?=some x)(c:JF X.env.scope x)(d:autoParam (X.fn x=true\/X.env.scope.names.lookup x=some .local) aM):Fp X [i] (.Name x pos) (gN i):=⟨_,br a b c d,A5⟩
noncomputable def cb:List D->Bool->En->Option En:=λds _ env=>match ds with
 |[]=>some env
 |_=>none
def aJ(f:D->Bool->En->Option En)(fs:List D->Bool->En->Option En):List D->Bool->En->Option En:=λds fr env=>match ds with
 |d::r=>(f d fr env).bind λa=>fs r fr a
 |[]=>none
def bZ:Gv X [] [] cb:=⟨_,dD,λg M b env c σ H ds fr vs Q a is e k=>by
 cases ds with
 |nil=>cases e;cases is;exact⟨rfl,k σ b a (λ_ _=>rfl) λ_ _ z=>z⟩
 |cons d ds=>cases e⟩
def aO(h1:Fp X ix e f)(s:Gv X jx es fs)
 (hs:∀t,PG X e t->∀u,JO X es u->JO X (e::es) (bc t u)):Gv X (ix++jx) (e::es) (aJ f fs):=by
 obtain⟨t,p1,s1⟩:=h1;obtain⟨u,p2,s2⟩:=s;refine⟨_,hs t p1 u p2,λg M w env x σ H ds fr vs Q h is e k=>?_⟩;cases ds with
 |nil=>cases e
 |cons d ds=>
  obtain⟨v,r,rfl,y,A⟩:=is;unfold aJ at e;dsimp only at e;cases q:f d fr env with
  |none=>rw[q]at e;cases e
  |some o=>rw[q]at e;refine⟨v,r,rfl,s1 g M w env o σ H d fr v _ h y q λi l b B C=>?_⟩;exact s2 g M l o x i H ds fr r Q b A e λm n c D F=>k m n c (λj p=>(D j λz=>p (by simp[z])).trans (B j λz=>p (by simp[z]))) λj a z=>C j a (F j a z)
def gT(n:Nat)(fs:List D->Bool->En->Option En):D->Bool->En->Option En:=λd fr env=>match d with
 |.tup ds=>if ds.length=n then fs ds fr env else none
 |_=>none
def cA(j:X.calm=true)(h:Gv X ix es fs)(l:autoParam ((assignEach es X.env).length=n) ae)(b:autoParam ((assignEach es X.env).findIdx? (·.1)=none) ae):Fp X ix (.Tuple es k pos) (gT n fs):=by
 obtain⟨t,p1,s1⟩:=h;refine⟨_,gx j p1 l b,λg M m env o σ H d fr v Q c is e p=>?_⟩;unfold gT at e;cases d with
 |tup ds=>
  obtain⟨a,vs,rfl,h1,i⟩:=is;dsimp only at e;by_cases f:ds.length=n
  .rw[Tv f]at e;exact⟨a,vs,rfl,SqT.of h1,i.length.trans f,s1 g M m env o σ H ds fr vs Q c i e p⟩
  .rw[TJ f]at e;cases e
 |_=>cases e
def qx(f:En->Res R)(asg:D->Bool->En->Option En):En->Res Fl:=λenv=>(f env).bind λr=>match asg r.d r.fr (aZ env r.al)with
 |some a=>.ok (.nx a)
 |none=>.stuck
def f_(y:PD X E e f)(A:Fp X ix tg asg)(hs:autoParam (swapsWithSole [tg] e pos.line X.env=pure false) ae)(B:autoParam (swappedStores [tg] e X.env=pure none) ae)
 (h1:autoParam ((assignEach [tg] X.env).map (·.2)=[assign tg X.env]) ae):A3 X E (.Assign [tg] e pos) (qx f asg):=by
 obtain⟨t,p1,s1⟩:=y;obtain⟨u,p2,s2⟩:=A;refine⟨_,JP p1 p2 hs B h1,λg M G env σ H D c p=>s1.sr c p λr v I H' e h ro k=>?_⟩;obtain⟨M1,x1,l,b,m⟩:=ro.is h e c.same;obtain⟨M2,n,x,i,C,_,_⟩:=Rep.aZ r.al b;have o:Is H' (fQ g M2 r.fr) r.d v:=Is.frozen b x C m;cases q:asg r.d r.fr (aZ env r.al)with
 |none=>simp only[q]at k;exact k.elim
 |some F=>simp only[q]at k;exact s2 g M2 n _ F σ H' r.d r.fr v _ i o q λs w j _ _=>k s M2 w H' ⟨λa z=>x a (l a z),λ_ _ q _=>q⟩ j
end
structure Src where
 xs:List D
 fr:Bool
 al:List Nat
structure Walk(J:It) (m:Addr->Prop) (H:Hp) (xs:List D):Prop where
 go:∀H' i d,(∀a o,H a=some o->(m a\/iA o)->H' a=some o)->xs[i]?=some d->J.go i H'/\∀x H'',J.Ji i H' x H''->Same H' H''/\Is H'' m d x
 stop:∀H',(∀a o,H a=some o->(m a\/iA o)->H' a=some o)->J.stop xs.length H'
theorem Walk.weak(w:Walk J m H xs)(h:∀a,m a->m' a):Walk J m' H xs:=⟨λH' i d k e=>let ⟨a,b⟩:=w.go H' i d (λa o q z=>k a o q (z.imp (h a) id)) e;⟨a,λx f y=>let ⟨c,d⟩:=b x f y;⟨c,d.weak h⟩⟩,λH' k=>w.stop H' λa o q z=>k a o q (z.imp (h a) id)⟩
def PostI(mg:Str->Option Xw)(E:XK)(g:Gd)(M:Addr->Prop)(b:Pr)(env:En)(σ:St)(H:Hp)(R:It->Hp->Prop):Res Src->Prop
 |.stuck=>False
 |.exc c=>Gm mg E g c
 |.ok s=>∀J a H',Ext M H a H'->Rep g a b env σ H'->Walk J (vmsk g a s.fr b s.al) H' s.xs->R J H'
def N7(mg:Str->Option Xw)(E:XK)(b:TI)(f:En->Res Src):Prop:=∀g M a env σ H R,Rep g M a env σ H->PostI mg E g M a env σ H R (f env)->b σ H R
def N8(X:Cx)(E:XK)(tg iter:Expr)(f:En->Res Src):Prop:=∃a,PI X tg iter a/\N7 X.mg E a f
section
variable{X:Cx}{E:XK}{tg:Expr}
def Rx(K:Xu)(c:TE):TI:=λσ H R=>c σ H λx b=>∃a,x=.ref a/\(((∃xs,SqL K b a xs)/\R (FE K a) b)\/((∃xs,SqT K b a xs)/\R (Q9 K a) b))
def KB(i:PE X l tl):PI X tg l (Rx X.K tl):=by
 intro aa s σ H R I h;refine bR (i aa s σ H _ I h) λv s1 ⟨x,g,c,j,q1⟩=>?_;obtain⟨a,e,q⟩:=q1;subst e;cases j;rcases q with⟨⟨xs,d⟩,q⟩|⟨⟨xs,d⟩,q⟩
 .obtain⟨its,k,p,hz⟩:=c.list d;refine V9 p.isList ?_;refine⟨s1.heap.objs.size,[s1.heap.objs.size],_,_,g,rfl,c.kept (t':=s1.toks) λb o e=>RW _ e,sB a _,⟨_,Tz _ rfl,rfl,rfl⟩,λb f=>?_,q⟩;have e:b=s1.heap.objs.size:=by simpa using f
  subst e;exact c.rB (Tt _) (c.aS.fresh (Tt _))
 .obtain⟨its,k,p,hz⟩:=c.tuple d;refine wpAny_pyIter_tuple (show s1.heap.IsTuple a its.toArray from p) ?_;refine⟨s1.heap.objs.size,[s1.heap.objs.size],_,_,g,rfl,c.kept (t':=s1.toks) λb o e=>RW _ e,xE a _,⟨_,Tz _ rfl,rfl,rfl⟩,λb f=>?_,q⟩;have e:b=s1.heap.objs.size:=by simpa using f
  subst e;exact c.rB (Tt _) (c.aS.fresh (Tt _))
def A6{K:Xu}{a:Addr}{m:Addr->Prop}(h:(H a=some (.lst vs)/\m a)\/∃o,H a=some (.aZ o (.lst vs))/\m a)(is:IsAll H m ds vs):Walk (FE K a) m H ds:=by
 have st:∀H',(∀a o,H a=some o->(m a\/iA o)->H' a=some o)->SqL K H' a vs:=λH' k=>by
  rcases h with⟨h,c⟩|⟨o,h,_⟩
  .exact .inl (.inl (k a _ h (.inl c)))
  .exact .inl (.inr ⟨o,k a _ h (.inr True.intro)⟩)
 refine⟨λH' i d k e=>?_,λH' k=>⟨vs,st H' k,by rw[is.length];exact Tt _⟩⟩;obtain⟨v,b,f⟩:=(is.mono k λ_ _ _ z=>z:IsAll H' m ds vs).get e;refine⟨⟨vs,v,st H' k,b⟩,λx g y=>?_⟩;obtain⟨rfl,y⟩:=y;have:=y vs (st _ k);rw[b]at this;cases this;exact⟨Same.refl _,f⟩
def Do{K:Xu}{a:Addr}{m:Addr->Prop}(h:H a=some (.tup vs))(is:IsAll H m ds vs):Walk (Q9 K a) m H ds:=by have st:∀H',(∀a o,H a=some o->(m a\/iA o)->H' a=some o)->SqT K H' a vs:=λH' k=>SqT.of (k a _ h (.inr True.intro));refine⟨λH' i d k e=>?_,λH' k=>⟨vs,st H' k,by rw[is.length];exact Tt _⟩⟩;obtain⟨v,b,c⟩:=(is.mono k λ_ _ _ z=>z:IsAll H' m ds vs).get e;refine⟨⟨vs,v,st H' k,b⟩,λx f y=>?_⟩;obtain⟨rfl,y⟩:=y;have:=y vs (st _ k);rw[b]at this;cases this;exact⟨Same.refl _,c⟩
noncomputable def fW(lo:Int)(n:Nat):List D:=(List.range n).map λk=>.int (lo+(k:Nat))
def yk(lo:Int)(n:Nat):Walk (QO lo n) m H (fW lo n):=by
 refine⟨λH' i d k e=>?_,λH' k=>by show n<=(fW lo n).length;simp[fW]⟩;have a:i<n:=by have:=(TL.mp e).1;simpa[fW]using this
 refine⟨a,λx b y=>?_⟩;obtain⟨rfl,rfl⟩:=y;refine⟨Same.refl _,?_⟩;have:(fW lo n)[i]?=some (.int (lo+(i:Nat))):=by simp[fW,a]
 rw[this]at e;cases e;rfl
def iU(f:En->Res R):En->Res Src:=λenv=>(f env).bind λr=>match r.d with
 |.lst ds=>.ok ⟨ds,r.fr,r.al⟩
 |.tup ds=>.ok ⟨ds,r.fr,r.al⟩
 |_=>.stuck
def c9(h:PD X E l f):N8 X E tg l (iU f):=by
 obtain⟨t,p1,s1⟩:=h;refine⟨_,KB p1,λg M m env σ H R i p=>?_⟩;refine s1.one i (P:=λM H r=>PostI X.mg E g M m env σ H R r) p (λ_ _ z=>z) (λ_ _ _ z=>z) (λM H u H' r e p=>?_) λr v M1 k e1 b is q=>?_
 .cases r with
  |stuck=>exact p
  |exc c=>exact p
  |ok s=>exact λJ M2 n e2=>p J M2 n (e.trans e2)
 .cases z:r.d with
  |lst ds=>rw[z]at is;simp only[z]at q;obtain⟨a,vs,rfl,h1,j⟩:=is;exact⟨a,rfl,.inl ⟨⟨vs,.inl (h1.imp (·.1) λ⟨o,z,_⟩=>⟨o,z⟩)⟩,q _ M1 k (Ext.refl _ _) b (A6 h1 j)⟩⟩
  |tup ds=>rw[z]at is;simp only[z]at q;obtain⟨a,vs,rfl,h1,j⟩:=is;exact⟨a,rfl,.inr ⟨⟨vs,SqT.of h1⟩,q _ M1 k (Ext.refl _ _) b (Do h1 j)⟩⟩
  |_=>simp only[z]at q;exact q.elim
noncomputable def cR(i:Int):Bool:=decide (-(2^62)<=i)&&decide (i<2^62)
def N9(fs:En->Res (List R)):En->Res Src:=λenv=>(fs env).bind λrs=>match rs.map R.d with
 |[.int j]=>if cR j then .ok ⟨fW 0 j.toNat,true,[]⟩else .stuck
 |_=>.stuck
def PostI.ext{mg:Str->Option Xw}{M a:Addr->Prop}{R:It->Hp->Prop}(e:Ext M H a H')(p:PostI mg E g M ρ env σ H R r):PostI mg E g a ρ env σ H' R r:=by
 cases r with
 |stuck=>exact p
 |exc c=>exact p
 |ok s=>exact λJ M2 b e2=>p J M2 b (e.trans e2)
def lQ(h:Gl X "range") (i:X.mg "range"=none) (ha:C9 X E [a] fs) (hs:autoParam (starEach [a] X.env=[(false,eval a X.env)]) ae):N8 X E tg (.Call (.Name "range" p) [a] [] pos) (N9 fs):=by
 obtain⟨t,p1,s1⟩:=ha;refine⟨_,Ay h i p1 hs,λg M k env σ H l f p=>s1.one f (P:=λM H r=>PostI X.mg E g M k env σ H l r) p (λ_ _ z=>z) (λ_ _ _ z=>z) (λ_ _ _ _ _ e p=>p.ext e) λrs vs M1 m e1 b is q=>?_⟩;generalize hd:rs.map R.d=ds at is q
 match ds,is,q with
 |[.int j],is,q=>
  obtain⟨v,w,rfl,n,o⟩:=is;cases n;cases o;dsimp only at q;by_cases c:cR j=true
  .rw[Tv c]at q;simp only[cR,Um,Vg]at c;exact⟨j,rfl,c.1,c.2,q _ M1 m (Ext.refl _ _) b (yk 0 j.toNat)⟩
  .rw[TJ c]at q;exact q.elim
 |[],_,q=>exact q.elim
 |[.bn],_,q=>exact q.elim
 |[.bl _],_,q=>exact q.elim
 |[.str _],_,q=>exact q.elim
 |[.tup _],_,q=>exact q.elim
 |[.lst _],_,q=>exact q.elim
 |[.cU _ _],_,q=>exact q.elim
 |.int _::_::_,_,q=>exact q.elim
 |.bn::_::_,_,q=>exact q.elim
 |.bl _::_::_,_,q=>exact q.elim
 |.str _::_::_,_,q=>exact q.elim
 |.tup _::_::_,_,q=>exact q.elim
 |.lst _::_::_,_,q=>exact q.elim
 |.cU _ _::_::_,_,q=>exact q.elim
def j7(asg:D->Bool->En->Option En)(fr:Bool)(body:En->Res Fl):List D->En->Res Fl
 |[],env=>.ok (.nx env)
 |x::xs,env=>match asg x fr env with
  |none=>.stuck
  |some b=>(body b).bind λr=>match r with
   |.nx a=>j7 asg fr body xs a
   |.ct a=>j7 asg fr body xs a
   |.bk a=>.ok (.nx a)
   |.rt r=>.ok (.rt r)
   |.rm r e=>.ok (.rm r e)
def ut(a:En->Res Src)(asg:D->Bool->En->Option En)(body:En->Res Fl):En->Res Fl:=λenv=>(a env).bind λs=>j7 asg s.fr body s.xs (aZ env s.al)
def N_(J:It)(u:TG)(tb:TS)(D:Ends)(σ:St)(c:Hp):Prop:=∃W:Nat->Nat->St->Hp->Prop,(∃m,W 0 m σ c)/\∀i m σ H,W i m σ H->(J.stop i H/\D.nx σ H)\/(J.go i H/\∃N:St->Hp->Prop,(∀a H',N a H'->∃m',m'<m/\W (i+1) m' a H')/\∀x H',J.Ji i H x H'->u x σ H' λb d=>tb {D with nx:=N,ct:=N,bk:=D.nx} b d)
def qy{asg:D->Bool->En->Option En}{G:En->Res Fl}{g:Gd}{M2:Addr->Prop}{H:Pr}{p:En}{σ:St}{v:Hp}{D:Ends}(s2:KA ix u asg)(Z:Gu X.mg E tb G)(I:Rep g M2 H p σ v)(K:Walk J (fQ g M2 fr) v xs)(O:PostS X.mg E g M2 v D (j7 asg fr G xs p)):N_ J u tb D σ v:=by
 refine⟨λi m l H'=>m=xs.length-i/\i<=xs.length/\∃k n L,Rep g k n L l H'/\l7 M2 v k H'/\PostS X.mg E g k H' D (j7 asg fr G (xs.drop i) L),⟨_,rfl,Ul _,M2,H,_,I,l7.refl _ _,O⟩,?_⟩;rintro i m l H' ⟨rfl,hle,k,n,L,q,f',s⟩;have kp:∀a o,v a=some o->(fQ g M2 fr a\/iA o)->H' a=some o:=λa o e z=>f'.h a o e (z.imp (·.1) id);by_cases w:i<xs.length
 .have ed:xs[i]?=some xs[i]:=by simp[w]
  obtain⟨go,yl⟩:=K.go H' i _ kp ed;have A:xs.drop i=xs[i]::xs.drop (i+1):=List.drop_eq_getElem_cons w;rw[A]at s;unfold j7 at s;refine .inr ⟨go,λt b=>∃M'' M f,Rep g M'' M f t b/\l7 M2 v M'' b/\PostS X.mg E g M'' b D (j7 asg fr G (xs.drop (i+1)) f),λt b z=>⟨xs.length-(i+1),by lia,rfl,w,z⟩,λx b y=>?_⟩;obtain⟨Y,is⟩:=yl x b y;have B:=q.grow Y;have fx:l7 k H' k b:=⟨λ_ z=>z,λa o e _=>Y a o e⟩;have P:Is b (fQ g k fr) xs[i] x:=is.weak λa z=>fQ.mono f'.m z;cases Q:asg xs[i] fr L with
  |none=>simp only[Q]at s;exact s.elim
  |some R=>
   simp only[Q]at s;refine s2 g k n L R l b _ fr x _ B P Q λS T C _ _=>?_;refine Z g k T R S b _ C ?_;have d:=PostS.aZ fx s;cases U:G R with
   |stuck=>rw[U]at d;exact d
   |exc c=>rw[U]at d;exact d
   |ok r=>
    rw[U]at d;cases r with
    |nx e3=>exact λV W F H3 N j=>⟨W,F,e3,j,(f'.trans fx).trans N,PostS.aZ N d⟩
    |ct e3=>exact λV W F H3 N j=>⟨W,F,e3,j,(f'.trans fx).trans N,PostS.aZ N d⟩
    |bk e3=>exact d
    |rt r=>exact d
    |rm r e3=>exact d
 .have e:i=xs.length:=by lia
  subst e;rw[List.drop_length]at s;exact .inl ⟨K.stop H' kp,s l k n H' (l7.refl _ _) q⟩
def kX(m:PassesOwn (model X.prog X.w) X.A X.env X.xe)(n:X.calm=true)
 (e:N8 X E tg iter src) (r:Fp X ix tg asg) (t:um X E body fb) (hs:autoParam (∀x,foldedSetIterable iter X.env x=pure x) ab):A3 X E (.For tg iter body [] pos) (ut src asg fb):=by
 obtain⟨G,p1,s1⟩:=e;obtain⟨u,p2,s2⟩:=r;obtain⟨tb,p3,v⟩:=t;refine⟨_,fM m n p1 p2 p3 hs,λg M y env σ H D f p=>?_⟩;refine s1 g M y env σ H _ f ?_;unfold ut at p;cases q:src env with
 |stuck=>rw[q]at p;exact p
 |exc c=>rw[q]at p;exact p
 |ok s=>rw[q]at p;intro J M1 k e1 b B;obtain⟨M2,C,l,d,F,_,_⟩:=Rep.aZ s.al b;have h:Walk J (fQ g M2 s.fr) k s.xs:=B.weak λa z=>z.elim (fQ.mono l) λ⟨i,e,o⟩=>⟨F i e a o,λ_=>(b.b8 i a o).2.1⟩;have j:PostS X.mg E g M2 k D (j7 asg s.fr fb s.xs (aZ env s.al)):=PostS.aZ (e1.aZ.trans ⟨l,λ_ _ q _=>q⟩) p;exact qy s2 v d h j
end
theorem je:∀(names:List (Str×NameKind))(b:List (Str×Addr)),(∀x∈names,x.2=.free->∃c,env.cells.lookup x.1=some c)->(∀y c,b.lookup y=some c->env.cells.lookup y=some c)->
 ∃cl,(forIn names b λ(x:Str×NameKind)(r:List (Str×Addr))=>(do
  if(x.2==.free)=true then
   let c <- cellOf env x.1
   pure (ForInStep.yield ((x.1,c)::r))
  else pure (ForInStep.yield r):Sem (ForInStep (List (Str×Addr)))))=pure cl/\(∀y c,cl.lookup y=some c->env.cells.lookup y=some c)/\(∀x∈names,x.2=.free->∃c,cl.lookup x.1=some c)/\(∀y c,b.lookup y=some c->∃a,cl.lookup y=some a)
 |[],b,_,h=>⟨b,by simp,h,λ_ z=>absurd z (by simp),λy c e=>⟨c,e⟩⟩
 |(n,k)::r,b,g,h=>by
  by_cases i:k=.free
  .subst i;obtain⟨c,m⟩:=g (n,.free) (by simp) rfl;have j:cellOf env n=pure c:=by simp[cellOf,m]
   have h':∀y a,((n,c)::b).lookup y=some a->env.cells.lookup y=some a:=λy a e=>by
    rw[V0]at e;cases f:y==n with
    |true=>rw[f]at e;cases e;rw[eq_of_beq f];exact m
    |false=>rw[f]at e;exact h y a e
   obtain⟨cl,e1,e2,e3,e4⟩:=je r ((n,c)::b) (λx hx=>g x (by simp[hx])) h';have self:∃a,cl.lookup n=some a:=e4 n c (by simp[V0]);refine⟨cl,?_,e2,λx hx d=>?_,λy a e=>?_⟩
   .rw[List.forIn_cons];simp only[beq_self_eq_true,Vd,j,pure_bind];exact e1
   .rcases TH.mp hx with rfl|hx
    .exact self
    .exact e3 x hx d
   .by_cases f:y=n
    .rw[f];exact self
    .refine e4 y a ?_;have o:(y==n)=false:=by simpa using f
     rw[V0,o];exact e
  .obtain⟨cl,e1,e2,e3,e4⟩:=je r b (λx hx=>g x (by simp[hx])) h;refine⟨cl,?_,e2,λx hx d=>?_,e4⟩
   .rw[List.forIn_cons];have l:(k==NameKind.free)=false:=by simpa using i
    simp only[l,TY,UI,pure_bind];exact e1
   .rcases TH.mp hx with rfl|hx
    .exact absurd d i
    .exact e3 x hx d
def rR(h:∀x∈scope.names,x.2=.free->∃c,env.cells.lookup x.1=some c) :
 ∃cl,closureFor scope env=pure cl/\(∀y c,cl.lookup y=some c->env.cells.lookup y=some c)/\(∀x∈scope.names,x.2=.free->∃c,cl.lookup x.1=some c):=by
 obtain⟨cl,e1,e2,e3,_⟩:=je scope.names [] h (λ_ _ e=>by simp at e);refine⟨cl,?_,e2,e3⟩;unfold closureFor;refine Eq.trans ?_ (show((pure cl:Sem (List (Str×Addr))) >>= λa=>pure a)=pure cl by simp);rw[<- e1]
 all_goals first
  |rfl
  |(congr 1;congr 1;funext x r;obtain⟨n,k⟩:=x;first|rfl|(dsimp only;split<;>simp_all))
theorem oH{f:Str->NameKind->NameKind}:∀(names:List (Str×NameKind))(y:Str),(names.map λx=>(x.1,f x.1 x.2)).lookup y=(names.lookup y).map (f y)
 |[],y=>rfl
 |(n,k)::r,y=>by
  rw[Tw,V0,V0];cases h:y==n with
  |true=>rw[eq_of_beq h];rfl
  |false=>exact oH r y
def j8(scope:Scope)(env:Env)(y:Str):(relabel scope env).names.lookup y=(scope.names.lookup y).map λk=>if(k==.free&&env.scope.kind==.function&&env.kindOf y==some .cell)=true then .cell else k:=by
 have e:(relabel scope env).names=scope.names.map λx=>(x.1,(λn k=>if(k==NameKind.free&&env.scope.kind==.function&&env.kindOf n==some .cell)=true then NameKind.cell else k) x.1 x.2):=by unfold relabel;refine U0 λx _=>?_;obtain⟨n,k⟩:=x;dsimp only;split<;>rfl
 rw[e];exact oH (f:=λn k=>if(k==NameKind.free&&env.scope.kind==.function&&env.kindOf n==some .cell)=true then NameKind.cell else k) scope.names y
def uu(h:scope.names.lookup y=some .free):(relabel scope env).names.lookup y=some .cell\/(relabel scope env).names.lookup y=some .free:=by
 rw[j8,h];simp only[Option.map_some];split
 .exact .inl rfl
 .exact .inr rfl
noncomputable def cB(X:Cx)(scope:Scope)(N:List Str)(cl:List (Str×Addr))(C:Addr)(s:Xt)(H:Hp)(ex:List Addr):Cx:={X with N:=N,s₀:=s,H₀:=H,env:=compEnvC scope cl C X.env,outer:=X.stack,ex:=ex,fn:=λ_=>false,pn:=[],xe:=λ_ _=>False}
section
variable{X:Cx}{aa:List (Addr×Obj)}{σ:St}{H:Hp}{s:Xt}{scope:Scope}{N:List Str}{cl:List (Str×Addr)}{C:Addr}{ex:List Addr}
def Gw(I:L2.Inv X aa σ H s)(hkind:scope.kind=.function)(hcell:∀y∈scope.names,y.2≠.cell)(hcl:∀y c,cl.lookup y=some c->X.env.cells.lookup y=some c)(hhas:∀x∈scope.names,x.2=.free->∃c,cl.lookup x.1=some c)
 (hC:s.heap.objs.size<=C) (hex:∀b∈ex,li X aa H b/\b<s.heap.objs.size):(cB X scope N cl C s H ex).Ok where
 mod:=I.ok.mod
 kind:=hkind
 glob:=I.ok.glob
 blt:=I.ok.blt
 above:=hC
 inj:=λx y c h1 h2=>I.ok.inj x y c (hcl x c h1) (hcl y c h2)
 has:=λy hy=>by
  have key:∀k,(relabel scope X.env).names.lookup y=some k->(k=.cell\/k=.free)->∃c,cl.lookup y=some c:=λk e hk=>by
   rw[j8]at e;cases q:scope.names.lookup y with
   |none=>rw[q]at e;cases e
   |some k0=>
    have hm:=Vc q;have h0:=hcell _ hm;have hf:k0=.free:=by
     rw[q]at e;simp only[Option.map_some,Option.some.injEq]at e;split at e
     .rename_i z;simp only[Um,V_]at z;exact z.1.1
     .rcases hk with hk|hk
      .exact absurd (e.trans hk) h0
      .exact e.trans hk
    exact hhas _ hm hf
  rcases hy with hy|hy
  .exact key _ hy (.inl rfl)
  .exact key _ hy (.inr rfl)
 Ny:=λ_ _ h=>by cases h
 hd:=I.ok.hd
 frames:=I.ok.frames
 QI:=.inl rfl
 Sv:=λb hb=>⟨T5 (Ue (hex b hb).2 hC),λx c e=>(hex b hb).1.2.2.2.2.1 x c (hcl x c e)⟩
 bs:=λb o e=>I.bs b o e
 Fu:=Ua I.ok.Fu I.sz
 BY:=λb o e hb=>by
  rcases(hex b hb).1.2.2.2.1 with z|z
  .exact I.ok.BY b o e z
  .exact absurd (Ue (TC e) (Ua I.ok.Fu z)) (Vu _)
 Fh:=λb hb hfs=>by
  rcases TH.mp (I.vg b hfs)with z|z
  .exact(hex b hb).1.2.1 z
  .exact(hex b hb).1.2.2.1 z
 oo:=I.stack
 Jr:=I.Ar
 kt:=I.kt
structure QC(X:Cx) (scope:Scope) (capN:List Str) (caps:List Nat):Prop where
 at':∀(k:Nat)(y:Str),capN[k]?=some y->∃j:Nat,caps[k]?=some j/\X.N[j]?=some y
 out:∀y∈capN,X.env.kindOf y=some .cell\/X.env.kindOf y=some .free
 u9:∀y∈capN,scope.names.lookup y=some .free
 len:caps.length=capN.length
noncomputable def nK(σ:St)(caps:List Nat):St:=caps.map λj=>(σ[j]?).join
def Dp(I:L2.Inv X aa σ H s)(hkind:scope.kind=.function)(hcell:∀y∈scope.names,y.2≠.cell)(hcl:∀y c,cl.lookup y=some c->X.env.cells.lookup y=some c)(hhas:∀x∈scope.names,x.2=.free->∃c,cl.lookup x.1=some c)
 (hC:s.heap.objs.size<=C) (hex:∀b∈ex,li X aa H b/\b<s.heap.objs.size) (hc:QC X scope capN caps) (kp:∀b o,s.heap.get? b=some o->h4.get? b=some o) (ns:h4.Ns C m4) :
 L2.Inv (cB X scope (tN++capN) cl C s H ex) [] (List.replicate tN.length none++nK σ caps) H {s with heap:=h4,toks:=tk} where
 ok:=Gw I hkind hcell hcl hhas hC hex
 os:=rfl
 bare:=I.bare
 base:=Un.kept kp
 loc:=by
  refine⟨m4,ns,λi y v e1 e2 e3=>?_⟩;by_cases hlt:i<tN.length
  .rw[Vi (by simpa using hlt),Ww]at e2;rw[Tv hlt]at e2;cases e2
  .obtain⟨k,rfl⟩ : ∃k,i=tN.length+k:=⟨i-tN.length,by lia⟩;have e1:capN[k]?=some y:=by
    have e1:(tN++capN)[tN.length+k]?=some y:=e1
    rwa [US (by lia),Vx]at e1
   have e2:(nK σ caps)[k]?=some (some v):=by
    rwa [US (by simp),WJ,Vx]at e2
   obtain⟨j,ej,eN⟩:=hc.at' k y e1;have e4:σ[j]?=some (some v):=by
    unfold nK at e2;rw[T3,ej]at e2;have e2:(σ[j]?).join=some v:=by simpa using e2
    cases q:σ[j]? with
    |none=>rw[q]at e2;cases e2
    |some o=>rw[q]at e2;cases o with
     |none=>cases e2
     |some w=>cases e2;rfl
   have hm:=UH e1;obtain⟨m,hn,hl⟩:=I.loc;have hout:=hc.out y hm;obtain⟨u,r,l⟩:=hl j y v eN e4 (.inr hout);refine⟨u,r,.inr ⟨uu (hc.u9 y hm),?_⟩⟩;obtain⟨c,hcl2⟩:=hhas (y,.free) (Vc (hc.u9 y hm)) rfl;refine⟨c,hcl2,?_⟩;rcases l with⟨l,_⟩|⟨_,c',e5,z⟩
   .rcases hout with h|h<;>(rw[h]at l;cases l)
   .have:=hcl y c hcl2;rw[e5]at this;cases this;obtain⟨o,ho,hd⟩:=z;exact⟨o,kp _ o ho,hd⟩
 cell:=λy c e=>by obtain⟨v,o,ho,hd⟩:=I.cell y c (hcl y c e);exact⟨v,o,kp _ o ho,hd⟩
 free:=I.aS.fresh hC
 i_:=λy c e=>I.i_ y c (hcl y c e)
 pin:=λp hp=>absurd (show p∈([]:List (Addr×Obj))from hp) (by simp)
 aS:=I.aS.kept kp
 len:=by simp[cB,nK,hc.len]
def A7(I:L2.Inv X aa σ H s)(c:X'=cB X scope N cl C s H ex)(d:s.heap.objs.size<=C)(hex:∀b∈ex,li X aa H b/\b<s.heap.objs.size)
 (a:L2.Inv X' pl σ' H' s'):L2.Inv X aa σ H' s'/\li X aa H' C:=by
 subst c;refine⟨I.Qz (ch:=ex) a.os a.base a.aS a.bare λb e=>?_,I.rB d a.free⟩;obtain⟨_,f,j,g,h,i⟩:=(hex b e).1;exact⟨g,f,h,i⟩
def zy(I:L2.Inv X aa σ H s)(a:li X aa H C)(c:Heap.SameBut C s.heap h'):L2.Inv X aa σ H {s with heap:=h'}:=I.turned (t':=s.toks) (it:=C) (λb o d e=>(c.2 b d).trans e) a.1 a.2.1 a.2.2.2.1 a.2.2.2.2.1 a.2.2.2.2.2
end
section
variable{X:Cx}{aa:List (Addr×Obj)}{σ:St}{H3:Hp}{s3:Xt}{scope:Scope}{tg:Expr}{tN:List Str}{capN:List Str}{cl:List (Str×Addr)}{C:Addr}{fp:List Addr}{elt iter:Expr}{pos:Pos}{ifs:List Expr}
def Oa(X:Cx)(ifs:List Expr)(a:TT):Prop:=∀(aa:List (Addr×Obj))(s:Xt)(σ:St)(H:Hp)(Q:Bool->Hp->Prop),L2.Inv X aa σ H s->a σ H Q->
 wpAny (model X.prog X.w) X.A (forIn ifs true λc r=>if r=true then do let ok <- isTrue c X.env (eval c X.env);pure (ForInStep.yield ok)else pure (ForInStep.yield r)) (TP X aa σ Q) X.xe s
def zA:Oa X [] (λ_ H Q=>Q true H):=λ_ _ σ H Q I q=>wpAny_tests_nil ⟨H,I,q⟩
def Gx(h:PT X c tt):Oa X [c] tt:=λaa s σ H Q I q=>wpAny_tests_one (h aa s σ H Q I q)
def A8(p:X'=cB X scope (tN++capN) cl C s3 H3 fp)(T:Turn X.prog X.w X.K tg J fp it tn)(q:X.calm=true)
 (I4:L2.Inv X' [] (List.replicate tN.length none++c) H3 s4) (bh:X'.N.length=tN.length+c.length) (st4:tn 0 s4.heap) (hf:∀b∈fp,li X' [] H3 b)
 (hg:PG X' tg gt) (ht:Oa X' ifs tt) (he:PE X' elt te)
   (W:Nat->Nat->List V->Hp->Prop) (Fin:List V->Hp->Prop) (w0:∃m,W 0 m [] H3)
   (turn:∀i m a H,W i m a H->H Dl=some (.lst a)/\((J.stop i H/\Fin a H)\/(J.go i H/\∀G H' o,J.Ji i H G H'->o.length=tN.length->gt G (o++c) H' λt H1=>(∀j:Nat,tN.length<=j->t[j]?=(o++c)[j]?)/\tt t H1 λb H2=>if b=true then
     te t H2 λy g=>g Dl=some (.lst a)/\a.length<sizeLine/\∃m',m'<m/\W (i+1) m' (a++[y]) (aP g Dl (.lst (a++[y])))else ∃m',m'<m/\W (i+1) m' a H2)))
   (R:Result->Xt->Prop) (hR:∀σ' H' a B,L2.Inv X' [] σ' H' B->H' Dl=some (.lst a)->Fin a H'->R (.ok .next) B) :
   codeAny (model X.prog X.w) X.A (.compLoop (.ListComp elt [⟨tg,iter,ifs,0⟩] scope pos) 0 (.ref it) (.ref Dl) (compEnvC scope cl C X.env)) R s4:=by
  obtain⟨m0,w0⟩:=w0;have eA:X'.A=X.A:=by rw[p];rfl
  have E:X'.prog=X.prog:=by rw[p];rfl
  have F:X'.w=X.w:=by rw[p];rfl
  have eK:X'.K=X.K:=by rw[p];rfl
  have eE:X'.env=compEnvC scope cl C X.env:=by rw[p];rfl
  have U:X'.xe=λ_ _=>False:=by rw[p];rfl
  have eC:X'.calm=true:=by rw[p];exact q
  have f:∀{H':Hp},(∀b∈fp,H' b=none)->∀b∈fp,li X' [] H' b:=λhn b h=>⟨hn b h,(hf b h).2⟩;refine codeAny_loop rfl (λn s=>∃i o a H,L2.Inv X' [] (o++c) H s/\o.length=tN.length/\tn i s.heap/\(∀b∈fp,H b=none)/\W i n a H) ?_ m0 ⟨0,List.replicate tN.length none,[],H3,I4,by simp,st4,λb h=>(hf b h).1,w0⟩;rintro n s5 ⟨i,o,a,g,I5,lo,I,L,w5⟩;show wpAny _ X.A ((compTurn (.ListComp elt [⟨tg,iter,ifs,0⟩] scope pos) 0 (.ref it) (.ref Dl) (compEnvC scope cl C X.env)).onRaise (λx=>do noteFrame x (compEnvC scope cl C X.env);theTreesLotGoes x)) _ _ s5;refine wpAny_noted ?_;rw[compTurn_list];obtain⟨hD,alt⟩:=turn i n a g w5;rcases alt with⟨stop,fin⟩|⟨go,step⟩
  .refine KE (wpAny_standAt (KE (U9 (eA▸T.done X' E F eK eC i [] s5 _ g _ I5 (f L) I stop) (λr s6 ⟨hr,I6⟩=>?_) λ_ _ z=>z)));subst hr;exact Tu (hR _ g a s6 I6 hD fin)
  .refine KE (wpAny_standAt (KE (U9 (eA▸T.item X' E F eK eC i [] s5 _ g _ I5 (f L) I go) (λr s6 ⟨u,hr,h6⟩=>?_) λ_ _ z=>z)));subst hr;refine KE (U9 h6 (λ_ s7 ⟨G,H7,I7,r7,y7,D,fr7⟩=>?_) λ_ _ z=>z);have I7':=I7.pinned (f fr7) (T.obj _ _ D);have M:=hg _ s7 _ H7 G u _ I7' r7 (step G H7 o y7 lo);rw[E,F,eA,eE,U]at M;refine KE (U9 M (λ_ s8 ⟨k,H8,I8,shp,q8⟩=>?_) λ_ _ z=>z.elim);obtain⟨l,lo2,eσ⟩ : ∃l:St,l.length=tN.length/\k=l++c:=by
    have l8:k.length=tN.length+c.length:=I8.len.trans bh;refine⟨k.take tN.length,by rw[Vp];lia,?_⟩;have ed:k.drop tN.length=c:=by
     apply WD
     intro j;rw[List.getElem?_drop,shp (tN.length+j) (by lia),US (by lia),lo,Vx]
    rw[<- ed,VG]
   subst eσ;have O:=ht _ s8 _ H8 _ I8 q8;rw[E,F,eA,eE,U]at O;refine KE (U9 O (λok s9 ⟨Y,I9,Z⟩=>?_) λ_ _ z=>z.elim);have again:∀{B:Xt}{H':Hp},L2.Inv X' ([]++pD fp s7.heap) (l++c) H' B->L2.Inv X' [] (l++c) H' B/\tn (i+1) B.heap/\∀b∈fp,H' b=none:=λ{B H'} J'=>by refine⟨J'.mY,T.keep _ _ _ D λb h ob e=>(J'.pin (b,ob) (Uh _ (Uh _ (jb h e)))).1,λb h=>?_⟩;obtain⟨ob,e,d⟩:=T.obj _ _ D b h;exact(J'.pin (b,ob) (Uh _ (Uh _ (jb h e)))).2.1
   cases ok with
   |false=>obtain⟨m',hm,w9⟩:=(show ∃m',m'<n/\W (i+1) m' a Y from by simpa using Z);obtain⟨a1,a2,a3⟩:=again I9;exact Tu ⟨rfl,m',hm,i+1,l,a,Y,a1,lo2,a2,a3,w9⟩
   |true=>
    have Z:te (l++c) Y λy g=>g Dl=some (.lst a)/\a.length<sizeLine/\∃m',m'<n/\W (i+1) m' (a++[y]) (aP g Dl (.lst (a++[y]))):=by simpa using Z
    have P:=he _ s9 _ Y _ I9 Z;rw[E,F,eA,eE,U]at P;refine KE (KE (U9 P (λv s10 ⟨y,Q,I10,ry,eD,hl,m',hm,w10⟩=>?_) λ_ _ z=>z.elim));have S:=du (X:=X') _ s10 _ Q (.ref Dl) [y] (.ref Dl) [v] (λw H'=>w=.bn/\H'=aP Q Dl (.lst (a++[y]))) I10 rfl (.cons ry .nil) ⟨Dl,a,y,rfl,rfl,eD,hl,rfl,rfl⟩;rw[E,F,eA,U]at S;refine KE (U9 S (λ_ s11 ⟨w,H11,I11,_,_,eH⟩=>?_) λ_ _ z=>z.elim);subst eH;obtain⟨a1,a2,a3⟩:=again I11;exact Tu (Tu ⟨rfl,m',hm,i+1,l,a++[y],_,a1,lo2,a2,a3,w10⟩)
end
structure cz(X:Cx) (scope:Scope) (tN:List Str) (capN:List Str) (caps:List Nat):Prop where
 kind:scope.kind=.function
 Jo:∀y∈scope.names,y.2≠.cell
 names:∀y∈scope.names,y.2=.local->scope.names.lookup y.1=some .local
 own:∀x∈tN,scope.names.lookup x=some .local
 free:∀y∈scope.names,y.2=.free->X.env.kindOf y.1=some .cell\/X.env.kindOf y.1=some .free
 cap:QC X scope capN caps
 nd:(tN++capN).Nodup
section
variable{X:Cx}{aa:List (Addr×Obj)}{σ:St}{H:Hp}{s:Xt}{scope:Scope}{tg:Expr}{tN:List Str}{capN:List Str}{caps:List Nat}{elt iter:Expr}{pos:Pos}{ifs:List Expr}{wi:TI}
def j9(X:Cx)(scope:Scope)(tg:Expr)(tN:List Str)(capN:List Str)(caps:List Nat)(elt:Expr)(ifs:List Expr)(σ:St)(Fin:Addr->List V->Hp->Prop)(J:It)(d:Hp):Prop:=
 ∀(c:Addr),d c=none->∀(cl:List (Str×Addr))(C:Addr)(f:Xt)(fp:List Addr),∃(gt:TG)(g:TT)(h:TE)(W:Nat->Nat->List V->Hp->Prop),
  PG (cB X scope (tN++capN) cl C f (aP d c (.lst [])) fp) tg gt/\Oa (cB X scope (tN++capN) cl C f (aP d c (.lst [])) fp) ifs g/\PE (cB X scope (tN++capN) cl C f (aP d c (.lst [])) fp) elt h/\(∃m,W 0 m [] (aP d c (.lst [])))/\
  ∀i m a H,W i m a H->H c=some (.lst a)/\((J.stop i H/\Fin c a H)\/(J.go i H/\∀k H' (o:St),J.Ji i H k H'->o.length=tN.length->gt k (o++nK σ caps) H' λe n=>(∀j:Nat,tN.length<=j->e[j]?=(o++nK σ caps)[j]?)/\g e n λb d=>if b=true then
   h e d λy l=>l c=some (.lst a)/\a.length<sizeLine/\∃m',m'<m/\W (i+1) m' (a++[y]) (aP l c (.lst (a++[y])))else ∃m',m'<m/\W (i+1) m' a d))
def sY{use:Option (Xw->Sem Unit)}{Qv:Xw->Xt->Prop}{Fin:Addr->List V->Hp->Prop}(hc:X.calm=true)(S:cz X scope tN capN caps)(I:L2.Inv X aa σ H s)(hi:PI X tg iter wi)
 (h:wi σ H (j9 X scope tg tN capN caps elt ifs σ Fin))
 (hu:∀(L C:Addr)(j:List V)(H':Hp)(q:Xt),L2.Inv X aa σ H' q->li X aa H' C->H' L=some (.lst j)->Fin L j H'->(∃m,q.heap.Ns C m)->compPost (model X.prog X.w) X.A X.xe use Qv (.ref L) C (.ok .next) q)
 (hs:autoParam (∀x,foldedSetIterable iter X.env x=pure x) ab) :
 wpAny (model X.prog X.w) X.A (comprehension (.ListComp elt [⟨tg,iter,ifs,0⟩] scope pos) scope X.env (firstIterPos [⟨tg,iter,ifs,0⟩] pos) (newList []) false (eval iter X.env) use) Qv X.xe s:=by
 obtain⟨cl,M,r,t⟩:=rR (scope:=scope) (env:=X.env) λy N hf=>I.ok.has y.1 (S.free y N hf);refine wpAny_comprehension_free rfl hs M S.kind S.names (bR (hi aa s σ H _ I h) λv s1 h1=>bR h1 λitv s2 h2=>?_);obtain⟨it,fp,tn,J,k,rfl,U,T,B,Y,D⟩:=h2;refine Ux (wpAny_newFunctionEnv S.Jo (by intro y N;simp at N) (λa d g=>?_) S.kind);dsimp only at d g ⊢;have hD:k s2.heap.objs.size=none:=U.aS.fresh (Tt _);have K:L2.Inv X aa σ (aP k s2.heap.objs.size (.lst [])) { s2 with heap:=s2.heap.push { cls:=.type "list",dict:=none,data:=.seq ([]:List Xw).toArray } }:=U.laid (t':=s2.toks) (λb u e=>RW _ e) (Tt _) ⟨Ul _,[],0,.nil,Tz _ rfl⟩;generalize E:({ s2 with heap:=s2.heap.push { cls:=.type "list",dict:=none,data:=.seq ([]:List Xw).toArray } }:Xt)=i at K;have e3:s2.heap.push { cls:=.type "list",dict:=none,data:=.seq ([]:List Xw).toArray }=i.heap:=by rw[<- E]
 rw[e3]at d g ⊢;have kp:∀b o,i.heap.get? b=some o->a.get? b=some o:=λb o e=>g.extBut b o (T5 (TC e)) (RW _ e);have F:∀b o,s2.heap.get? b=some o->i.heap.get? b=some o:=λb o e=>by rw[<- e3];exact RW _ e
 have hex:∀b∈fp,li X aa (aP k s2.heap.objs.size (.lst [])) b/\b<i.heap.objs.size:=λb l=>by obtain⟨o,Z,_⟩:=T.obj 0 _ B b l;have n:b<s2.heap.objs.size:=TC Z;refine⟨⟨?_,(Y b l).2⟩,TC (F b o Z)⟩;rw[af (T5 n)];exact(Y b l).1
 have es:({s2 with heap:=a,toks:=s2.toks+([]:List (Str×Xw)).length}:Xt)={i with heap:=a,toks:=s2.toks+([]:List (Str×Xw)).length}:=by rw[<- E]
 have I4:L2.Inv (cB X scope (tN++capN) cl i.heap.objs.size i (aP k s2.heap.objs.size (.lst [])) fp) [] (List.replicate tN.length none++nK σ caps) (aP k s2.heap.objs.size (.lst [])) {i with heap:=a,toks:=s2.toks+([]:List (Str×Xw)).length}:=Dp K S.kind S.Jo r t (Tt _) hex S.cap kp d;obtain⟨gt,tt,te,W,hg,ht,he,w0,turn⟩:=D s2.heap.objs.size hD cl i.heap.objs.size i fp;have G:tn 0 a:=T.keep 0 _ _ B λb l o e=>kp b o (F b o e);have f4:∀b∈fp,li (cB X scope (tN++capN) cl i.heap.objs.size i (aP k s2.heap.objs.size (.lst [])) fp) [] (aP k s2.heap.objs.size (.lst [])) b:=λb l=>by
  obtain⟨f,n⟩:=hex b l;refine⟨f.1,T5 n,λO=>?_,.inl l,λy c e=>f.2.2.2.2.1 y c (r y c e),λp hp=>absurd (show p∈([]:List (Addr×Obj))from hp) (by simp)⟩;rcases TH.mp (K.vg b O)with z|z
  .exact f.2.1 z
  .exact f.2.2.1 z
 have loop:codeAny (model X.prog X.w) X.A (.compLoop (.ListComp elt [⟨tg,iter,ifs,0⟩] scope pos) 0 (.ref it) (.ref s2.heap.objs.size) (compEnvC scope cl i.heap.objs.size X.env)) (compPost (model X.prog X.w) X.A X.xe use Qv (.ref s2.heap.objs.size) i.heap.objs.size)
  {i with heap:=a,toks:=s2.toks+([]:List (Str×Xw)).length}:=by
  refine A8 rfl T hc I4 (by show(tN++capN).length=_;simp[nK,S.cap.len]) G f4 hg ht he W (Fin s2.heap.objs.size) w0 turn _ λσ' H' j q I' P Q=>?_;obtain⟨Io,fo⟩:=A7 K rfl (Tt _) hex I';obtain⟨m',R,_⟩:=I'.loc;exact hu _ _ j H' q Io fo P Q ⟨m',R⟩
 rw[es];exact codeAny_compStart_list loop (T.self _ 0 _ _ _ G loop)
def wd(d:X.calm=true)(S:cz X scope tN capN caps)(I:L2.Inv X aa σ H s)(e:PI X tg iter wi)(h:wi σ H (j9 X scope tg tN capN caps elt ifs σ λa _ H'=>Q (.ref a) H'))
 (hs:autoParam (∀x,foldedSetIterable iter X.env x=pure x) ab):wpAny (model X.prog X.w) X.A (eval (.ListComp elt [⟨tg,iter,ifs,0⟩] scope pos) X.env) (EP X aa σ Q) X.xe s:=by
 rw[eval_ListComp];refine sY (use:=none) d S I e h (λa C f H' k g i l b c=>?_) hs;obtain⟨m,c⟩:=c;exact⟨m,c,λh' j=>⟨.ref a,H',zy g i j,rfl,b⟩⟩
def Dq{D:Ends}{i:Nat}(q:X.calm=true)(S:cz X scope tN capN caps)(r:X.N.Nodup)(c:X.N[i]?=some y)(p:X.env.scope.names.lookup y=some .local)
 (d:swapsWith (.ListComp elt [⟨tg,iter,ifs,0⟩] scope pos) (some (.Name y py)) spos.line X.env=pure true) (I:L2.Inv X aa σ H s) (t:PI X tg iter wi)
 (h:wi σ H (j9 X scope tg tN capN caps elt ifs σ λb _ H'=>D.nx (σ.set i (some (.ref b))) H')) (hs:autoParam (∀x,foldedSetIterable iter X.env x=pure x) ab) :
 wpAny (model X.prog X.w) X.A (exec (.Assign [.Name y py] (.ListComp elt [⟨tg,iter,ifs,0⟩] scope pos) spos) X.env) (SP X aa D) X.xe s:=by
 rw[exec_Assign_Name_used _ _ _ _ d];refine KE (wpAny_standAt (KE ?_));show wpAny _ X.A (do let _ <- comprehension (.ListComp elt [⟨tg,iter,ifs,0⟩] scope pos) scope X.env _ (newList []) false (eval iter X.env) (some (assign (.Name y py) X.env))) _ _ s;refine KE (U9 (sY (use:=some (assign (.Name y py) X.env)) (Qv:=λ_ f=>SP X aa D .next f) q S I t h (λb C u H' f B g J j k=>?_) hs) (λ_ f E=>Tu (Tu E)) λ_ _ e=>e);obtain⟨m,k⟩:=k;show wpAny _ X.A (assign (.Name y py) X.env (.ref b)) _ _ _;refine wpAny_assign_Name (sv (v:=.ref b) B r c (.inl p) rfl (λF l ⟨a,G,ha⟩=>?_) (.inr p));have n:C≠a:=by
  rcases ha with z|z
  .rw[z];exact g.2.1
  .exact UM (g.2.2.2.2.1 y a z)
 refine⟨m,k.sameBut G n,λh' o=>?_⟩;exact⟨_,H',zy l g o,j⟩
end
noncomputable def Res.SO{α:Type}:Res α->Res α
 |.exc _=>.stuck
 |r=>r
def Gy(env:En)(j:Nat):Option Sl:=match env[j]? with
 |some (some (.val d fr))=>some (.val d fr)
 |some (some (.own ds fr))=>some (.val (.lst ds) fr)
 |some (some (.g9 d))=>some (.val d true)
 |_=>none
def gY(env:En)(n:Nat)(caps:List Nat):En:=List.replicate n none++caps.map (Gy env)
def gH(mk:D->Option En)(test:En->Res Bool)(elt:En->Res R):List D->Res (List R)
 |[]=>.ok []
 |x::xs=>match mk x with
  |none=>.stuck
  |some e=>(test e).bind λb=>if b then(elt e).bind λr=>(gH mk test elt xs).bind λrs=>.ok (r::rs)else gH mk test elt xs
def dv(n:Nat)(caps:List Nat)(a:En->Res Src)(asg:D->Bool->En->Option En)(test:En->Res Bool)(elt:En->Res R):En->Res R:=λenv=>(a env).bind λs=>if s.xs.length<=lim then
 (gH (λd=>asg d s.fr (gY env n caps)) test elt s.xs).SO.bind λrs=>.ok (oE (rs.map R.d) (bM rs) (s.al++caps.filter (hJ env)))else .stuck
def A9(X:Cx)(E:XK)(a:List Expr)(f:En->Res Bool):Prop:=∃t,Oa X a t/\SndT X.mg E t f
section
variable{X:Cx}{E:XK}
def mB:A9 X E [] (λ_=>.ok true):=⟨_,zA,λg M b env σ H Q a p=>p M H (Ext.refl _ _) a⟩
def j_(h:zr X E c f):A9 X E [c] f:=let ⟨t,a,b⟩:=h;⟨t,Gx a,b⟩
end
section
variable{g:Gd}{M1:Addr->Prop}{ρ:Pr}{env:En}{σ:St}{H H1:Hp}
def Ob(rep:Rep g M1 ρ env σ H1)(s:Same H1 H)(ho:o.length=n)(hM:∀a,(M1 a\/∃i,i∈caps/\ρ i a)->M' a)(hf:∀a,M' a->H a≠none)(hi:∀a,M' a->g.H₀ a=none\/g.Ma a)(hfl:∀a,M' a->g.H₀ a=none->MuZ g H a) :
 Rep g M' (λ_ _=>False) (gY env n caps) (o++nK σ caps) H where
 same:=rep.same.trans s
 jG:=hf
 u9:=hi
 fl:=hfl
 slot:=λi sl e=>by
  by_cases hlt:i<n
  .unfold gY at e;rw[Vi (by simpa using hlt),Ww,Tv hlt]at e;cases e
  .obtain⟨k,rfl⟩ : ∃k,i=n+k:=⟨i-n,by lia⟩;have e:(caps.map (Gy env))[k]?=some (some sl):=by
    unfold gY at e
    rwa [US (by simp),WJ,Vx]at e
   rw[T3]at e;cases q:caps[k]? with
   |none=>rw[q]at e;cases e
   |some j=>
    rw[q]at e;have e:Gy env j=some sl:=by simpa using e
    have hj:j∈caps:=UH q;unfold Gy at e;cases q2:env[j]? with
    |none=>rw[q2]at e;cases e
    |some o=>
     cases o with
     |none=>rw[q2]at e;cases e
     |some sl0=>
      obtain⟨v,ev,k2⟩:=rep.slot j sl0 q2;have el:(o++nK σ caps)[n+k]?=some (some v):=by rw[US (by lia),ho,Vx];unfold nK;rw[T3,q];simp[ev]
      rw[q2]at e;cases sl0 with
      |val d' fr'=>cases e;exact⟨v,el,Is.mono (λa o q _=>s a o q) (λa _ _ z=>⟨hM a (.inl z.1),z.2⟩) k2⟩
      |own ds' fr'=>cases e;obtain⟨a,vs,rfl,h1,h2,h4⟩:=k2;have ha:=(h2 a).mpr rfl;exact⟨_,el,a,vs,rfl,.inl ⟨s _ _ h1,hM a (.inr ⟨j,hj,ha⟩),λ_=>(rep.b8 j a ha).2.1⟩,IsAll.mono (λa o q _=>s a o q) (λa _ _ z=>⟨hM a (.inl z.1),z.2⟩) h4⟩
      |g9 d'=>cases e;exact⟨v,el,Is.mono (λa o q _=>s a o q) (λa _ _ z=>⟨hM a (.inr ⟨j,hj,z⟩),λ_=>(rep.b8 j a z).2.1⟩) k2⟩
      |B4 d'=>cases e
 b8:=λ_ _ z=>z.elim
 apart:=λ_ _ _ z=>z.elim
 ow:=λ_ _ z=>z.elim
 len:=by simp[gY,nK,ho]
 zz:=λa z e=>rep.zz a z (s.free e)
end
noncomputable def we(X:Cx)(scope:Scope)(tg:Expr)(tN:List Str)(capN:List Str)(caps:List Nat)(elt:Expr)(a:List Expr)(b:TI):TE:=λσ H Q=>b σ H (j9 X scope tg tN capN caps elt a σ λc _ H'=>Q (.ref c) H')
section
variable{X:Cx}{E:XK}{scope:Scope}{tg:Expr}{tN:List Str}{capN:List Str}{caps:List Nat}{ix:List Nat}{asg:D->Bool->En->Option En}{elt iter:Expr}{pos:Pos}{ifs:List Expr}{wi:TI}{src:En->Res Src}{ft:En->Res Bool}{fe:En->Res R}
def A_{M1:Addr->Prop}{F:Hp}{Q:VK}{J:It}{s:Src}{x:List R}(hix:∀j∈ix,j<tN.length)(hg:∀cl C S K fp,Fp (cB X scope (tN++capN) cl C S K fp) ix tg asg)(ht:∀cl C S K fp,A9 (cB X scope (tN++capN) cl C S K fp) E0 ifs ft)(he:∀cl C S K fp,PD (cB X scope (tN++capN) cl C S K fp) E0 elt fe)(f:Rep g M1 ρ env σ F)(wk:Walk J (vmsk g M1 s.fr ρ s.al) F s.xs)(hlim:s.xs.length<=lim)(qc:gH (λd=>asg d s.fr (gY env tN.length caps)) ft fe s.xs=.ok x)
 (p:PostE X.mg E g M1 ρ env σ F Q (.ok (oE (x.map R.d) (bM x) (s.al++caps.filter (hJ env))))):j9 X scope tg tN capN caps elt ifs σ (λl _ H'=>Q (.ref l) H') J F:=by
 intro l v cl C S fp;obtain⟨gt,pg,sg⟩:=hg cl C S (aP F l (.lst [])) fp;obtain⟨tt,pt,st⟩:=ht cl C S (aP F l (.lst [])) fp;obtain⟨te,pe,se⟩:=he cl C S (aP F l (.lst [])) fp;obtain⟨d0,dm,T⟩:=f.free v;refine⟨gt,tt,te,λi m t H=>m=s.xs.length-i/\i<=s.xs.length/\∃(A:Addr->Prop)(rs rest:List R),Same F H/\H l=some (.lst t)/\(∀a,(M1 a\/∃j,j∈s.al++caps/\ρ j a)->A a)/\
  (∀a,A a->(M1 a\/∃j,j∈s.al++caps/\ρ j a)\/F a=none)/\¬A l/\(∀a,A a->H a≠none)/\(∀a,A a->g.H₀ a=none->MuZ g H a)/\rs.length<=i/\IsAll H (fQ g A (bM rs)) (rs.map R.d) t/\gH (λd=>asg d s.fr (gY env tN.length caps)) ft fe (s.xs.drop i)=.ok rest/\x=rs++rest,
  pg,pt,pe,⟨_,rfl,Ul _,(λa=>M1 a\/∃j,j∈s.al++caps/\ρ j a),[],x,aK v,ag,λ_ z=>z,λ_ z=>.inl z,?_,?_,?_,Tt _,rfl,qc,rfl⟩,?_⟩
 .rintro(z|⟨j,_,z⟩)
  .exact dm z
  .exact T j z
 .rintro a (z|⟨j,_,z⟩) hn
  .exact f.jG a z ((aK v).free hn)
  .obtain⟨_,_,uo,hz,_⟩:=f.b8 j a z;rw[(aK v) a _ hz]at hn;cases hn
 .rintro a (z|⟨j,_,z⟩) h0
  .exact(f.fl a z h0).same λo e=>aK v _ _ e
  .exact .inl ((f.b8 j a z).2.2.same λo e=>aK v _ _ e)
 .rintro i m t L ⟨rfl,hle,A,rs,rest,U,G,M,N,nD,Z,W,hrs,I,k,B⟩;refine⟨G,?_⟩;have kp:∀a o,F a=some o->(vmsk g M1 s.fr ρ s.al a\/iA o)->L a=some o:=λa o e _=>U a o e;have inn2:∀{M'':Addr->Prop}{a:Addr},(M1 a\/∃j,j∈s.al++caps/\ρ j a)\/F a=none->g.H₀ a=none\/g.Ma a:=λ{M'' a} z=>by
   rcases z with(z|⟨j,_,z⟩)|z
   .exact f.u9 a z
   .exact .inl (f.b8 j _ z).2.1
   .exact .inl (f.same.free z)
  by_cases Y:i<s.xs.length
  .have ed:s.xs[i]?=some s.xs[i]:=by simp[Y]
   obtain⟨go,yl⟩:=wk.go L i _ kp ed;refine .inr ⟨go,λxv K o y lo=>?_⟩;obtain⟨u,isx⟩:=yl xv K y;have edrop:s.xs.drop i=s.xs[i]::s.xs.drop (i+1):=List.drop_eq_getElem_cons Y;rw[edrop]at k;unfold gH at k;have isx':Is K (fQ g A s.fr) s.xs[i] xv:=isx.weak λa z=>by
    rcases z with z|⟨j,hj,z⟩
    .exact⟨M a (.inl z.1),z.2⟩
    .exact⟨M a (.inr ⟨j,by simp[hj],z⟩),λ_=>(f.b8 j _ z).2.1⟩
   have repI:Rep g A (λ_ _=>False) (gY env tN.length caps) (o++nK σ caps) K:=Ob f (U.trans u) lo (λa z=>M a (z.imp id λ⟨j,hj,w⟩=>⟨j,by simp[hj],w⟩)) (λa z hn=>Z a z (u.free hn)) (λa z=>inn2 (M'':=A) (N a z)) (λa z h0=>(W a z h0).same λo e=>u _ _ e);cases qa:asg s.xs[i] s.fr (gY env tN.length caps)with
   |none=>simp only[qa]at k;cases k
   |some O=>
   simp only[qa]at k;refine sg g A _ _ O _ K _ s.fr xv _ repI isx' qa λσ2 ρ2 repT shp nρ=>⟨λj hj=>shp j λz=>absurd (hix j z) (by lia),?_⟩;refine st g A ρ2 _ _ K _ repT ?_;cases qt:ft O with
   |stuck=>rw[qt]at k;cases k
   |exc c=>rw[qt]at k;cases k
   |ok b=>
    rw[qt]at k;intro M4 H4 e4 rep4;cases b with
    |false=>refine xU ⟨s.xs.length-(i+1),by lia,rfl,Y,A,rs,rest,(U.trans u).trans e4.h,e4.h _ _ (u _ _ G),M,N,nD,λa z hn=>Z a z (u.free (e4.h.free hn)),λa z h0=>(W a z h0).same λo e=>e4.h _ _ (u _ _ e),by lia,?_,by simpa using k,B⟩;exact IsAll.same e4.h (IsAll.same u I)
    |true=>
     refine vM ?_;simp only[Res.ii,Vd]at k;refine se g M4 ρ2 _ _ H4 _ rep4 ?_;cases qe:fe O with
     |stuck=>rw[qe]at k;cases k
     |exc c=>rw[qe]at k;cases k
     |ok r=>
      rw[qe]at k;simp only[Res.ii]at k;cases qd:gH (λd=>asg d s.fr (gY env tN.length caps)) ft fe (s.xs.drop (i+1))with
      |stuck=>rw[qd]at k;cases k
      |exc c=>rw[qd]at k;cases k
      |ok P=>
       rw[qd]at k;have k:r::P=rest:=by simpa using k
       intro yv M5 H5 e5 rep5 ro;obtain⟨M6,e6,m56,rep6,is6⟩:=ro.is rep5 e5 rep4.same;have D3:K l=some (.lst t):=u _ _ G;have D4:H4 l=some (.lst t):=e4.h _ _ D3;have D5:H5 l=some (.lst t):=e5.h _ _ D4;have nD4:¬M4 l:=λz=>(e4.n l z).elim nD λw=>by rw[D3]at w;cases w
       have nD6:¬M6 l:=λz=>(e6.n l z).elim nD4 λw=>by rw[D4]at w;cases w
       have M46:∀a,M4 a->M6 a:=e6.m;have up:∀a o,H5 a=some o->a≠l->aP H5 l (.lst (t++[yv])) a=some o:=λa o e n=>by rw[af n];exact e
       have kp5:∀(fr:Bool) a o,H5 a=some o->(fQ g M6 fr a\/iA o)->aP H5 l (.lst (t++[yv])) a=some o:=λfr a o e z=>up a o e λw=>by
        subst w;rcases z with z|z
        .exact nD6 z.1
        .rw[D5]at e;cases e;exact z
       refine⟨D5,?_,s.xs.length-(i+1),by lia,rfl,Y,M6,rs++[r],P,?_,ag,λa z=>M46 a (e4.m a (M a z)),λa z=>?_,nD6,λa z=>?_,λa z h0=>?_,by simp;lia,?_,qd,by rw[B,<- k];simp⟩
       .have:t.length=rs.length:=by rw[I.length,TN]
        exact ui (by lia)
       .intro b o e;exact up b o (e5.h _ _ (e4.h _ _ (u _ _ (U _ _ e)))) (ai e v)
       .rcases e6.n a z with z|z
        .rcases e4.n a z with z|z
         .exact N a z
         .exact .inr (U.free (u.free z))
        .exact .inr (U.free (u.free (e4.h.free z)))
       .by_cases hw:a=l
        .rw[hw,ag];simp
        .rw[af hw];exact rep6.jG a z
       .have hw:a≠l:=λe=>nD6 (e▸z);exact(rep6.fl a z h0).same λo e=>by rw[af hw];exact e
       .rw[UB];refine IsAll.append ?_ ⟨yv,[],rfl,?_,rfl⟩
        .have i5:IsAll H5 (fQ g A (bM rs)) (rs.map R.d) t:=((I.same u).same e4.h).same e5.h;refine(i5.weak λa z=>(⟨M46 a (e4.m a z.1),λe=>z.2 (by simp[bM]at e ⊢;exact e.1)⟩ : fQ g M6 (bM (rs++[r])) a)).mono (kp5 _) λ_ _ _ z=>z
        .refine(is6.weak λa z=>?_:Is H5 (fQ g M6 (bM (rs++[r]))) r.d yv).mono (kp5 _) λ_ _ _ z=>z;rcases z with z|⟨j,_,z⟩
         .exact⟨z.1,λe=>z.2 (by simp[bM]at e;exact e.2)⟩
         .exact(nρ _ _ z).elim
  .have ei:i=s.xs.length:=by lia
   subst ei;refine .inl ⟨wk.stop L kp,?_⟩;rw[List.drop_length]at k;unfold gH at k;cases k;rw[V3]at B;subst B;have RM:Rep g (λa=>M1 a\/(nl F L a/\A a)) ρ env σ L:=f.came U A;have XM:Ext M1 F (λa=>M1 a\/(nl F L a/\A a)) L:=⟨λ_=>.inl,U,λ_ z=>z.imp id (·.1.1)⟩;have nDl:¬(M1 l\/(nl F L l/\A l)):=λz=>z.elim dm λz=>nD z.2;have nwD:∀b,V.ref l=.ref b->F b=none:=λb e=>by cases e;exact v
   unfold oE at p;by_cases hfl:D.bw (x.map R.d)=true
   .rw[Tv hfl]at p;exact p _ _ L XM RM ⟨l,t,rfl,G,nDl,v,T,IsAll.flat hfl I⟩
   .rw[TJ hfl]at p;by_cases hal:(s.al++caps.filter (hJ env)).isEmpty=true
    .rw[Tv hal]at p;refine p _ _ L XM RM ⟨l,t,rfl,G,nDl,v,T,I.weak λa z=>⟨?_,z.2⟩⟩;rcases N a z.1 with(w|⟨j,hj,w⟩)|w
     .exact .inl w
     .exfalso;have he:s.al++caps.filter (hJ env)=[]:=by simpa using hal
      rcases T1.mp hj with hj|hj
      .have:j∈s.al++caps.filter (hJ env):=Uv _ hj;rw[he]at this;simp at this
      .have:j∈s.al++caps.filter (hJ env):=Uh _ (Ug.mpr ⟨hj,f.ow j a w⟩);rw[he]at this;simp at this
     .exact .inr ⟨⟨w,(W a z.1 (f.same.free w)).elim id λq=>(f.zz a q.1 w).elim⟩,z.1⟩
    .rw[TJ hal]at p;refine p _ (λa=>(M1 a\/(nl F L a/\A a))\/a=l) L ⟨λ_ z=>.inl (.inl z),U,λa z=>z.elim (XM.n a) λe=>.inr (e▸v)⟩ (RM.more G d0 T) ⟨l,t,rfl,.inl ⟨G,.inl ⟨.inr rfl,λ_=>d0⟩⟩,I.weak λa z=>?_⟩;rcases N a z.1 with(w|⟨j,hj,w⟩)|w
     .exact .inl ⟨.inl (.inl w),z.2⟩
     .refine .inr ⟨j,?_,w⟩;rcases T1.mp hj with hj|hj
      .exact Uv _ hj
      .exact Uh _ (Ug.mpr ⟨hj,f.ow j a w⟩)
     .exact .inl ⟨.inl (.inr ⟨⟨w,(W a z.1 (f.same.free w)).elim id λq=>(f.zz a q.1 w).elim⟩,z.1⟩),z.2⟩
def wf(o:N7 X.mg E wi src)(k:∀j∈ix,j<tN.length)(r:∀cl C e f fp,Fp (cB X scope (tN++capN) cl C e f fp) ix tg asg)(t:∀cl C e f fp,A9 (cB X scope (tN++capN) cl C e f fp) E0 ifs ft)(u:∀cl C e f fp,PD (cB X scope (tN++capN) cl C e f fp) E0 elt fe) :
 Snd X.mg E (we X scope tg tN capN caps elt ifs wi) (dv tN.length caps src asg ft fe):=by
 intro g M n env σ H Q l p;refine o g M n env σ H _ l ?_;unfold dv at p;cases q:src env with
 |stuck=>rw[q]at p;exact p
 |exc c=>rw[q]at p;exact p
 |ok s=>
  rw[q]at p;simp only[Res.ii]at p;intro J M1 v e1 h w x m cl C e fp;by_cases a:s.xs.length<=lim
  .rw[Tv a]at p;cases i:gH (λd=>asg d s.fr (gY env tN.length caps)) ft fe s.xs with
   |stuck=>rw[i]at p;exact p.elim
   |exc c=>rw[i]at p;exact p.elim
   |ok b=>rw[i]at p;have p:PostE X.mg E g M1 n env σ v Q (.ok (oE (b.map R.d) (bM b) (s.al++caps.filter (hJ env)))):=PostE.ext e1 p;exact A_ k r t u h w a i p x m cl C e fp
  .rw[TJ a]at p;exact p.elim
def kY(d:X.calm=true)(S:cz X scope tN capN caps)(e:N8 X E tg iter src)(c:∀j∈ix,j<tN.length)(f:∀cl C a b fp,Fp (cB X scope (tN++capN) cl C a b fp) ix tg asg)(g:∀cl C a b fp,A9 (cB X scope (tN++capN) cl C a b fp) E0 ifs ft)(i:∀cl C a b fp,PD (cB X scope (tN++capN) cl C a b fp) E0 elt fe)
 (hs:autoParam (∀x,foldedSetIterable iter X.env x=pure x) ab):PD X E (.ListComp elt [⟨tg,iter,ifs,0⟩] scope pos) (dv tN.length caps src asg ft fe):=by
 obtain⟨wi,p1,s1⟩:=e;exact⟨we X scope tg tN capN caps elt ifs wi,λaa s σ H Q I h=>wd d S I p1 h hs,wf s1 c f g i⟩
def qz(f:X.calm=true)(S:cz X scope tN capN caps)(g:X.N.Nodup)(c:X.N[i]?=some y)(k:X.env.scope.names.lookup y=some .local)
 (l:N8 X E tg iter src) (d:∀j∈ix,j<tN.length) (m:∀cl C a b fp,Fp (cB X scope (tN++capN) cl C a b fp) ix tg asg) (n:∀cl C a b fp,A9 (cB X scope (tN++capN) cl C a b fp) E0 ifs ft) (o:∀cl C a b fp,PD (cB X scope (tN++capN) cl C a b fp) E0 elt fe)
 (e:autoParam (swapsWith (.ListComp elt [⟨tg,iter,ifs,0⟩] scope pos) (some (.Name y py)) spos.line X.env=pure true) ae) (hs:autoParam (∀x,foldedSetIterable iter X.env x=pure x) ab) :
 A3 X E (.Assign [.Name y py] (.ListComp elt [⟨tg,iter,ifs,0⟩] scope pos) spos) (cX i (dv tN.length caps src asg ft fe)):=by
 obtain⟨wi,p1,s1⟩:=l;exact⟨lK (we X scope tg tN capN caps elt ifs wi) (aT i),λaa s σ H D I h=>Dq f S g c k e I p1 h hs,zw (wf s1 d m n o)⟩
end
def lR(N:List Str)(ds:List D):En:=ds.map (λd=>some (.val d false))++List.replicate (N.length-ds.length) none
def Ds:Res Fl->Res R
 |.ok (.nx _)=>.ok (.val .bn true [])
 |.ok (.rt r)=>.ok r
 |.ok _=>.stuck
 |.exc c=>.exc c
 |.stuck=>.stuck
def iC(N:List Str)(a:En->Res Fl)(ds:List D):Res R:=Ds (a (lR N ds))
def cC:gy jd X E:=λ_ _ _ _ _ _ _ h=>h.elim
def Ba(is:IsAll H Ma ds vs):Rep (NY H Ma) (λa=>Ma a/\H a≠none) (λ_ _=>False) (lR N ds) (L2.cf N vs) H where
 same:=Same.refl H
 jG:=λa z=>z.2
 u9:=λa z=>.inr z.1
 fl:=λa z h=>absurd h z.2
 slot:=λi sl e=>by
  have hl:=is.length;unfold lR at e;by_cases hi:i<ds.length
  .rw[Vi (by simpa using hi),T3]at e;obtain⟨v,ev,iv⟩:=is.get (i:=i) (d:=ds[i]) (by simp[hi]);have e1:ds[i]?=some ds[i]:=by simp[hi]
   rw[e1]at e;cases e;refine⟨v,?_,Is.mono (λ_ _ q _=>q) (λa o q z=>⟨⟨z,by rw[q];simp⟩,λz=>by cases z⟩) iv⟩;unfold L2.cf;rw[Vi (by simp;lia),T3,ev];rfl
  .rw[US (by simpa using hi),Ww]at e;split at e<;>cases e
 b8:=λ_ _ z=>z.elim
 apart:=λ_ _ _ z=>z.elim
 ow:=λ_ _ z=>z.elim
 len:=by have hl:=is.length;unfold lR L2.cf;simp[hl]
 zz:=λ_ z=>z.elim
section
variable{P:Xv}{w:World}{K:Xu}{mg:Str->Option Xw}{base:Heap}
def eG{x qual:Str}{st:Stmt}{f:Addr}{b:En->Res Fl}(F:Ft K x qual st f fd)(S:aR N ps (ay st))
 (body:∀(cdv:Xw)(A:Xx)(outer:List Env)(s:Xt)(H:Hp)(E:XK),dt k (A.deeper (envOfC qual (ay st) s.heap.objs.size f cdv))->um (xO jd P w K mg base N qual (ay st) f cdv A outer s H E).QD E (cL st) b) :
 bG P w K mg base jd (k+1) f fd ps (mw mg ps.length (iC N b)):=by
 refine F.ok S (λvs H Q E h=>h.1) (λcdv A outer s H vs Q E e h=>?_);obtain⟨j,ds,Ma,is,a⟩:=h;obtain⟨t,p1,s1⟩:=body cdv A outer s H E e;refine⟨t,p1,s1 (NY H Ma) _ _ (lR N ds) (L2.cf N vs) H _ (Ba is) ?_⟩;unfold iC at a;cases q:b (lR N ds)with
 |stuck=>rw[q]at a;exact a
 |exc c=>rw[q]at a;exact a
 |ok r=>
  rw[q]at a;cases r with
  |nx env=>exact λσ g i H' _ d=>a .bn H' d.same rfl
  |rt r=>exact λv g H' _ s ro _=>a v H' s (ro λ_ z=>z)
  |rm r env=>exact a.elim
  |bk env=>exact a.elim
  |ct env=>exact a.elim
end
section
variable{X:Cx}
def Gz:SlR X (λx lo d H Q=>∃a xs,x=.ref a/\SqT X.K H a xs/\(HT.sIx xs.length 0 lo=0/\HT.sIx xs.length xs.length d=xs.length)/\Q x H):=by
 intro aa s σ H x v t u lo d sl Q I k hs pl l h;obtain⟨a,xs,rfl,n,j,q⟩:=h;cases k;obtain⟨its,r,b,hz⟩:=I.tuple n;have o:its.toArray.size=xs.length:=by rw[TR];exact r.length.symm
 refine⟨"tuple",_,UN.lookup,b.typeIs,?_⟩;obtain⟨os,e,f,p⟩:=id hs;have g:s.TypeIs (.ref sl) "slice":=⟨os,e,f⟩;unfold getItem
 try with_reducible refine UJ ?_
 first|refine KE (Tu ?_)|skip
 refine KE (wpAny_sequenceKey b.typeIs (by decide) ?_);refine KE (U6 (name:=Str.ofString "__getitem__") b.typeIs UN
  (Us UN b.typeIs entry_tuple_getitem ?_ (args_tuple_getitem _ _)))
 show wpAny _ _ (Builtin.Tuple.tupleItemsOf (.ref a) >>= _) _ _ s;refine KE (tupleItemsOf_ b ?_);refine KE (WK g ?_);rw[Tv (by decide)];refine KE (HT.sliceApplied_gen hs pl l ?_);have c:((((HT.sIx its.toArray.size 0 lo:Nat):Int)==0&&(1:Int)==1&&(HT.sIx its.toArray.size its.toArray.size d-HT.sIx its.toArray.size 0 lo)==its.toArray.size)=true):=by rw[o,j.1,j.2];simp
 show wpAny _ _ (if(((HT.sIx its.toArray.size 0 lo:Nat):Int)==0&&(1:Int)==1&&(HT.sIx its.toArray.size its.toArray.size d-HT.sIx its.toArray.size 0 lo)==its.toArray.size)=true then _ else _) _ _ s;rw[Tv c];have i:EP X aa σ Q (.ref a) s:=⟨.ref a,H,I,rfl,q⟩;refine KE (m:=Builtin.Tuple.tupleIsExact (.ref a)) ?_;unfold Builtin.Tuple.tupleIsExact;refine KE (WK b.typeIs ?_);refine Tu ?_;rw[Tv (by decide)];exact KE (WU (Tu ⟨_,rfl,Tu i⟩))
end
section
variable{X:Cx}{E:XK}
def dG{α:Type}(xs:List α)(lo a:Option Int):List α:=(xs.drop (HT.sIx xs.length 0 lo)).take (HT.sIx xs.length xs.length a-HT.sIx xs.length 0 lo)
def IsAll.cut(h:IsAll H m ds vs)(lo a:Option Int):IsAll H m (dG ds lo a) (vG vs lo a):=by unfold dG vG;rw[h.length];exact(h.drop _).take _
noncomputable def Iz(mg:Str->Option Xw)(E:XK)(g:Gd)(M:Addr->Prop)(b:Pr)(env:En)(σ:St)(H:Hp)(Q:Option Int->Hp->Prop):Res (Option Int)->Prop
 |.stuck=>False
 |.exc c=>Gm mg E g c
 |.ok o=>∀a H',Ext M H a H'->Rep g a b env σ H'->Q o H'
def QS(X:Cx)(E:XK)(e:Option Expr)(f:En->Res (Option Int)):Prop:=∃t,PO X e t/\∀g M a env σ H Q,Rep g M a env σ H->Iz X.mg E g M a env σ H Q (f env)->t σ H Q
noncomputable def Dt:En->Res (Option Int):=λ_=>.ok none
def qA(f:En->Res R):En->Res (Option Int):=λenv=>(f env).bind λr=>match r.d with
 |.int i=>.ok (some i)
 |_=>.stuck
def Du:QS X E none Dt:=⟨_,FR,λg M b env σ H Q a p=>p M H (Ext.refl _ _) a⟩
def kc(h:PD X E e f):QS X E (some e) (qA f):=by
 obtain⟨t,p1,s1⟩:=h;refine⟨_,FS p1,λg M j env σ H Q b p=>s1.one b (P:=λM H r=>Iz X.mg E g M j env σ H Q r) p (λ_ _ z=>z) (λ_ _ _ z=>z) (λM H m H' r e p=>?_) λr v M1 k e1 a is q=>?_⟩
 .cases r with
  |stuck=>exact p
  |exc c=>exact p
  |ok o=>exact λM2 l e2=>p M2 l (e.trans e2)
 .cases z:r.d with
  |int i=>rw[z]at is;simp only[z]at q;cases is;exact⟨i,rfl,q M1 k (Ext.refl _ _) a⟩
  |_=>simp only[z]at q;exact q.elim
def uv(r:R)(lo a:Option Int):Res R:=match r.d with
 |.lst xs=>.ok (oE (dG xs lo a) r.fr r.al)
 |.tup xs=>.ok (jJ (.tup (dG xs lo a)) r.fr r.al)
 |_=>.stuck
def qB(fa:En->Res R)(fl a:En->Res (Option Int)):En->Res R:=λenv=>(fa env).bind λr=>(fl env).bind λlo=>(a env).bind λb=>uv r lo b
def qC{lo n:Option Expr}{fa:En->Res R}{fl o:En->Res (Option Int)}{p2 u:Pos}(ha:PD X E e fa)(D:QS X E lo fl)(F:QS X E n o):PD X E (.Subscript e (.Slice lo n none p2) u) (qB fa fl o):=by
 obtain⟨ta,p1,s1⟩:=ha;obtain⟨N,p2,s2⟩:=D;obtain⟨O,p3,G⟩:=F;refine⟨_,Cq (sl_list.or (sl_tup.or Gz)) p1 p2 p3,λg M s env σ H Q w p=>s1.fL w p λr v M1 I e1 k is q=>?_⟩;refine s2 g M1 s env σ I _ k ?_;cases x:fl env with
 |stuck=>rw[x]at q;exact q
 |exc c=>rw[x]at q;exact q
 |ok b=>
  rw[x]at q;intro M2 C e2 l;have q2:PostE X.mg E g M2 s env σ C Q ((o env).bind λn=>uv r b n):=PostE.ext e2 q;refine G g M2 s env σ C _ l ?_;cases y:o env with
  |stuck=>rw[y]at q2;exact q2
  |exc c=>rw[y]at q2;exact q2
  |ok f=>
   rw[y]at q2;intro J K e3 h;have j:PostE X.mg E g J s env σ K Q (uv r b f):=PostE.ext e3 q2;have i:=(is.ext e2).ext e3;unfold uv at j;cases z:r.d with
   |lst xs=>rw[z]at j i;obtain⟨a,vs,rfl,h1,m⟩:=i.rd;exact .inl ⟨a,vs,rfl,.inl h1,λp A=>j.lst h A (m.cut b f)⟩
   |tup xs=>
    rw[z]at j i;have B:=i;obtain⟨a,vs,rfl,h1,m⟩:=i;by_cases t:HT.sIx vs.length 0 b=0/\HT.sIx vs.length vs.length f=vs.length
    .have L:dG xs b f=xs:=by unfold dG;rw[<- m.length,t.1,t.2,m.length];simp
     dsimp only at j;rw[L]at j;exact .inr (.inr ⟨a,vs,rfl,SqT.of h1,t,j.val h B⟩)
    .exact .inr (.inl ⟨a,vs,rfl,SqT.of h1,t,λp A=>j.tup h A (m.cut b f)⟩)
   |_=>rw[z]at j;exact j.elim
noncomputable def D.ty:D->String
 |.bn=>"NoneType" |.bl _=>"bool" |.int _=>"int" |.str _=>"str" |.tup _=>"tuple" |.lst _=>"list" |.cU _ _=>"dict"
def SI(K:Xu)(H:Hp)(x:V)(t:Xw):Prop:=om K H x t\/(t=.type "dict"/\∃a,x=.ref a/\Ij H a)
theorem Is.ty{m:Addr->Prop}{v:V}{K:Xu}(h:Is H m d v):SI K H v (.type d.ty):=by
 cases d with
 |bn=>cases h;exact .inl .bn
 |bl b=>cases h;exact .inl (.bl b)
 |int b=>cases h;exact .inl (.int b)
 |str b=>cases h;exact .inl (.str b)
 |tup ds=>obtain⟨a,vs,rfl,h1,_⟩:=h;exact .inl (.tup h1)
 |lst ds=>
  obtain⟨a,vs,rfl,h1,_⟩:=h;rcases h1 with⟨h1,_⟩|⟨o,h1,_⟩
  .exact .inl (.lst h1)
  .exact .inl (.aZ h1)
 |cU ks ds=>obtain⟨a,kvs,rfl,h1,_⟩:=h;exact .inr ⟨rfl,a,rfl,h1.1.imp (λ⟨kvs,e,_⟩=>⟨kvs,e⟩) λ⟨kvs,e,_⟩=>⟨kvs,e⟩⟩
def Nl(T:String)(d:D):Bool:=match d with
 |.bn=>T=="NoneType"
 |.bl _=>T=="bool" || T=="int"
 |.int _=>T=="int"
 |.str _=>T=="str"
 |.tup _=>T=="tuple"
 |.lst _=>T=="list"
 |.cU _ _=>T=="dict"
def KC(T:String):Prop:=∀(K:Xu)(d:D),PySem.W.kitOne K (.type d.ty) (.type T)=some (Nl T d)
def Dv:KC "int":=λK d=>by cases d<;>kernel_rfl
def Bb:KC "bool":=λK d=>by cases d<;>kernel_rfl
def GA(T:String)(fa:En->Res R):En->Res R:=λenv=>(fa env).bind λr=>.ok (.val (.bl (Nl T r.d)) true [])
def Dw:CallR X (.builtin "isinstance") (λxs H Q=>∃x T t b,xs=[x,.ty T]/\SI X.K H x t/\PySem.W.kitOne X.K t (.type T)=some b/\Q (.bl b) H):=by
 intro aa s σ H xs us Q I r h;obtain⟨x,T,t,b,rfl,ty,e,q⟩:=h;obtain⟨u,c,rfl,d,f⟩:=vz r;obtain rfl:c=Value.type T:=f;rcases ty with ty|⟨rfl,a,rfl,hd⟩
 .exact AF I d ty e λtk=>⟨.bl b,H,I.tok tk,rfl,q⟩
 .obtain rfl:u=Value.ref a:=d;obtain⟨g,_⟩:=nC I hd;exact UZ W9 I.ol g e (λz=>nomatch z) λtk=>⟨.bl b,H,I.tok tk,rfl,q⟩
def Dx(n:KC T')(o:Gl X "isinstance") (s:X.mg "isinstance"=none) (b:Gl X T) (c:X.mg T=none) (f:bootBuiltins T=some (.type T')) (ha:PD X E e fa)
 (h:autoParam (T≠"__name__") am) (i:autoParam ((T==("__debug__" : Str))=false) am)
 (m:autoParam (starEach [e,.Name T q] X.env=(false,eval e X.env)::starEach [.Name T q] X.env) ae) (j:autoParam (starEach [.Name T q] X.env=(false,eval (.Name T q) X.env)::starEach [] X.env) ae) (k:autoParam ((backTo pos (starEach [.Name T q] X.env)).any (·.1)=false) ae) :
 PD X E (.Call (.Name "isinstance" p) [e,.Name T q] [] pos) (GA T' fa):=by
 obtain⟨ta,p1,s1⟩:=ha;refine⟨_,cW Dw o s (by decide +kernel) (ah p1 (ah (FC b c f (v:=.ty T') rfl h i) aC j) m) (by decide) (by decide) m k,λg M u env σ H Q l p=>s1.fL l p λr v M1 t e1 a is q=>?_⟩;exact⟨v,T',_,_,rfl,is.ty,n X.K r.d,q _ M1 t (Ext.refl _ _) a rfl⟩
noncomputable def gI:List D->Option (List Bool)
 |[]=>some []
 |.bl b::r=>(gI r).map λbs=>b::bs
 |_::_=>none
def GB:List R->Res R
 |[r]=>match r.d with
  |.lst ds=>match gI ds with
   |some bs=>.ok (.val (.bl (bs.all id)) true [])
   |none=>.stuck
  |_=>.stuck
 |_=>.stuck
theorem sZ:∀{ds:List D}{bs:List Bool}{i:Nat}{d:D},gI ds=some bs->ds[i]?=some d->∃b,d=.bl b/\bs[i]?=some b
 |[],_,_,_,_,e=>by simp at e
 |.bl b::r,bs,0,d,h,e=>by
  simp at e;subst e;unfold gI at h;cases q:gI r with
  |none=>rw[q]at h;cases h
  |some a=>rw[q]at h;cases h;exact⟨b,rfl,rfl⟩
 |.bl b::r,bs,i+1,d,h,e=>by
  unfold gI at h;cases q:gI r with
  |none=>rw[q]at h;cases h
  |some a=>rw[q]at h;cases h;obtain⟨c,e1,e2⟩:=sZ (i:=i) q (by simpa using e);exact⟨c,e1,by simpa using e2⟩
 |.bn::_,_,_,_,h,_=>by cases h
 |.int _::_,_,_,_,h,_=>by cases h
 |.str _::_,_,_,_,h,_=>by cases h
 |.tup _::_,_,_,_,h,_=>by cases h
 |.lst _::_,_,_,_,h,_=>by cases h
theorem s_:∀{ds:List D}{bs:List Bool},gI ds=some bs->bs.length=ds.length
 |[],_,h=>by cases h;rfl
 |.bl b::r,bs,h=>by
  unfold gI at h;cases q:gI r with
  |none=>rw[q]at h;cases h
  |some a=>rw[q]at h;cases h;simp[s_ q]
 |.bn::_,_,h=>by cases h
 |.int _::_,_,h=>by cases h
 |.str _::_,_,h=>by cases h
 |.tup _::_,_,h=>by cases h
 |.lst _::_,_,h=>by cases h
def Bc(t:X.calm=true):CallR X (.builtin "all") (λxs H Q=>∃(p:Addr)(vs:List V)(bs:List Bool),xs=[.ref p]/\SqL X.K H p vs/\vs=bs.map V.bl/\Q (.bl (bs.all id)) H):=by
 intro aa s σ H xs us Q I r h;obtain⟨p,vs,bs,rfl,w,rfl,q⟩:=h;obtain⟨u,rfl,y⟩:=eF r;cases y;obtain⟨its,g,pl,hz⟩:=I.list w;have z:X.A.in1.handled=none:=I.ok.hd t;obtain⟨o,B,_⟩:=pl.isList;have j:p<s.heap.objs.size:=TC B;refine call_all_walk (V9 pl.isList ?_);refine⟨s.heap.objs.size,_,_,_,_,_,λi=>(bs[i]?).getD true,rfl,Walks.list z s.heap.objs.size p (T5 j) its.toArray,⟨⟨_,Tz _ rfl,rfl,rfl⟩,?_⟩,?_,λh' tk C=>?_⟩
 .exact pl.isList.at λo e=>RW _ e
 .intro i v G J L k a;have k:its[i]?=some v:=by grind
  have c:i<its.length:=(TL.mp k).1;have l:=g.length;have d:i<bs.length:=by grind
  obtain⟨u',n,D⟩:=g.get (i:=i) (x:=.bl bs[i]) (by simp[d]);rw[k]at n;cases n;cases D;have m:bs[i]?=some bs[i]:=by simp[d]
  dsimp only at a;rw[m]at a;exact Vb a
 .have l:=g.length;rw[TN]at l;have e:((List.range its.toArray.size).all λi=>(bs[i]?).getD true)=bs.all id:=by
   rw[TR,<- l];rw[Wq,UK,UK];constructor
   .intro h b d;obtain⟨i,c⟩:=TZ.mp d;have:=h i (by grind);rw[c]at this;exact this
   .intro h i c;have c:i<bs.length:=by grind
    have m:bs[i]?=some bs[i]:=by simp[c]
    rw[m];exact h _ (Xl c)
  rw[e];refine⟨.bl _,H,?_,rfl,q⟩;have F:L2.Inv X aa σ H { s with heap:=s.heap.push { cls:=.type "list_iterator",data:=.fields #[.ref p,.int 0 0] } }:=I.kept (t':=s.toks) λb o e=>RW _ e;have f:=I.rB (H':=H) (Tt s.heap.objs.size) (I.aS.fresh (Tt _));exact F.turned (t':=tk) (it:=s.heap.objs.size) (λb o d e=>C b o (by grind) e) f.1 f.2.1 f.2.2.2.1 f.2.2.2.2.1 f.2.2.2.2.2
def KD(m:X.calm=true):iT X E (.builtin "all") GB:=by
 refine⟨_,Bc m,λg M n env σ H Q rs vs f i p=>?_⟩;rcases rs with _|⟨r,_|_⟩
 .exact p.elim
 rotate_left
 .exact p.elim
 obtain⟨v,w,rfl,c,o⟩:=i;cases o;have c:Is H (vmsk g M (bM [r]) n (cn [r])) r.d v:=c;unfold GB at p;dsimp only at p;cases q:r.d with
 |lst ds=>
  rw[q]at p c;obtain⟨a,ws,rfl,h1,h⟩:=c.rd;dsimp only at p;cases e:gI ds with
  |none=>rw[e]at p;exact p.elim
  |some bs=>
   rw[e]at p;refine⟨a,ws,bs,rfl,.inl h1,?_,p _ M H (Ext.refl _ _) f rfl⟩;apply WD
   intro j;by_cases k:j<ds.length
   .obtain⟨b,e1,e2⟩:=sZ (i:=j) (d:=ds[j]) e (by simp[k]);obtain⟨t,s,l⟩:=h.get (i:=j) (d:=ds[j]) (by simp[k]);rw[e1]at l;cases l;rw[s,T3,e2];rfl
   .have u:=h.length;have x:=s_ e;rw[Vm (by lia),Vm (by simp;lia)]
 |_=>rw[q]at p;exact p.elim
end
def QT(K:Xu)(a:Addr):It:=⟨λi H=>∃xs x,SqL K H a xs/\xs[i]?=some x,λi H y H'=>∃p x,H p=none/\y=.ref p/\H'=aP H p (.tup [.int (i:Nat),x])/\∀xs,SqL K H a xs->xs[i]?=some x,λi H=>∃xs,SqL K H a xs/\xs.length<=i⟩
def Bd{P:Xv}{w:World}{K:Xu}(a it e:Addr)(hei:e≠it):Turn P w K (.Tuple es k pos) (QT K a) [e,it] e (λi h=>(∃old,IsEnum h e it i old)/\h.IsListIter it a i) where
 mem:=by simp
 obj:=λi h st b hb=>by
  obtain⟨⟨old,he⟩,o,ho,c,d⟩:=st;rcases TH.mp hb with rfl|hb
  .exact⟨_,he,λv z=>by cases z⟩
  .have:b=it:=by simpa using hb
   subst this;exact⟨o,ho,λv z=>by rw[d]at z;cases z⟩
 keep:=λi h h' st kk=>by obtain⟨⟨old,he⟩,hl⟩:=st;exact⟨⟨old,kk e (by simp) _ he⟩,hl.at λo q=>kk it (by simp) o q⟩
 item:=by
  intro X hP hw hK hc i aa s σ H E I hf st hg;subst hP hw hK;obtain⟨xs,x,hq,hx⟩:=hg;obtain⟨⟨old,he⟩,hl⟩:=st;obtain⟨its,rv,p,hz⟩:=I.list hq;obtain⟨u,hu,ru⟩:=rv.get hx;have fe:=hf e (by simp);have fi:=hf it (by simp);have hai:a≠it:=by intro z;obtain⟨o1,e1,c1,_⟩:=p.isList;obtain⟨o2,e2,c2,_⟩:=hl;rw[z,e2]at e1;cases e1;rw[c2]at c1;injection c1 with z;exact absurd z (by decide)
  have hae:a≠e:=by intro z;obtain⟨o1,e1,c1,_⟩:=p.isList;rw[z,he]at e1;cases e1;injection c1 with z;exact absurd z (by decide)
  have hh:X.A.in1.handled=none:=I.ok.hd hc;have hil:i<its.length:=(TL.mp hu).1;refine wpAny_pyNext_enum_itemD (Draws.list hh it a hai its.toArray) he ⟨hl,p.isList⟩ (by simpa using hil) hei (by simp;exact⟨hei,UM hae⟩) λx' h' tk hx' ho hs' hT hsz hk=>?_;have ex:x'=u:=by
   have:its[i]?=some x':=by simpa using hx'
   rw[hu]at this;exact(UL this).symm
  subst ex;refine⟨_,rfl,wpAny_letOwnedTupleGo_enum ho λh'' he'' hs''=>?_⟩;have keep2:∀b o,b≠e->b≠it->s.heap.get? b=some o->h''.get? b=some o:=λb o n1 n2 q=>(hs''.2 b n1).trans (hk b o n1 n2 q);have hTe:s.heap.objs.size≠e:=V2 (TC he);have hT'':h''.get? s.heap.objs.size=some { cls:=.type "tuple",data:=.seq #[.int i tk,x'] }:=(hs''.2 _ hTe).trans hT;have I1:L2.Inv X aa σ (aP H s.heap.objs.size (.tup [.int (i:Nat),x])) {s with heap:=h'',toks:=tk+1}:=by
   refine I.step (g':=s.gens) (d':=s.drawn) (ch:=[e,it]) (λb hb=>?_) (λb o _ _ hn q _=>keep2 b o (λz=>hn (by simp[z])) (λz=>hn (by simp[z])) q)
    (λb o _ _ hn q _=>⟨o.slots,keep2 b o (λz=>hn (by simp[z])) (λz=>hn (by simp[z])) q⟩) (λb o _ q hH=>by rw[af (T5 (TC q))];exact hH)
    (λb o hn q=>⟨o,keep2 b o (λz=>hn (by simp[z])) (λz=>hn (by simp[z])) q⟩) (λb ys q=>by rw[af (ai q (I.aS.fresh (Tt _)))];exact q)
    (λb o' u' q=>by rw[af (ai q (I.aS.fresh (Tt _)))];exact q) (λb ps q=>⟨#[],by rw[af (ai q (I.aS.fresh (Tt _)))];simp[q]⟩) (λm hm=>?_) (λb u' q=>?_) I.bare
   .rcases TH.mp hb with rfl|hb
    .exact⟨fe.2.2.2.1,fe.2.1,fe.2.2.2.2.1,fe.2.2.2.2.2⟩
    .have:b=it:=by simpa using hb
     subst this;exact⟨fi.2.2.2.1,fi.2.1,fi.2.2.2.2.1,fi.2.2.2.2.2⟩
   .obtain⟨o,es',ep,ho',r⟩:=hm;exact⟨o,es',ep,keep2 _ o (UM fe.2.1) (UM fi.2.1) ho',r⟩
   .by_cases hb:b=s.heap.objs.size
    .subst hb;rw[ag]at q;cases q;refine⟨by show 2<=sizeLine;decide,[.int i tk,x'],.cons ⟨tk,rfl⟩ (.cons ru .nil),⟨_,hT'',rfl,0,rfl⟩⟩
    .rw[af hb]at q;refine(I.aS b u' q).stay (λc v hc' q'=>keep2 c v ?_ ?_ q') (λc r=>by rw[af (ai r (I.aS.fresh (Tt _)))];exact r) λc ys r=>by rw[af (ai r (I.aS.fresh (Tt _)))];exact r
     .rcases hc' with z|z
      .rw[z];exact ai q fe.1
      .exact ai z fe.1
     .rcases hc' with z|z
      .rw[z];exact ai q fi.1
      .exact ai z fi.1
  refine⟨.ref s.heap.objs.size,_,I1,rfl,⟨_,x,I.aS.fresh (Tt _),rfl,rfl,λys hy=>by rw[I.xu hy hq];exact hx⟩,⟨⟨_,by simpa using he''⟩,?_⟩,λb hb=>?_⟩
  .obtain⟨o,q,r⟩:=hs'.1;exact⟨o,(hs''.2 it (UM hei)).trans q,r⟩
  .rcases TH.mp hb with rfl|hb
   .rw[af (T5 (TC he))];exact fe.1
   .have:b=it:=by simpa using hb
    subst this;obtain⟨o,q,_⟩:=hl;rw[af (T5 (TC q))];exact fi.1
 done:=by
  intro X hP hw hK hc i aa s σ H E I hf st hg;subst hP hw hK;obtain⟨xs,hq,hx⟩:=hg;obtain⟨⟨old,he⟩,hl⟩:=st;obtain⟨its,rv,p,hz⟩:=I.list hq;have fi:=hf it (by simp);have hai:a≠it:=by intro z;obtain⟨o1,e1,c1,_⟩:=p.isList;obtain⟨o2,e2,c2,_⟩:=hl;rw[z,e2]at e1;cases e1;rw[c2]at c1;injection c1 with z;exact absurd z (by decide)
  have hh:X.A.in1.handled=none:=I.ok.hd hc;have hln:=rv.length;have Dr:Draws X.prog X.w X.A.in1 it [it,a] 0 (λ_ _=>True) (λ_ h=>h.IsListIter it a i/\h.IsList a its.toArray):=
   { live:=λ_ _ st=>let ⟨o,ho,_⟩:=st.1;⟨o,ho⟩
     frame:=λ_ _ _ st hk=>⟨st.1.at λo e=>hk it (by simp) o e,st.2.at λo e=>hk a (by simp) o e⟩
     item:=λi s Q E hi=>absurd hi (by lia)
     done:=λs Q E st hE=>wpAny_nextOf_list_end hh st.1 st.2 (by simp;lia) hE }
  exact wpAny_pyNext_enum_endD Dr he ⟨hl,p.isList⟩ λh' eb=>⟨rfl,I.turned (t':=s.toks) (λb o hb e=>eb b o hb e) fi.1 fi.2.1 fi.2.2.2.1 fi.2.2.2.2.1 fi.2.2.2.2.2⟩
 self:=λA i s Q E st h=>by obtain⟨⟨old,he⟩,_⟩:=st;exact wpAny_pyIter_enum he h
section
variable{X:Cx}{es:List Expr}{k:Nat}{u7:Pos}
def zB(K:Xu)(ta:TA):TI:=λσ H R=>ta σ H λvs b=>∃a xs,vs=[.ref a]/\SqL K b a xs/\R (QT K a) b
def zC{l:Expr}(g:Gl X "enumerate") (i:X.mg "enumerate"=none) (ha:PA X [l] ta) (hs:autoParam (starEach [l] X.env=[(false,eval l X.env)]) ae):PI X (.Tuple es k u7) (.Call (.Name "enumerate" p) [l] [] pos) (zB X.K ta):=by
 intro aa s σ H R I h;refine Call_ (jS I g i (by decide +kernel:bootBuiltins "enumerate"=some (.type "enumerate")) (U5 (bR (ha pos aa s σ H _ I h) λus s1 ⟨vs,d,c,j,q1⟩=>?_) hs rfl));obtain⟨a,xs,e,m,q⟩:=q1;subst e;cases j with
 |cons r n=>
  cases n;cases r;obtain⟨its,u,pl,hz⟩:=c.list m;refine call_enumerate_list pl.isList λh' f o hsz kp=>?_;have t:L2.Inv X aa σ d {s1 with heap:=h'}:=c.kept (t':=s1.toks) kp;refine wpAny_pyIter_enum f ?_;refine⟨s1.heap.objs.size+1,[s1.heap.objs.size+1,s1.heap.objs.size],_,_,d,rfl,t,Bd a s1.heap.objs.size (s1.heap.objs.size+1) (Nat.succ_ne_self _),⟨⟨_,by simpa using f⟩,o⟩,λb hb=>?_,q⟩;rcases TH.mp hb with rfl|hb
  .exact c.rB (Nat.le_succ _) (c.aS.fresh (Nat.le_succ _))
  .have e:b=s1.heap.objs.size:=by simpa using hb
   subst e;exact c.rB (Tt _) (c.aS.fresh (Tt _))
end
noncomputable def SJ(osc:Scope)(N:List Str)(scope:Scope)(tN capN:List Str)(caps:List Nat):Bool:=
 (scope.kind==.function)&&scope.names.all (λy=>y.2 != .cell)&&scope.names.all (λy=>y.2 != .local || scope.names.lookup y.1==some .local)&&tN.all (λx=>scope.names.lookup x==some .local) &&
 scope.names.all (λy=>y.2 != .free ||(osc.names.lookup y.1==some .cell || osc.names.lookup y.1==some .free))&&(capN.zip caps).all (λp=>N[p.2]?==some p.1)&&(caps.length==capN.length) &&
 capN.all (λy=>osc.names.lookup y==some .cell || osc.names.lookup y==some .free)&&capN.all (λy=>scope.names.lookup y==some .free)&&decide (tN++capN).Nodup
def cz.of(h1:X.env.scope=osc)(f:X.N=N)(b:SJ osc N scope tN capN caps=true):cz X scope tN capN caps:=by
 unfold SJ at b;simp only[Um,UK,Bool.or_eq_true,V_,bne_iff_ne,Vg,ne_eq]at b;obtain⟨⟨⟨⟨⟨⟨⟨⟨⟨g,h⟩,i⟩,j⟩,l⟩,m⟩,n⟩,o⟩,p⟩,c⟩:=b;subst h1 f;refine⟨g,h,λy d q=>(i y d).resolve_left λz=>z q,j,λy d r=>(l y d).resolve_left λz=>z r,⟨λk y e=>?_,o,p,n⟩,c⟩;have t:k<capN.length:=(TL.mp e).1;have a:k<caps.length:=by lia
 refine⟨caps[k],by simp[a],?_⟩;have s:(y,caps[k])∈capN.zip caps:=by
  have:(capN.zip caps)[k]?=some (y,caps[k]):=by rw[Wh];exact⟨e,by simp[a]⟩
  exact UH this
 exact m _ s
structure Fn(K:Xu) (mg:Str->Option Xw) (x:Str) (st:Stmt) (ps:List Str) (f:Addr) (fd:FuncData):Prop where
 fu:Ft K x x st f fd
 bi:Binds K fd ps []
 gl:mg x=some (.ref f)
def QU(F:List D->Res R):Sp:=λvs H Q _=>vs.length=1/\∃ds Ma r,IsAll H Ma ds vs/\F ds=.ok r/\∀v H',Same H H'->RetOk (NY H Ma) H' v r->Q v H'
theorem lS:∀ns:List Int,IsAll H m (ns.map D.int) (ns.map V.int)
 |[]=>rfl
 |n::r=>⟨.int n,r.map V.int,rfl,rfl,lS r⟩
def KF(d:∀ns:List Int,ns.length<=63->∃f al,F [.lst (ns.map .int)]=.ok (.val (.bl true) f al))(H:Hp)(a:Addr)(ns:List Int)(g:ns.length<=63)(c:∃o,H a=some (.aZ o (.lst (ns.map V.int)))) :
 QU F [.ref a] H (λv _=>v=.bl true) λ_ _ _=>False:=by
 obtain⟨f,al,e⟩:=d ns g;obtain⟨o,c⟩:=c;exact⟨rfl,[.lst (ns.map .int)],λb=>b=a,_,⟨_,[],rfl,⟨a,ns.map V.int,rfl,.inr ⟨o,c,rfl⟩,lS ns⟩,rfl⟩,e,λv H' _ h=>h⟩
section
variable{P:Xv}{w:World}{K:Xu}{mg:Str->Option Xw}{base:Heap}
def bG.top(h:bG P w K mg base CX k f fd ps (mw mg 1 F)):bG P w K mg base CX k f fd ps (QU F):=h.imp λvs H Q E ⟨a,ds,Ma,r,is,e,q⟩=>⟨a,ds,Ma,is,by rw[e];exact q⟩
end
section
variable{X:Cx}{E:XK}
def Ry(k:Int->Int->Int):List R->Res R
 |[r,q]=>match r.d,q.d with
  |.int i,.int j=>.ok (.val (.int (k i j)) true [])
  |_,_=>.stuck
 |_=>.stuck
def Oc:List R->Res R:=Ry λi j=>if j<i then j else i
def Od(h:CallR X f (λxs H Q=>∃i j,xs=[.int i,.int j]/\Q (.int (k i j)) H)):iT X E f (Ry k):=by
 refine⟨_,h,λg M n env σ H Q rs vs l i p=>?_⟩;rcases rs with _|⟨r,_|⟨q,_|_⟩⟩
 .exact p.elim
 .exact p.elim
 rotate_left
 .exact p.elim
 obtain⟨v,w,rfl,c,v2,s,rfl,e,o⟩:=i;cases o;have c:Is H (vmsk g M (bM [r,q]) n (cn [r,q])) r.d v:=c;have e:Is H (vmsk g M (bM [r,q]) n (cn [r,q])) q.d v2:=e;unfold Ry at p;dsimp only at p;cases z:r.d with
 |int a=>
  cases m:q.d with
  |int b=>rw[z]at c;rw[m]at e;rw[z,m]at p;cases c;cases e;exact⟨a,b,rfl,p _ M H (Ext.refl _ _) l rfl⟩
  |_=>rw[z,m]at p;exact p.elim
 |_=>rw[z]at p;exact p.elim
def KG(a:X.calm=true):iT X E (.builtin "min") Oc:=Od (AB a)
def GC:List R->Res R
 |[r]=>match r.d with
  |.int i=>.ok (.val (.int i) true [])
  |.bl b=>.ok (.val (.int (if b then 1 else 0)) true [])
  |_=>.stuck
 |_=>.stuck
def KH:iT X E (.type "int") GC:=by
 refine⟨_,AC,λg M f env σ H Q rs vs e i p=>?_⟩;rcases rs with _|⟨r,_|_⟩
 .exact p.elim
 rotate_left
 .exact p.elim
 obtain⟨v,w,rfl,c,h⟩:=i;cases h;have c:Is H (vmsk g M (bM [r]) f (cn [r])) r.d v:=c;unfold GC at p;dsimp only at p;cases z:r.d with
 |int a=>rw[z]at c p;cases c;exact .inl ⟨a,rfl,p _ M H (Ext.refl _ _) e rfl⟩
 |bl b=>rw[z]at c p;cases c;exact .inr ⟨b,rfl,p _ M H (Ext.refl _ _) e rfl⟩
 |_=>rw[z]at p;exact p.elim
def Dy(fa:En->Res R):En->Res R:=λenv=>(fa env).bind λra=>match ra.d with
 |.int i=>.ok (.val (.int (-i)) true [])
 |_=>.stuck
def Dz(ha:PD X E a fa):PD X E (.UnaryOp .USub a pos) (Dy fa):=by
 obtain⟨ta,j,sa⟩:=ha;refine⟨_,NE JZ j,λg M l env σ H Q h p=>sa.fL h p λr v k H' e c i f=>?_⟩;cases q:r.d with
 |int b=>rw[q]at i;simp only[q]at f;cases i;exact⟨b,rfl,f _ k H' (Ext.refl _ _) c rfl⟩
 |_=>simp only[q]at f;exact f.elim
def DA(fa:En->Res R):En->Res Bool:=λenv=>(fa env).bind λra=>.ok ra.d.kR
def uw(ha:PD X E a fa):zr X E (.Compare a [.Is] [.Constant .none j pos'] pos) (DA fa):=Gp ha
open Classical in
def iD(H:Hp)(m:Addr->Prop)(x:D)(u:Xw):Bool:=decide (∃d v,RelV v u/\Is H m d v/\gE d x=true)
def tf(r:RelV v u)(h:Is H m d v):iD H m x u=gE d x:=by
 unfold iD;cases q:gE d x with
 |true=>exact @T4 _ (Classical.propDecidable _) ⟨d,v,r,h,q⟩
 |false=>refine @Uc _ (Classical.propDecidable _) λ⟨d',c,b,h',a⟩=>?_;have e:=L2.RelV.inj r b;subst e;have e:=Is.inj h h';subst e;rw[q]at a;cases a
theorem nL:∀{ds:List D}{vs:List V}{us:List Xw},IsAll H m ds vs->Vals vs us->us.any (iD H m x)=ds.any λd=>gE d x
 |[],_,_,h,r=>by cases h;cases r;rfl
 |d::ds,_,_,h,r=>by
  obtain⟨v,w,rfl,h1,a⟩:=h;cases r with
  |cons b c=>rw[VF,VF,tf b h1,nL a c]
def Oe(neg:Bool)(K:Xu):R2:=λx y H Q=>∃p ds vs d m m',y=.ref p/\(SqL K H p vs\/SqT K H p vs)/\IsAll H m ds vs/\Is H m' d x/\(D.gZ ds<=50/\d.dep<=50)/\Q (.bl (if neg then !(ds.any λe=>gE e d)else ds.any λe=>gE e d)) H
theorem nM(I:L2.Inv X aa σ H s)(a:A.units+50<cLine)(b:Is H m' d x)(g:d.dep<=50)(c:RelV x v) :
 ∀{ds:List D}{vs:List V}{us:List Xw},IsAll H m ds vs->Vals vs us->D.gZ ds<=50->∀u∈us,SeqAt.EqAt A s u v (iD H m d u)
 |[],_,_,h,r,_=>λu a=>by cases h;cases r;cases a
 |e::ds,_,_,h,r,hd=>λu hm=>by
  obtain⟨y,w,rfl,h1,i⟩:=h;have j:max e.dep (D.gZ ds)<=50:=hd;cases r with
  |cons f k=>
   rcases TH.mp hm with rfl|hm
   .rw[tf f h1];exact C7 I.aS 50 A a (by lia) (by lia) (by lia) h1 b f c
   .exact nM I a b g c i k (by lia) u hm
def KI(g:X.A.units+64<cLine):OpR X (compareOp .In) (Oe false X.K):=by
 intro aa s σ H x y v u Q I b e h;obtain⟨p,ds,vs,d,m,m',rfl,hq,a,c,hd,q⟩:=h;cases e;rcases hq with hq|hq
 .obtain⟨its,r,pl,hz⟩:=I.list hq;refine SeqAt.in_listAt (iD H m d) pl.isList (λw f=>nM I (by grind) c hd.2 b a r hd.1 w (by grind)) ⟨.bl _,H,I,rfl,?_⟩;rw[show its.toArray.any (iD H m d)=its.any (iD H m d) by simp,nL a r];exact q
 .obtain⟨its,r,pl,hz⟩:=I.tuple hq;refine SeqAt.in_tupleAt (iD H m d) pl (λw f=>nM I (by grind) c hd.2 b a r hd.1 w (by grind)) ⟨.bl _,H,I,rfl,?_⟩;rw[show its.toArray.any (iD H m d)=its.any (iD H m d) by simp,nL a r];exact q
def Nm(neg:Bool)(x:D)(ds:List D):Res R:=if D.gZ ds<=50/\x.dep<=50 then .ok (.val (.bl (if neg then !(ds.any λe=>gE e x)else ds.any λe=>gE e x)) true [])else .stuck
def Be(neg:Bool)(a b:R):Res R:=match b.d with
 |.lst ds=>Nm neg a.d ds
 |.tup ds=>Nm neg a.d ds
 |_=>.stuck
def S4:R->R->Res R:=Be false
def KJ(h:OpR X f (Oe neg X.K)):rE X E f (Be neg):=by
 refine⟨_,h,λg M k env σ H Q ra l x y c j b p=>?_⟩;unfold Be at p;have key:∀ds,PostE X.mg E g M k env σ H Q (Nm neg ra.d ds)->(D.gZ ds<=50/\ra.d.dep<=50)/\Q (.bl (if neg then !(ds.any λe=>gE e ra.d)else ds.any λe=>gE e ra.d)) H:=λds p=>by
  unfold Nm at p;by_cases hd:D.gZ ds<=50/\ra.d.dep<=50
  .rw[Tv hd]at p;exact⟨hd,p _ M H (Ext.refl _ _) c rfl⟩
  .rw[TJ hd]at p;exact p.elim
 cases e2:l.d with
 |lst ds=>rw[e2]at p b;obtain⟨a,vs,rfl,h1,i⟩:=b.rd;obtain⟨k1,k2⟩:=key ds p;exact⟨a,ds,vs,ra.d,_,_,rfl,.inl (.inl h1),i,j,k1,k2⟩
 |tup ds=>rw[e2]at p b;obtain⟨a,vs,rfl,h1,i⟩:=b;obtain⟨k1,k2⟩:=key ds p;exact⟨a,ds,vs,ra.d,_,_,rfl,.inr (SqT.of h1),i,j,k1,k2⟩
 |_=>rw[e2]at p;exact p.elim
def Of(a:X.A.units+64<cLine):rE X E (compareOp .In) S4:=KJ (KI a)
end
end L3
namespace L3
open PySem PySem.Spec PyProof.Rows L2
noncomputable def DB:D->Option bm
 |.int i=>some (.inl i)
 |.str x=>some (.inr x)
 |_=>none
def oJ:List D->Option (List bm)
 |[]=>some []
 |d::ds=>match DB d,oJ ds with
  |some k,some ks=>some (k::ks)
  |_,_=>none
def KL:D->Option (List bm)
 |.tup ds=>oJ ds
 |_=>none
section
variable{H:Hp}{m:Addr->Prop}
def Is.key(h:Is H m d v)(e:DB d=some k):v=kV k:=by
 cases d with
 |int i=>cases e;exact h
 |str x=>cases e;exact h
 |_=>cases e
theorem IsAll.keys:∀{ds:List D}{vs:List V}{ks:List bm},IsAll H m ds vs->oJ ds=some ks->vs=ks.map kV
 |[],_,_,h,e=>by cases h;cases e;rfl
 |d::ds,_,ks,h,e=>by
  obtain⟨v,r,rfl,h1,a⟩:=h;unfold oJ at e;cases q:DB d with
  |none=>rw[q]at e;cases e
  |some k=>
   cases q2:oJ ds with
   |none=>rw[q,q2]at e;cases e
   |some b=>rw[q,q2]at e;cases e;rw[h1.key q,IsAll.keys a q2];rfl
theorem Is.KL(h:Is H m d v)(e:L3.KL d=some k):∃b,v=.ref b/\H b=some (.tup (k.map kV)):=by
 cases d with
 |tup ds=>obtain⟨a,vs,rfl,h1,c⟩:=h;have e:oJ ds=some k:=e;rw[IsAll.keys c e]at h1;exact⟨a,rfl,h1⟩
 |_=>cases e
end
section
variable{X:Cx}{E:XK}
def GD(c:Rep g M ρ env σ H)(f:H b=none)(is:Is H' (λa=>a=b) d (.ref b))(mu:Mu H' b):ROk g M ρ H H' (.ref b) (.g8 d):=by obtain⟨j,h,i⟩:=c.free f;exact⟨λa=>a=b,λa e=>by subst e;exact⟨h,f,mu,i⟩,is⟩
def zD:PD X E (.Dict [] [] pos) (λ_=>.ok (.g8 (.cU [] []))):=by refine⟨_,vK,λg M d env σ H Q a p b c=>?_⟩;have s:Same H (aP H b (.dK [])):=aK c;exact p _ M _ ⟨λ_ z=>z,s,λ_ z=>.inl z⟩ (a.grow s) (GD a c ⟨b,[],rfl,⟨.inl ⟨[],.inl ag,rfl,rfl⟩,rfl⟩,rfl⟩ ⟨_,ag,True.intro⟩)
def ga:D->Option DK
 |.int i=>some (.inl (.inl i))
 |.str x=>some (.inl (.inr x))
 |.tup ds=>(oJ ds).map .inr
 |_=>none
noncomputable def lT:DK->DK->Bool
 |.inl _,.inl _=>true
 |.inr _,.inr _=>true
 |_,_=>false
noncomputable def nN(ks:List DK)(k:DK):Bool:=ks.any λx=>decide (x=k)
def DC(neg:Bool)(a:D)(ks:List DK):Res R:=match ga a with
 |some k=>if ks.all (lT k)then .ok (.val (.bl (if neg then !nN ks k else nN ks k)) true [])else .stuck
 |none=>.stuck
def DD(neg:Bool)(a b:R):Res R:=match b.d with
 |.cU ks _=>DC neg a.d ks
 |_=>Be neg a b
def Bf:R->R->Res R:=DD false
noncomputable def Og(neg:Bool):R2:=λx y H Q=>∃a o,y=.ref a/\oB H a x o/\Q (.bl (if neg then !o.isSome else o.isSome)) H
def KM(e:X.A.units+64<cLine):OpR X (compareOp .In) (Og false):=by intro aa s σ H x y v u Q I b c h;obtain⟨a,o,rfl,g,q⟩:=h;cases c;exact NP (by lia) I g b λf d=>⟨.bl _,H,d,rfl,q⟩
def qD{κ:Type}[DecidableEq κ]{kvs:List (κ×V)}(inj:κ->DK)(c:∀a b,inj a=inj b->a=b)(k:κ):(cS kvs k).isSome=nN (kvs.map λp=>inj p.1) (inj k):=by
 unfold nN;induction kvs with
 |nil=>rfl
 |cons p r d=>
  rw[Tw,VF];by_cases e:p.1=k
  .rw[gz e,T4 (Vv inj e)];rfl
  .rw[gA e,d,Uc (λz=>e (c _ _ z)),Xc]
theorem Is.ga(h:Is H m d v)(e:L3.ga d=some k):(∃k0,k=.inl k0/\v=kV k0)\/∃k0 b,k=.inr k0/\v=.ref b/\H b=some (.tup (k0.map kV)):=by
 cases d with
 |int i=>cases e;exact .inl ⟨_,rfl,h⟩
 |str x=>cases e;exact .inl ⟨_,rfl,h⟩
 |tup ds=>have e:(oJ ds).map Sum.inr=some k:=e;obtain⟨k0,a,rfl⟩:=UF.mp e;obtain⟨b,e1,e2⟩:=Is.KL (d:=.tup ds) h a;exact .inr ⟨k0,b,rfl,e1,e2⟩
 |_=>cases e
def GE(h:DAt H a ks vs)(g:Is H m d x)(e:L3.ga d=some k)(c:ks.all (lT k)=true):∃o,oB H a x o/\o.isSome=nN ks k:=by
 rcases g.ga e with⟨k0,rfl,rfl⟩|⟨k0,b,rfl,rfl,f⟩
 .rcases h with⟨kvs,e1,rfl,rfl⟩|⟨kvs,e1,rfl,rfl⟩
  .exact⟨_,.inl (.inl ⟨kvs,k0,e1,rfl,rfl⟩),qD Sum.inl (λ_ _ z=>Xf z) k0⟩
  .cases kvs with
   |nil=>exact⟨none,.inr (.inl ⟨e1,⟨k0,rfl⟩,rfl⟩),rfl⟩
   |cons p r=>simp[lT]at c
 .rcases h with⟨kvs,e1,rfl,rfl⟩|⟨kvs,e1,rfl,rfl⟩
  .cases kvs with
   |nil=>exact⟨none,.inr (.inr ⟨e1,⟨b,k0,rfl,f⟩,rfl⟩),rfl⟩
   |cons p r=>simp[lT]at c
  .exact⟨_,.inl (.inr ⟨kvs,k0,b,e1,rfl,f,rfl⟩),qD Sum.inr (λ_ _ z=>Xg z) k0⟩
def KN(h1:rE X E f (Be neg))(h:OpR X f (Og neg)):rE X E f (DD neg):=by
 obtain⟨r,o1,s1⟩:=h1;refine⟨_,o1.or h,λg M l env σ H Q ra i x y b j c p=>?_⟩;unfold DD at p;cases q:i.d with
 |cU ks ds=>
  right;rw[q]at p c;dsimp only at p;unfold DC at p;cases q2:ga ra.d with
  |none=>rw[q2]at p;exact p.elim
  |some k=>
   rw[q2]at p;dsimp only at p;by_cases e:ks.all (lT k)=true
   .rw[Tv e]at p;obtain⟨a,vs,rfl,h1,h⟩:=c;obtain⟨o,g1,g2⟩:=GE h1.1 j q2 e;refine⟨a,o,rfl,g1,?_⟩;rw[g2];exact p _ M H (Ext.refl _ _) b rfl
   .rw[TJ e]at p;exact p.elim
 |_=>left;refine s1 g M l env σ H Q ra i x y b j c ?_;rw[q]at p;exact p
def ux(a:X.A.units+64<cLine):rE X E (compareOp .In) Bf:=KN (Of a) (KM a)
def ti:List DK->List D->DK->D->List D
 |k'::ks,d'::ds,k,d=>(if k'=k then d else d')::ti ks ds k d
 |_,_,_,_=>[]
def ke(ks:List DK)(ds:List D)(k:DK)(d:D):D:=if nN ks k then .cU ks (ti ks ds k d)else .cU (ks++[k]) (ds++[d])
def zE{κ:Type}[DecidableEq κ](inj:κ->DK)(o:∀a b,inj a=inj b->a=b){H:Hp}{m:Addr->Prop}{kvs:List (κ×V)}{ds:List D}{k:κ}{v:V}{d:D}(h:IsAll H m ds (kvs.map Prod.snd))(i:Is H m d v) :
 ∃f g,ke (kvs.map λp=>inj p.1) ds (inj k) d=.cU f g/\f=(ce kvs k v).map (λp=>inj p.1)/\IsAll H m g ((ce kvs k v).map Prod.snd):=by
 have c:nN (kvs.map λp=>inj p.1) (inj k)=kvs.any λp=>decide (p.1=k):=by grind [nN]
 unfold ke ce;rw[c];by_cases e:(kvs.any λp=>decide (p.1=k))=true
 .rw[Tv e,Tv e];refine⟨_,_,rfl,?_,?_⟩
  .rw[T7];refine U0 λp _=>?_
   grind
  .clear e c;induction kvs generalizing ds with
   |nil=>
    cases ds with
    |nil=>exact rfl
    |cons j r=>obtain⟨_,_,z,_⟩:=h;cases z
   |cons p r l=>
    cases ds with
    |nil=>cases h
    |cons j ds=>
     obtain⟨q,s,z,t,n⟩:=h;cases z;have:=l n;refine⟨_,_,rfl,?_,this⟩
     grind
 .rw[TJ e,TJ e];exact⟨_,_,rfl,by simp,by rw[UB];exact h.append ⟨v,[],rfl,i,rfl⟩⟩
def tj(i:Nat)(env:En)(ks:List DK)(ds:List D)(d:D)(k:R):Res Fl:=match ga k.d with
 |some x=>if ks.all (lT x)/\ks.length<lim then .ok (.nx (env.set i (some (.g9 (ke ks ds x d)))))else .stuck
 |none=>.stuck
def wg(i:Nat)(fk:En->Res R)(env:En)(ks:List DK)(ds:List D)(r:R):Res Fl:=if r.d.flat then(fk env).bind (tj i env ks ds r.d)else .stuck
def tp(i:Nat)(fk a:En->Res R):En->Res Fl:=λenv=>match env[i]? with
 |some (some (.g9 (.cU ks ds)))=>(a env).bind (wg i fk env ks ds)
 |_=>.stuck
def DE(mk:D->Sl)(i:Nat)(env:En)(ks:List DK)(ds:List D)(d:D)(k:R):Res Fl:=match ga k.d with
 |some x=>if ks.all (lT x)/\ks.length<lim then .ok (.nx (env.set i (some (mk (ke ks ds x d)))))else .stuck
 |none=>.stuck
def DF(mk:D->Sl)(i:Nat)(fk:En->Res R)(env:En)(ks:List DK)(ds:List D)(r:R):Res Fl:=if r.d.flat then(fk env).bind (DE mk i env ks ds r.d)else .stuck
def DG{fk fv:En->Res R}{M:Addr->Prop}{σ:St}{H:Hp}{D:Ends}{ks:List DK}{ds:List L3.D}(mk:L3.D->Sl)(P0:Gd->V->Prop)(L:∀(g:Gd)(M T:Addr->Prop)(H:Hp)(v:V)(d:L3.D),SlOk g M T H v (mk d)↔Is H T d v/\P0 g v)(N:∀d,(mk d).QH=true)
 (s1:Snd X.mg E tk fk) (s2:Snd X.mg E tv fv) (O:Rep g M ρ env σ H) (hq:env[i]?=some (some (mk (.cU ks ds)))) (p:PostS X.mg E g M H D ((fv env).bind (DF mk i fk env ks ds))):CD (aI i) tk tv D σ H:=by
 have hi:i<env.length:=(TL.mp hq).1;refine s2.sr O p λr v M1 H1 e1 P ro p1=>?_;obtain⟨M1',x1,x1m,l,is1⟩:=ro.is P e1 O.same;unfold DF at p1;by_cases Y:r.d.flat=true
 .rw[Tv Y]at p1;obtain⟨va,ev,ka⟩:=l.slot i _ hq;obtain⟨ka,G⟩:=(L g M1' (ρ i) H1 va (.cU ks ds)).mp ka;obtain⟨a,vs,rfl,⟨dat,Z⟩,Q⟩:=ka;refine⟨.ref a,ev,s1.sr l (PostS.aZ ⟨x1m,λ_ _ q _=>q⟩ p1) λrk y M2 m e2 S rok p2=>?_⟩;obtain⟨U,x2,x2m,s,is2⟩:=rok.is S e2 l.same;unfold DE at p2;cases qk:ga rk.d with
  |none=>rw[qk]at p2;exact p2.elim
  |some x=>
   rw[qk]at p2;dsimp only at p2;by_cases K:ks.all (lT x)=true/\ks.length<lim
   .rw[Tv K]at p2;have n:DAt m a ks vs:=dat.keep λo e=>e2.h _ _ e;have w:IsAll m (ρ i) ds vs:=Q.same e2.h;have hv2:Is m (ρ i) r.d v:=Is.flat Y (is1.same e2.h);have kd:Is m (ρ i) (.cU ks ds) (.ref a):=⟨a,vs,rfl,⟨n,Z⟩,w⟩;have c:IsAll m (λb=>ρ i b/\b≠a) ds vs:=IsAll.avoid kd (by simp only[L3.D.sz];lia) w;have A:Is m (λb=>ρ i b/\b≠a) r.d v:=Is.flat Y hv2;have F:∀o u,m a≠some (.aZ o u):=λo u z=>by obtain⟨_,_,uo,q,qm⟩:=s.b8 i a Z;rw[z]at q;cases q;exact qm
    obtain⟨uo,huo,hmo⟩:=n.mu F;have B:∀u,Rd m a u->m a=some u:=λu z=>z.elim id λ⟨o,z⟩=>(F _ _ z).elim;have nfx:∀u,m a=some u->¬iA u:=λu e z=>by rw[huo]at e;cases e;cases uo<;>first|exact z|exact hmo
    have C:∀(u':HO)(j:List DK)(f:List L3.D)(vs':List V),Kn u'->DAt (aP m a u') a j vs'->ke ks ds x r.d=.cU j f->IsAll m (λb=>ρ i b/\b≠a) f vs'->D.nx σ (aP m a u'):=λu' j f vs' hu' hd he I=>by
     rw[he]at p2;have J:IsAll (aP m a u') (ρ i) f vs':=I.mono (λb u q z=>by
      rw[af]
      .exact q
      .rintro rfl;rcases z with z|z
       .exact z.2 rfl
       .exact nfx u q z) λ_ _ _ z=>z.1
     obtain⟨f1,W⟩:=s.Fj (u':=u') hu' Z hi ev (sl:=mk (.cU j f)) ((L g U (ρ i) _ _ _).mpr ⟨⟨a,vs',rfl,⟨hd,Z⟩,J⟩,G⟩) (N _);exact p2 σ U ρ _ (l7.trans ⟨x2m,λ_ _ q _=>q⟩ f1) W
    refine⟨a,?_⟩;rcases is2.ga qk with⟨k0,rfl,rfl⟩|⟨k0,b,rfl,rfl,hb⟩
    .rcases n with⟨kvs,e1,rfl,rfl⟩|⟨kvs,e1,rfl,rfl⟩
     .obtain⟨j,f,g1,g2,g3⟩:=zE Sum.inl (λ_ _ z=>Xf z) (k:=k0) c A;refine⟨_,rfl,.inl (DPut.k (B _ e1) (by have:=K.2;rw[TN]at this;exact ui this)),C _ j f _ True.intro (.inl ⟨_,.inl ag,g2,rfl⟩) g1 g3⟩
     .cases kvs with
      |nil=>
       cases ds with
       |nil=>exact⟨_,rfl,.inr (.inl ⟨B _ e1,k0,rfl,rfl⟩),C (.dK [(k0,v)]) [.inl k0] [r.d] [v] True.intro (.inl ⟨_,.inl ag,rfl,rfl⟩) rfl ⟨v,[],rfl,A,rfl⟩⟩
       |cons d0 ds0=>obtain⟨_,_,z,_⟩:=c;cases z
      |cons q r0=>simp[lT]at K
    .rcases n with⟨kvs,e1,rfl,rfl⟩|⟨kvs,e1,rfl,rfl⟩
     .cases kvs with
      |nil=>
       cases ds with
       |nil=>exact⟨_,rfl,.inr (.inr ⟨B _ e1,b,k0,rfl,hb,rfl⟩),C (.dT [(k0,v)]) [.inr k0] [r.d] [v] True.intro (.inr ⟨_,.inl ag,rfl,rfl⟩) rfl ⟨v,[],rfl,A,rfl⟩⟩
       |cons d0 ds0=>obtain⟨_,_,z,_⟩:=c;cases z
      |cons q r0=>simp[lT]at K
     .obtain⟨j,f,g1,g2,g3⟩:=zE Sum.inr (λ_ _ z=>Xg z) (k:=k0) c A;refine⟨_,rfl,.inl (DPut.t (B _ e1) hb (by have:=K.2;rw[TN]at this;exact ui this)),C _ j f _ True.intro (.inr ⟨_,.inl ag,g2,rfl⟩) g1 g3⟩
   .rw[TJ K]at p2;exact p2.elim
 .rw[TJ Y]at p1;exact p1.elim
def zF(f:X.A.units+64<cLine)(b:PE X o (aI i))(c:PD X E ki fk)(d:PD X E value fv)
 (hs:autoParam (swapsWith value (some (.Subscript o ki pos')) pos.line X.env=pure false) ae):A3 X E (.Assign [.Subscript o ki pos'] value pos) (tp i fk fv):=by
 obtain⟨tk,p1,s1⟩:=c;obtain⟨h,p2,s2⟩:=d;refine⟨_,CF (by lia) b p1 p2 hs,λg M j env σ H D a p=>?_⟩;unfold tp at p;split at p
 .rename_i ks ds e;exact DG .g9 (λ_ _=>True) (λ_ _ _ _ _ _=>⟨λz=>⟨z,True.intro⟩,λz=>z.1⟩) (λ_=>rfl) s1 s2 a e p
 .exact p.elim
def KO:R->R->Res R:=oI (λ_ j=>decide (0<=j)) λi j=>.int (i/2^j.toNat)
def DH:R->R->Res R:=oI (λ_ _=>true) λi j=>.int (Builtin.bitAnd i j)
def KP:rE X E (binaryOp .RShift) KO:=sX _ _ JW (λi j h=>by grind) λ_ _ _ _=>rfl
def GF:rE X E (binaryOp .BitAnd) DH:=uj _ JX λ_ _ _ _=>rfl
def uy:List R->Res R
 |[r]=>match r.d with
  |.lst ds=>.ok (jJ (.tup ds) r.fr r.al)
  |.tup ds=>.ok (jJ (.tup ds) r.fr r.al)
  |_=>.stuck
 |_=>.stuck
def DI:iT X E (.type "tuple") uy:=by
 refine⟨_,rK,λg M h env σ H Q rs vs c i p=>?_⟩;rcases rs with _|⟨r,_|_⟩
 .exact p.elim
 rotate_left
 .exact p.elim
 obtain⟨v,w,rfl,b,j⟩:=i;cases j;have b:Is H (vmsk g M (bM [r]) h (cn [r])) r.d v:=b;replace b:=b.weak λ_ z=>zv z;unfold uy at p;dsimp only at p;cases q:r.d with
 |lst ds=>rw[q]at p b;obtain⟨a,ws,rfl,h1,f⟩:=b.rd;exact⟨a,ws,rfl,.inl ⟨.inl h1,λl k=>p.tup c k f⟩⟩
 |tup ds=>rw[q]at p b;have e:=b;obtain⟨a,ws,rfl,h1,f⟩:=b;exact⟨a,ws,rfl,.inr ⟨SqT.of h1,p.val c e⟩⟩
 |_=>rw[q]at p;exact p.elim
end
def getD:List DK->List D->DK->Option D
 |k'::ks,d::ds,k=>if k'=k then some d else getD ks ds k
 |_,_,_=>none
def qE(ra rk:R):Res R:=match ra.d with
 |.cU ks ds=>match ga rk.d with
  |some x=>if ks.all (lT x)then(match getD ks ds x with
   |some d=>.ok (jJ d ra.fr ra.al)
   |none=>.stuck)else .stuck
  |none=>.stuck
 |_=>.stuck
theorem o_{κ:Type}[DecidableEq κ](inj:κ->DK)(f:∀a b,inj a=inj b->a=b){H:Hp}{m:Addr->Prop}{k:κ}{d:D}:∀{kvs:List (κ×V)}{ds:List D},IsAll H m ds (kvs.map Prod.snd)->getD (kvs.map λp=>inj p.1) ds (inj k)=some d->∃v,cS kvs k=some v/\Is H m d v
 |[],ds,_,e=>by cases ds<;>cases e
 |p::r,[],h,e=>by cases h
 |p::r,j::ds,h,e=>by
  obtain⟨l,n,z,g,i⟩:=h;cases z;rw[Tw]at e;unfold getD at e;by_cases c:p.1=k
  .rw[Tv (Vv inj c)]at e;cases e;exact⟨p.2,gz c,g⟩
  .rw[TJ (λz=>c (f _ _ z))]at e;obtain⟨v,e1,e2⟩:=o_ inj f i e;exact⟨v,by rw[gA c];exact e1,e2⟩
section
variable{X:Cx}{E:XK}
def zG(C:X.A.units+64<cLine)(t:PD X E o fa)(u:PD X E k fk)(hs:Ka k):PD X E (.Subscript o k pos) (v2 qE fa fk):=by
 obtain⟨ta,p1,s1⟩:=t;obtain⟨tk,p2,s2⟩:=u;refine⟨_,za (by lia) p1 p2 hs,λg M D env σ H Q j p=>s1.B0 s2 j p λra rk x y M1 F c m w q=>?_⟩;unfold qE at q;cases n:ra.d with
 |cU ks ds=>
  rw[n]at q m;dsimp only at q;cases l:ga rk.d with
  |none=>rw[l]at q;exact q.elim
  |some s=>
   rw[l]at q;dsimp only at q;by_cases i:ks.all (lT s)=true
   .rw[Tv i]at q;obtain⟨a,vs,rfl,⟨h,_⟩,e⟩:=m;cases f:getD ks ds s with
    |none=>rw[f]at q;exact q.elim
    |some d=>
     rw[f]at q;refine⟨a,?_⟩;rcases w.ga l with⟨k0,rfl,rfl⟩|⟨k0,b,rfl,rfl,B⟩
     .rcases h with⟨kvs,e1,rfl,rfl⟩|⟨kvs,e1,rfl,rfl⟩
      .obtain⟨v,g1,g2⟩:=o_ Sum.inl (λ_ _ z=>Xf z) e f;exact⟨v,rfl,by rw[<- g1];exact .inl ⟨kvs,k0,e1,rfl,rfl⟩,q.val c g2⟩
      .cases kvs with
       |nil=>cases ds<;>cases f
       |cons p r=>simp[lT]at i
     .rcases h with⟨kvs,e1,rfl,rfl⟩|⟨kvs,e1,rfl,rfl⟩
      .cases kvs with
       |nil=>cases ds<;>cases f
       |cons p r=>simp[lT]at i
      .obtain⟨v,g1,g2⟩:=o_ Sum.inr (λ_ _ z=>Xg z) e f;exact⟨v,rfl,by rw[<- g1];exact .inr ⟨kvs,k0,b,e1,rfl,B,rfl⟩,q.val c g2⟩
   .rw[TJ i]at q;exact q.elim
 |_=>rw[n]at q;exact q.elim
def KQ(ra:R)(ks:List DK)(ds:List D)(rk a:R):Res R:=match ga rk.d with
 |some x=>if ks.all (lT x)then(match getD ks ds x with
  |some d=>.ok (jJ d ra.fr ra.al)
  |none=>.ok (jJ a.d a.fr a.al))else .stuck
 |none=>.stuck
def Rz(fx:En->Res R)(env:En)(ra:R)(ks:List DK)(ds:List D)(rk:R):Res R:=(fx env).bind (KQ ra ks ds rk)
def Oh(fk fx:En->Res R)(env:En)(ra:R):Res R:=match ra.d with
 |.cU ks ds=>(fk env).bind (Rz fx env ra ks ds)
 |_=>.stuck
def mC(fa fk fx:En->Res R):En->Res R:=λenv=>(fa env).bind (Oh fk fx env)
def DAt.SQ(h:DAt H a ks vs):Ij H a:=h.imp (λ⟨kvs,e,_⟩=>⟨kvs,e⟩) λ⟨kvs,e,_⟩=>⟨kvs,e⟩
theorem zH:∀{ks:List DK}{ds:List D}{k:DK},ks.length=ds.length->nN ks k=(getD ks ds k).isSome
 |[],ds,k,_=>by cases ds<;>rfl
 |k'::ks,[],k,h=>by cases h
 |k'::ks,d::ds,k,h=>by
  have a:=zH (ks:=ks) (ds:=ds) (k:=k) (by simpa using h);unfold nN getD;unfold nN at a;rw[VF];by_cases e:k'=k
  .rw[Tv e,T4 e];rfl
  .rw[TJ e,Uc e,Xc];exact a
def wl(h:DAt H a ks vs)(c:IsAll H m ds vs)(n:Is H m' d x)(e:L3.ga d=some k)(i:ks.all (lT k)=true) :
 ∃o,oB H a x o/\(match getD ks ds k with|some d=>∃v,o=some v/\Is H m d v|none=>o=none):=by
 have key:∀{κ:Type} [DecidableEq κ] (inj:κ->DK) (f:∀a b,inj a=inj b->a=b) (kvs:List (κ×V)) (k0:κ),IsAll H m ds (kvs.map Prod.snd)->(match getD (kvs.map λp=>inj p.1) ds (inj k0)with|some d=>∃v,cS kvs k0=some v/\Is H m d v|none=>cS kvs k0=none):=by
  intro κ _ inj f kvs k0 j;have s:(kvs.map λp=>inj p.1).length=ds.length:=by have:=j.length;rw[TN]at this ⊢;exact this
  have h1:=zH (k:=inj k0) s;have g:=qD (kvs:=kvs) inj f k0;cases q:getD (kvs.map λp=>inj p.1) ds (inj k0)with
  |some d=>exact o_ inj f j q
  |none=>
   rw[q]at h1;rw[h1]at g;cases z:cS kvs k0 with
   |none=>rfl
   |some v=>rw[z]at g;cases g
 rcases n.ga e with⟨k0,rfl,rfl⟩|⟨k0,b,rfl,rfl,l⟩
 .rcases h with⟨kvs,e1,rfl,rfl⟩|⟨kvs,e1,rfl,rfl⟩
  .exact⟨_,.inl (.inl ⟨kvs,k0,e1,rfl,rfl⟩),key Sum.inl (λ_ _ z=>Xf z) kvs k0 c⟩
  .cases kvs with
   |nil=>exact⟨none,.inr (.inl ⟨e1,⟨k0,rfl⟩,rfl⟩),by cases ds<;>rfl⟩
   |cons p r=>simp[lT]at i
 .rcases h with⟨kvs,e1,rfl,rfl⟩|⟨kvs,e1,rfl,rfl⟩
  .cases kvs with
   |nil=>exact⟨none,.inr (.inr ⟨e1,⟨b,k0,rfl,l⟩,rfl⟩),by cases ds<;>rfl⟩
   |cons p r=>simp[lT]at i
  .exact⟨_,.inl (.inr ⟨kvs,k0,b,e1,rfl,l,rfl⟩),key Sum.inr (λ_ _ z=>Xg z) kvs k0 c⟩
def uz(S:X.A.units+64<cLine)(G:PD X E o fa)(I:PD X E k fk)(J:PD X E x fx)(m:M2 X o "get" apos k x cpos):PD X E (.Call (.Attribute o "get" apos) [k,x] [] cpos) (mC fa fk fx):=by
 obtain⟨ta,p1,s1⟩:=G;obtain⟨tk,p2,s2⟩:=I;obtain⟨T,p3,K⟩:=J;refine⟨_,AM (by lia) p1 p2 p3 m,λg M L env σ H Q r p=>s1.fL r p λra v M1 U e1 i u q1=>?_⟩;unfold Oh at q1;cases w:ra.d with
 |cU ks ds=>
  rw[w]at q1 u;dsimp only at q1;obtain⟨a,vs,rfl,⟨j,ma⟩,l⟩:=u;refine⟨a,rfl,j.SQ,s2.fL i q1 λrk y M2 V e2 n N q2=>?_⟩;refine K.fL n q2 λW z O B e3 c P b=>?_;unfold KQ at b;cases s:ga rk.d with
  |none=>rw[s]at b;exact b.elim
  |some C=>
   rw[s]at b;dsimp only at b;by_cases t:ks.all (lT C)=true
   .rw[Tv t]at b;have q:DAt B a ks vs:=j.keep λo e=>e3.h _ _ (e2.h _ _ e);have f:IsAll B (vmsk g O ra.fr L ra.al) ds vs:=(l.ext e2).ext e3;obtain⟨D,g1,g2⟩:=wl q f (N.ext e3) s t;refine⟨D,g1,?_⟩;cases F:getD ks ds C with
    |some d=>rw[F]at b g2;obtain⟨v,rfl,R⟩:=g2;exact b.val c R
    |none=>rw[F]at b g2;have g2:D=none:=g2;subst g2;exact b.val c P
   .rw[TJ t]at b;exact b.elim
 |_=>rw[w]at q1;exact q1.elim
end
noncomputable def fG:List D->Option (List Int)
 |[]=>some []
 |.int i::r=>(fG r).map (i::·)
 |_::_=>none
def GG:D->Option (List Int)
 |.tup ds=>fG ds
 |_=>none
def dH:List D->Option (List (List Int))
 |[]=>some []
 |d::r=>match GG d,dH r with
  |some k,some ks=>some (k::ks)
  |_,_=>none
noncomputable def iV(k:List Int):D:=.tup (k.map .int)
def rS(k:List Int):List (List Int)->List (List Int)
 |[]=>[k]
 |h::t=>if k=h then h::t else if dj k h then k::h::t else h::rS k t
def eJ:List (List Int)->List (List Int)
 |[]=>[]
 |k::ks=>rS k (eJ ks)
def GH(N:Nat)(r:R):Res R:=match r.d with
 |.lst ds=>match dH ds with
  |some ks=>if decide (ds.length<=N)&&ks.all (λk=>!k.isEmpty)then .ok (.new ((eJ ks).map iV) true)else .stuck
  |none=>.stuck
 |_=>.stuck
def IA(r:R):Res R:=GH 63 r
def RA(f:En->Res R):En->Res R:=λenv=>(f env).bind IA
theorem uA(k x:List Int):∀l,x∈rS k l↔x=k\/x∈l
 |[]=>by simp[rS]
 |h::t=>by
  unfold rS;split
  .rename_i e;subst e;simp
  .split
   .simp
   .rw[TH,uA k x t,TH]
    grind
theorem DJ(k:List Int):∀l,l.Pairwise (λx y=>dj x y=true)->(rS k l).Pairwise (λx y=>dj x y=true)
 |[],_=>List.pairwise_singleton _ _
 |h::t,p=>by
  obtain⟨p1,p2⟩:=UC.mp p;unfold rS;split
  .exact p
  .rename_i b;split
   .rename_i a;refine UC.mpr ⟨λy c=>?_,p⟩
    grind [ub]
   .rename_i a;refine UC.mpr ⟨λy c=>?_,DJ k t p2⟩
    grind [uA,uc]
theorem iW(x:List Int):∀ks,x∈eJ ks↔x∈ks
 |[]=>by simp[eJ]
 |k::ks=>by unfold eJ;rw[uA,iW x ks,TH]
theorem pd:∀ks,(eJ ks).Pairwise (λx y=>dj x y=true)
 |[]=>List.Pairwise.nil
 |k::ks=>by unfold eJ;exact DJ k _ (pd ks)
def DM(h:dj a b=true):dj b a=false:=by grind [dj,ub,mo]
theorem lU:∀(a b:List (List Int)),a.Pairwise (λx y=>dj x y=true)->b.Pairwise (λx y=>dj x y=true)->(∀x,x∈a↔x∈b)->a=b
 |[],[],_,_,_=>rfl
 |[],y::b,_,_,h=>by have:=(h y).mpr TF;simp at this
 |x::a,[],_,_,h=>by have:=(h x).mp TF;simp at this
 |x::a,y::b,d,f,h=>by
  obtain⟨g,i⟩:=UC.mp d;obtain⟨j,k⟩:=UC.mp f;have c:x=y:=by
   rcases TH.mp ((h x).mp TF)with e|e
   .exact e
   .rcases TH.mp ((h y).mpr TF)with e'|e'
    .exact e'.symm
    .have:=DM (g y e');rw[j x e]at this;cases this
  subst c;rw[lU a b i k λz=>?_]
  grind [mo]
section
variable{H:Hp}{m:Addr->Prop}
theorem IsAll.ints:∀{ds:List D}{vs:List V}{k:List Int},IsAll H m ds vs->fG ds=some k->vs=(iK k).map kV
 |[],_,_,h,e=>by cases h;cases e;rfl
 |d::ds,_,k,h,e=>by
  obtain⟨v,r,rfl,h1,a⟩:=h;cases d with
  |int i=>unfold fG at e;obtain⟨b,e1,rfl⟩:=UF.mp e;rw[IsAll.ints a e1,show v=V.int i from h1];rfl
  |_=>cases e
theorem qF:∀(k:List Int),IsAll H m (k.map .int) ((iK k).map kV)
 |[]=>rfl
 |i::k=>⟨.int i,_,rfl,rfl,qF k⟩
theorem IsAll.dH:∀{ds:List D}{vs:List V}{ks:List (List Int)},IsAll H m ds vs->L3.dH ds=some ks->∃its:List jI,TupsIn H vs its/\its.map (·.1)=ks
 |[],_,_,h,e=>by cases h;cases e;exact⟨[],.nil,rfl⟩
 |d::ds,_,ks,h,e=>by
  obtain⟨v,r,rfl,h1,b⟩:=h;unfold L3.dH at e;cases q:GG d with
  |none=>rw[q]at e;cases e
  |some k=>
   cases q2:L3.dH ds with
   |none=>rw[q,q2]at e;cases e
   |some c=>
    rw[q,q2]at e;cases e;obtain⟨its,f,g⟩:=IsAll.dH b q2;cases d with
    |tup es=>obtain⟨a,ws,rfl,g1,g2⟩:=h1;have q:fG es=some k:=q;rw[IsAll.ints g2 q]at g1;exact⟨(k,a)::its,.cons ⟨rfl,g1⟩ f,by grind⟩
    |_=>cases q
end
def ym(t:TupsIn H vs its):vs.length=its.length:=by
 unfold TupsIn at t;induction t with
 |nil=>rfl
 |cons _ _ a=>rw[T2,T2,a]
def tq(t:TupsIn H vs its):∀x∈its,H x.2=some (.tup ((iK x.1).map kV)):=by
 unfold TupsIn at t;induction t with
 |nil=>exact λx hx=>nomatch hx
 |cons q _ a=>
  intro x hx;rcases TH.mp hx with rfl|hx
  .exact q.2
  .exact a x hx
theorem kf:∀{a:List jI},(∀y∈a,H y.2=some (.tup ((iK y.1).map kV)))->IsAll H m (a.map (iV ∘ λy=>y.1)) (a.map λy=>.ref y.2)
 |[],_=>rfl
 |y::a,h=>⟨.ref y.2,_,rfl,⟨y.2,_,rfl,h y TF,qF y.1⟩,kf λz hz=>h z (TB _ hz)⟩
section
variable{X:Cx}{E:XK}
def rT(hN:N<=300)(I:mq X.prog X.w N)(hc:X.calm=true)(hu:X.A.units+64<cLine)(h:PD X E e f)
 (J:Gl X x1) (K:X.mg x1=none) (L:bootBuiltins x1=some (.builtin "sorted")) (O:Gl X x2) (P:X.mg x2=none) (R:bootBuiltins x2=some (.type "set"))
 (S:autoParam (x1≠"__name__") am) (o:autoParam ((x1==("__debug__" : Str))=false) am) (T:autoParam (x2≠"__name__") am) (q:autoParam ((x2==("__debug__" : Str))=false) am)
 (s:autoParam (starEach [e] X.env=(false,eval e X.env)::starEach [] X.env) ae) (u:autoParam ((backTo pos2 (starEach [] X.env)).any (·.1)=false) ae)
 (B:autoParam (starEach [.Call (.Name x2 p2) [e] [] pos2] X.env=(false,eval (.Call (.Name x2 p2) [e] [] pos2) X.env)::starEach [] X.env) ae) (C:autoParam ((backTo pos1 (starEach [] X.env)).any (·.1)=false) ae) :
 PD X E (.Call (.Name x1 p1) [.Call (.Name x2 p2) [e] [] pos2] [] pos1) (λenv=>(f env).bind (GH N)):=by
 obtain⟨t,p1,s1⟩:=h;refine⟨_,cW (ud hc hN I) J K L (ah (nz (AS hc hu) O P R (ah p1 aC s) T q s u) aC B) S o B C,λg M ρ env σ H Q U p=>?_⟩;refine s1.fL U p λr v M1 D e1 i i1 q1=>?_;unfold GH at q1;cases qd:r.d with
 |lst ds=>
  rw[qd]at q1 i1;dsimp only at q1;cases V:dH ds with
  |none=>rw[V]at q1;exact q1.elim
  |some ks=>
   rw[V]at q1;dsimp only at q1;by_cases c:(decide (ds.length<=N)&&ks.all (λk=>!k.isEmpty))=true
   .rw[Tv c]at q1;simp only[Um,Vg,UK]at c;obtain⟨m,W⟩:=c;obtain⟨a,vs,rfl,h1,h2⟩:=i1.rd;obtain⟨its,Y,t2⟩:=h2.dH V;have F:vs.length<=N:=by rw[h2.length];exact m
    have n:=tq Y;refine⟨a,vs,its,rfl,h1,Y,Ua F hN,λb es hb v=>?_⟩;refine⟨b,es,its,rfl,ag,v,λx j=>?_,λx j z=>?_,by rw[<- ym Y];exact F,λl ys m so=>?_⟩
    .rw[af (ai (n x j) hb)];exact n x j
    .have:x.1∈ks:=by rw[<- t2];exact TV.mpr ⟨x,j,rfl⟩
     have:=W _ this;rw[z]at this;simp at this
    .have Z:l≠b:=λz=>by rw[z,ag]at m;cases m
     have G:D l=none:=by rw[af Z]at m;exact m
     have sm1:Same D (aP D b (.ext λh=>SetAt X.w h b es)):=aK hb;have sm2:Same (aP D b (.ext λh=>SetAt X.w h b es)) (aP (aP D b (.ext λh=>SetAt X.w h b es)) l (.lst (ys.map λy=>.ref y.2))):=aK m;have sm:=sm1.trans sm2;obtain⟨z0,zm,zo⟩:=i.free G;refine q1 _ M1 _ ⟨λ_ z=>z,sm,λ_ z=>.inl z⟩ (i.grow sm) ⟨l,_,rfl,ag,zm,G,zo,?_⟩;have ek:ys.map (·.1)=eJ ks:=by
      refine lU _ _ ?_ (pd ks) λk=>?_
      .rw[VN];exact so.pw
      .rw[iW,<- t2];constructor
       .intro hk;obtain⟨y,hy,rfl⟩:=TV.mp hk;exact TV.mpr ⟨y,so.sub y hy,rfl⟩
       .intro hk;obtain⟨x,j,rfl⟩:=TV.mp hk;obtain⟨y,y1,y2⟩:=so.all x j;exact TV.mpr ⟨y,y1,y2⟩
     rw[<- ek,T7];exact kf (λx j=>sm _ _ (n x (so.sub x j)))
   .rw[TJ c]at q1;exact q1.elim
 |_=>rw[qd]at q1;exact q1.elim
def uB(r:X.calm=true)(s:X.A.units+64<cLine)(h:PD X E e f)
 (g:Gl X x1) (i:X.mg x1=none) (j:bootBuiltins x1=some (.builtin "sorted")) (k:Gl X x2) (l:X.mg x2=none) (m:bootBuiltins x2=some (.type "set"))
 (n:autoParam (x1≠"__name__") am) (a:autoParam ((x1==("__debug__" : Str))=false) am) (o:autoParam (x2≠"__name__") am) (b:autoParam ((x2==("__debug__" : Str))=false) am)
 (p:autoParam (starEach [e] X.env=(false,eval e X.env)::starEach [] X.env) ae) (c:autoParam ((backTo pos2 (starEach [] X.env)).any (·.1)=false) ae)
 (q:autoParam (starEach [.Call (.Name x2 p2) [e] [] pos2] X.env=(false,eval (.Call (.Name x2 p2) [e] [] pos2) X.env)::starEach [] X.env) ae) (d:autoParam ((backTo pos1 (starEach [] X.env)).any (·.1)=false) ae) :
 PD X E (.Call (.Name x1 p1) [.Call (.Name x2 p2) [e] [] pos2] [] pos1) (RA f):=rT (Nat.le_of_ble_eq_true rfl) zk r s h g i j k l m n a o b p c q d
end
section
variable{H H':Hp}{m m':Addr->Prop}
mutual
theorem Is.view(f:∀a vs,H a=some (.lst vs)->H' a=some (.lst vs))(g:∀a o vs,H a=some (.aZ o (.lst vs))->H' a=some (.aZ o (.lst vs)))(i:∀a vs,H a=some (.tup vs)->H' a=some (.tup vs))(hd:∀a u,iz u->Rd H a u->Rd H' a u)(b:∀a,m a->m' a):∀{d:D}{v:V},Is H m d v->Is H' m' d v
 |.bn,_,h=>h
 |.bl _,_,h=>h
 |.int _,_,h=>h
 |.str _,_,h=>h
 |.tup ds,_,h=>by obtain⟨a,vs,e,h1,c⟩:=h;exact⟨a,vs,e,i a _ h1,IsAll.view f g i hd b c⟩
 |.lst ds,_,h=>by
  obtain⟨a,vs,e,h1,c⟩:=h;refine⟨a,vs,e,?_,IsAll.view f g i hd b c⟩;rcases h1 with⟨h1,j⟩|⟨o,h1,j⟩
  .exact .inl ⟨f a _ h1,b a j⟩
  .exact .inr ⟨o,g a o _ h1,b a j⟩
 |.cU ks ds,_,h=>by obtain⟨a,vs,e,h1,c⟩:=h;refine⟨a,vs,e,⟨?_,b a h1.2⟩,IsAll.view f g i hd b c⟩;exact h1.1.imp (λ⟨kvs,e,r⟩=>⟨kvs,hd a _ True.intro e,r⟩) λ⟨kvs,e,r⟩=>⟨kvs,hd a _ True.intro e,r⟩
theorem IsAll.view(b:∀a vs,H a=some (.lst vs)->H' a=some (.lst vs))(c:∀a o vs,H a=some (.aZ o (.lst vs))->H' a=some (.aZ o (.lst vs)))(f:∀a vs,H a=some (.tup vs)->H' a=some (.tup vs))(hd:∀a u,iz u->Rd H a u->Rd H' a u)(g:∀a,m a->m' a):∀{ds:List D}{vs:List V},IsAll H m ds vs->IsAll H' m' ds vs
 |[],_,h=>h
 |d::ds,_,h=>by obtain⟨v,r,e,h1,i⟩:=h;exact⟨v,r,e,Is.view b c f hd g h1,IsAll.view b c f hd g i⟩
end
mutual
theorem IsSh.view(c:∀a vs,H a=some (.lst vs)->H' a=some (.lst vs))(f:∀a vs,H a=some (.tup vs)->H' a=some (.tup vs)):∀{d:D}{v:V},IsSh H m d v->IsSh H' m d v
 |.bn,_,h=>h
 |.bl _,_,h=>h
 |.int _,_,h=>h
 |.str _,_,h=>h
 |.tup ds,_,h=>by obtain⟨a,vs,e,h1,b⟩:=h;exact⟨a,vs,e,f a _ h1,IsShs.view c f b⟩
 |.lst ds,_,h=>by obtain⟨a,vs,e,h1,b⟩:=h;exact⟨a,vs,e,c a _ h1,b⟩
 |.cU _ _,_,h=>h
theorem IsShs.view(b:∀a vs,H a=some (.lst vs)->H' a=some (.lst vs))(c:∀a vs,H a=some (.tup vs)->H' a=some (.tup vs)):∀{ds:List D}{vs:List V},IsShs H m ds vs->IsShs H' m ds vs
 |[],_,h=>h
 |d::ds,_,h=>by obtain⟨v,r,e,h1,f⟩:=h;exact⟨v,r,e,IsSh.view b c h1,IsShs.view b c f⟩
end
end
section
variable{g:Gd}{M:Addr->Prop}{ρ:Pr}{env:En}{σ:St}{H:Hp}{d:Addr}{o:Obj}{u:HO}
open Classical in
def gJ(g:Gd)(d:Addr)(o:Obj)(u:HO):Gd:=⟨if g.H₀ d=none then g.H₀ else aP g.H₀ d (.aZ o u),g.Ma,λa=>g.Z a\/a=d,g.root,g.QK⟩
def mD(a:b≠d):(gJ g d o u).H₀ b=g.H₀ b:=by
 unfold gJ;dsimp only;split
 .rfl
 .exact af a
def cH(b:Addr):(gJ g d o u).H₀ b=none↔g.H₀ b=none:=by
 by_cases a:b=d
 .subst a;unfold gJ;dsimp only;split
  .exact Iff.rfl
  .rename_i h;rw[ag];exact⟨λz=>(by cases z),λz=>(h z).elim⟩
 .rw[mD a]
def GI(h:g.H₀ d≠none):(gJ g d o u).H₀ d=some (.aZ o u):=by unfold gJ;dsimp only;rw[TJ h,ag]
def tz(b:iz u)(hd:H d=some u):(∀a vs,H a=some (.lst vs)->a≠d)/\(∀a o vs,H a=some (.aZ o (.lst vs))->a≠d)/\∀a vs,H a=some (.tup vs)->a≠d:=by refine⟨λa vs e z=>?_,λa o vs e z=>?_,λa vs e z=>?_⟩<;>(subst z;rw[hd]at e;cases e;exact b)
def msk_still:fQ (gJ g d o u) M fr a↔fQ g M fr a:=by unfold fQ;rw[cH]
def Rep.xo(c:Rep g M ρ env σ H)(hd:H d=some u)(r:iz u)(s:M d):Rep (gJ g d o u) M ρ env σ (aP H d (.aZ o u)):=by
 obtain⟨k1,k2,k3⟩:=tz r hd;have l:∀a vs,H a=some (.lst vs)->aP H d (.aZ o u) a=some (.lst vs):=λa vs e=>by rw[af (k1 a vs e)];exact e
 have n:∀a j vs,H a=some (.aZ j (.lst vs))->aP H d (.aZ o u) a=some (.aZ j (.lst vs)):=λa j vs e=>by rw[af (k2 a j vs e)];exact e
 have m:∀a vs,H a=some (.tup vs)->aP H d (.aZ o u) a=some (.tup vs):=λa vs e=>by rw[af (k3 a vs e)];exact e
 have p:∀a u',iz u'->Rd H a u'->Rd (aP H d (.aZ o u)) a u':=λa u' t e=>by
  by_cases ha:a=d
  .subst ha;rcases e with e|⟨j,e⟩
   .rw[hd]at e;cases e;exact .inr ⟨o,ag⟩
   .rw[hd]at e;cases e;exact r.elim
  .exact nH e λj q=>by rw[af ha];exact q
 have pn:∀i a,ρ i a->a≠d:=λi a h z=>(c.b8 i a h).1 (z▸s);refine⟨λb x e=>?_,λa ha=>?_,λa ha=>(c.u9 a ha).imp (cH a).mpr id,λa ha w=>?_,λi sl e=>?_,λi a h=>?_,c.apart,c.ow,c.len,λa z=>?_⟩
 .by_cases f:b=d
  .subst f;have y:g.H₀ b≠none:=λz=>by rw[(cH b).mpr z]at e;cases e
   rw[GI y]at e;cases e;exact ag
  .rw[mD f]at e;rw[af f];exact c.same b x e
 .by_cases f:a=d
  .rw[f,ag];simp
  .rw[af f];exact c.jG a ha
 .by_cases f:a=d
  .rw[f];exact .inr ⟨.inr rfl,o,u,ag⟩
  .rcases c.fl a ha ((cH a).mp w)with q|⟨q,j,u',e⟩
   .exact .inl (q.same λj e=>by rw[af f];exact e)
   .exact .inr ⟨.inl q,j,u',by rw[af f];exact e⟩
 .obtain⟨v,A,k⟩:=c.slot i sl e;refine⟨v,A,?_⟩;cases sl with
  |val d' fr=>exact Is.view l n m p (λa z=>msk_still.mpr z) k
  |own ds fr=>obtain⟨a,vs,rfl,h1,B,C⟩:=k;exact⟨a,vs,rfl,l _ _ h1,B,IsAll.view l n m p (λa z=>msk_still.mpr z) C⟩
  |g9 d'=>exact Is.view l n m p (λa z=>z) k
  |B4 d'=>exact IsSh.view l m k
 .obtain⟨q1,q2,D⟩:=c.b8 i a h;exact⟨q1,(cH a).mpr q2,D.same λj e=>by rw[af (pn i a h)];exact e⟩
 .by_cases f:a=d
  .rw[f,ag];simp
  .rw[af f];exact c.zz a (z.resolve_right f)
def Rep.Ia(c:Rep (gJ g d o u) M ρ env σ H)(hd:H d=some (.aZ o u))(t:iz u)(w:M d)(y:∀x,g.H₀ d=some x->x=u):Rep g M ρ env σ (aP H d u):=by
 have A:∀a vs,H a=some (.lst vs)->a≠d:=λa vs e z=>by subst z;rw[hd]at e;cases e
 have B:∀a j vs,H a=some (.aZ j (.lst vs))->a≠d:=λa j vs e z=>by subst z;rw[hd]at e;cases e;exact t
 have C:∀a vs,H a=some (.tup vs)->a≠d:=λa vs e z=>by subst z;rw[hd]at e;cases e
 have m:∀a vs,H a=some (.lst vs)->aP H d u a=some (.lst vs):=λa vs e=>by rw[af (A a vs e)];exact e
 have p:∀a j vs,H a=some (.aZ j (.lst vs))->aP H d u a=some (.aZ j (.lst vs)):=λa j vs e=>by rw[af (B a j vs e)];exact e
 have n:∀a vs,H a=some (.tup vs)->aP H d u a=some (.tup vs):=λa vs e=>by rw[af (C a vs e)];exact e
 have r:∀a u',iz u'->Rd H a u'->Rd (aP H d u) a u':=λa u' s e=>by
  by_cases ha:a=d
  .subst ha;rcases e with e|⟨j,e⟩
   .rw[hd]at e;cases e;exact s.elim
   .rw[hd]at e;cases e;exact .inl ag
  .exact nH e λj q=>by rw[af ha];exact q
 have l:Mu (aP H d u) d:=⟨u,ag,by cases u<;>first|exact True.intro|exact t.elim⟩;have pn:∀i a,ρ i a->a≠d:=λi a h z=>(c.b8 i a h).1 (z▸w);refine⟨λb x e=>?_,λa ha=>?_,λa ha=>(c.u9 a ha).imp (cH a).mp id,λa ha D=>?_,λi sl e=>?_,λi a h=>?_,c.apart,c.ow,c.len,λa z=>?_⟩
 .by_cases f:b=d
  .subst f;rw[y x e,ag]
  .rw[af f];exact c.same b x (by rw[mD f];exact e)
 .by_cases f:a=d
  .rw[f];exact l.some
  .rw[af f];exact c.jG a ha
 .by_cases f:a=d
  .rw[f];exact .inl l
  .rcases c.fl a ha ((cH a).mpr D)with q|⟨q,j,u',e⟩
   .exact .inl (q.same λj e=>by rw[af f];exact e)
   .exact .inr ⟨q.resolve_right f,j,u',by rw[af f];exact e⟩
 .obtain⟨v,E,k⟩:=c.slot i sl e;refine⟨v,E,?_⟩;cases sl with
  |val d' fr=>exact Is.view m p n r (λa z=>msk_still.mp z) k
  |own ds fr=>obtain⟨a,vs,rfl,h1,F,G⟩:=k;exact⟨a,vs,rfl,m _ _ h1,F,IsAll.view m p n r (λa z=>msk_still.mp z) G⟩
  |g9 d'=>exact Is.view m p n r (λa z=>z) k
  |B4 d'=>exact IsSh.view m n k
 .obtain⟨q1,q2,I⟩:=c.b8 i a h;exact⟨q1,(cH a).mp q2,I.same λj e=>by rw[af (pn i a h)];exact e⟩
 .by_cases f:a=d
  .rw[f];exact l.some
  .rw[af f];exact c.zz a (.inl z)
end
noncomputable def kD:bm->D
 |.inl i=>.int i
 |.inr x=>.str x
def Oi(k:bm):Is H m (kD k) (kV k):=by cases k<;>exact rfl
noncomputable def Oj(t:List (bm×D)):D:=.cU (t.map λp=>.inl p.1) (t.map Prod.snd)
section
variable{H:Hp}{m:Addr->Prop}
def REK(H:Hp)(m:Addr->Prop):List (bm×V)->List (bm×D)->Prop:=Paired λa b=>a.1=b.1/\Is H m b.2 a.2
theorem REK.fst(r:REK H m a b):a.map Prod.fst=b.map Prod.fst:=by
 induction r with
 |nil=>rfl
 |cons h _ c=>rw[Tw,Tw,c,h.1]
theorem REK.snd(r:REK H m a b):IsAll H m (b.map Prod.snd) (a.map Prod.snd):=by
 induction r with
 |nil=>rfl
 |cons h _ c=>exact⟨_,_,rfl,h.2,c⟩
def GJ{b:Addr}{u:HO}{kvs:List (bm×V)}{t:List (bm×D)}(e:H b=some (.dK kvs))(r:REK H m kvs t)(a:m b):Is H m (Oj t) (.ref b):=by refine⟨b,_,rfl,⟨.inl ⟨kvs,.inl e,?_,rfl⟩,a⟩,r.snd⟩;have:=Vv (List.map λk:bm=>(Sum.inl k:DK)) r.fst;rw[T7,T7]at this;exact this.symm
end
section
variable{X:Cx}{E:XK}
def Rep.M9(c:Rep g M ρ env σ H)(h:H b=some u)(j:¬iA u)(l:¬M b)(no:∀i,¬ρ i b)(x:g.H₀ b=none):Rep g M ρ env σ (aP H b u'):=by
 have kp:∀a o,H a=some o->(M a\/iA o)->aP H b u' a=some o:=λa o e z=>by
  rw[af]
  .exact e
  .rintro rfl;rcases z with z|z
   .exact l z
   .rw[h]at e;cases e;exact j z
 have n:∀i a o,H a=some o->(ρ i a\/iA o)->aP H b u' a=some o:=λi a o e z=>by
  rw[af]
  .exact e
  .rintro rfl;rcases z with z|z
   .exact no i z
   .rw[h]at e;cases e;exact j z
 have ne:∀a,M a->a≠b:=λa z e=>l (e▸z);have f:∀i a,ρ i a->a≠b:=λi a z e=>no i (e▸z);refine⟨λa o e=>?_,λa z=>by rw[af (ne a z)];exact c.jG a z,c.u9,λa z q=>(c.fl a z q).same λo e=>by grind,λi sl e=>?_,λi a z=>?_,c.apart,c.ow,c.len,λa z e=>?_⟩
 .rw[af (λz=>by grind)];exact c.same a o e
 .obtain⟨v,p,k⟩:=c.slot i sl e;refine⟨v,p,?_⟩;cases sl with
  |val d fr=>exact Is.mono (λa o e z=>kp a o e (z.imp (·.1) id)) (λ_ _ _ z=>z) k
  |own ds fr=>obtain⟨a,vs,rfl,h1,m,r⟩:=k;exact⟨a,vs,rfl,by rw[af (f i a ((m a).mpr rfl))];exact h1,m,IsAll.mono (λa o e z=>kp a o e (z.imp (·.1) id)) (λ_ _ _ z=>z) r⟩
  |g9 d=>exact Is.mono (λa o e z=>n i a o e z) (λ_ _ _ z=>z) k
  |B4 d=>exact IsSh.mono (λa o e z=>kp a o e (.inr z)) (λa vs z e=>⟨vs,by grind⟩) (λ_ z=>z) k
 .obtain⟨s,t,w⟩:=c.b8 i a z;exact⟨s,t,w.same λo e=>by grind⟩
 .by_cases ha:a=b
  .subst ha;rw[ag]at e;cases e
  .rw[af ha]at e;exact c.zz a z e
def mE(rk a:R):Res R:=match DB rk.d with
 |some k=>if a.d.flat then .ok (.g8 (Oj [(k,a.d)]))else .stuck
 |none=>.stuck
def wn{k v:Expr}{fk r:En->Res R}{I:Pos}(W:PD X E k fk)(Y:PD X E v r):PD X E (.Dict [some k] [v] I) (v2 mE fk r):=by
 obtain⟨tk,p1,s1⟩:=W;obtain⟨tv,p2,s2⟩:=Y;refine⟨_,FX (Cy p1 p2 FW) rfl rfl (by simp) (by simp),λg M s env σ H Q i p b F=>?_⟩;have t:Same H (aP H b (.dK [])):=aK F;obtain⟨Z,zm,T⟩:=i.free F;have p:PostE X.mg E g M s env σ H Q ((fk env).bind λrk=>(r env).bind λq=>mE rk q):=p;refine s1 g M s env σ _ _ (i.grow t) ?_;cases J:fk env with
 |stuck=>rw[J]at p;exact p
 |exc c=>rw[J]at p;exact p
 |ok rk=>
  rw[J]at p;have p:PostE X.mg E g M s env σ H Q ((r env).bind λq=>mE rk q):=p;intro x M1 H1 e1 A K;obtain⟨L,x1,x1m,f,N⟩:=K.is A e1 (i.grow t).same;refine s2 g L s env σ H1 _ f ?_;cases qv:r env with
  |stuck=>rw[qv]at p;exact p
  |exc c=>rw[qv]at p;exact p
  |ok q=>
   rw[qv]at p;have p:PostE X.mg E g M s env σ H Q (mE rk q):=p;intro y M2 U e2 B O;obtain⟨C,D,x2m,j,P⟩:=O.is B e2 f.same;have l:U b=some (.dK []):=D.h _ _ (x1.h _ _ ag);have V:¬C b:=λz=>by
    rcases D.n b z with z|z
    .rcases x1.n b z with z|z
     .exact zm z
     .rw[ag]at z;cases z
    .rw[x1.h _ _ ag]at z;cases z
   unfold mE at p;cases S:DB rk.d with
   |none=>rw[S]at p;exact p.elim
   |some k=>
    rw[S]at p;dsimp only at p;by_cases G:q.d.flat=true
    .rw[Tv G]at p;have hx:x=kV k:=N.key S;refine⟨l,[(k,y)],by grind,by simp,?_⟩;have hs:Same H (aP U b (.dK (nB [] [(k,y)]))):=λa o e=>by rw[af (ai e F)];exact D.h _ _ (x1.h _ _ (t a o e))
     refine p (.ref b) C _ ⟨λa z=>D.m a (x1.m a z),hs,λa z=>?_⟩ (j.M9 l (λz=>z) V T Z) ⟨λa=>a=b,λa e=>(by subst e;exact⟨V,F,⟨_,ag,True.intro⟩,T⟩),GJ (u:=.dK []) ag ?_ rfl⟩
     .rcases D.n a z with z|z
      .exact(x1.n a z).imp id λw=>t.free w
      .exact .inr (t.free (x1.h.free z))
     .refine .cons ⟨rfl,Is.flat G (Is.mono (λa o e z=>?_) (λ_ _ _ z=>z) (Is.flat (m':=λ_=>False) G P))⟩ .nil;rw[af]
      .exact e
      .rintro rfl;rw[l]at e;cases e;exact z.elim id id
    .rw[TJ G]at p;exact p.elim
end
noncomputable abbrev QV:=Int×Int×Int
noncomputable def dd(l:List Int)(x:Int):List Int:=if x∈l then l else l++[x]
def Ol(xs:List Int):List Int:=xs.foldl dd []
def g1(ts:List QV):List Int:=Ol (ts.map (·.1))
def g2(ts:List QV)(x:Int):List Int:=Ol ((ts.filter λt=>decide (t.1=x)).map (·.2.1))
noncomputable def g3(ts:List QV)(x y:Int):List Int:=(ts.filter λt=>decide (t.1=x)&&decide (t.2.1=y)).map (·.2.2)
noncomputable def ik(i:Int):DK:=.inl (.inl i)
section
variable{X:Cx}
def S5(X:Cx)(Q:VK):VK:=λv H=>Q v H\/∃d o u,H d=some (.aZ o u)/\iz u/\(∀o v,X.H₀ d≠some (.aZ o v))/\Q v (aP H d u)
def Nn(X:Cx)(D:Ends):Ends where
 nx:=λσ H=>D.nx σ H\/∃d o u,H d=some (.aZ o u)/\iz u/\(∀o v,X.H₀ d≠some (.aZ o v))/\D.nx σ (aP H d u)
 rt:=S5 X D.rt
 bk:=D.bk
 ct:=D.ct
def yn{st:Stmt}(h:PS X st t):PS X st (λD σ H=>t (Nn X D) σ H):=by
 intro aa s σ H D I q;refine bR (h aa s σ H _ I q) λf j r=>?_;cases f with
 |next=>
  obtain⟨a,H',b,r⟩:=r;rcases r with r|⟨d,o,u,e,c,g,r⟩
  .exact⟨a,H',b,r⟩
  .exact⟨a,_,b.Jt e c g,r⟩
 |ret v=>
  obtain⟨x,a,H',b,i,r⟩:=r;rcases r with r|⟨d,o,u,e,c,g,r⟩
  .exact⟨x,a,H',b,i,r⟩
  .exact⟨x,a,_,b.Jt e c g,i,r⟩
 |brk=>exact r
 |cont=>exact r
end
section
variable{g:Gd}{M:Addr->Prop}{ρ:Pr}{env:En}{σ:St}{H H1 H':Hp}{d:Addr}{o:Obj}{u:HO}{m m':Addr->Prop}
def Is.SE(hd:H d=some (.aZ o u))(f:iz u)(i:∀a,m a->m' a)(h:Is H m x v):Is (aP H d u) m' x v:=by
 refine Is.view (λa vs e=>?_) (λa c vs e=>?_) (λa vs e=>?_) (λa u' b e=>?_) i h
 .rw[af (λz=>by subst z;rw[hd]at e;cases e)];exact e
 .rw[af (λz=>by subst z;rw[hd]at e;cases e;exact f)];exact e
 .rw[af (λz=>by subst z;rw[hd]at e;cases e)];exact e
 .by_cases ha:a=d
  .subst ha;rcases e with e|⟨c,e⟩
   .rw[hd]at e;cases e;exact b.elim
   .rw[hd]at e;cases e;exact .inl ag
  .exact nH e λc q=>by rw[af ha];exact q
def Is.xo(hd:H d=some u)(c:iz u)(f:∀a,m a->m' a)(h:Is H m x v):Is (aP H d (.aZ o u)) m' x v:=by
 obtain⟨k1,k2,k3⟩:=tz c hd;refine Is.view (λa vs e=>?_) (λa b vs e=>?_) (λa vs e=>?_) (λa u' i e=>?_) f h
 .rw[af (k1 a vs e)];exact e
 .rw[af (k2 a b vs e)];exact e
 .rw[af (k3 a vs e)];exact e
 .by_cases ha:a=d
  .subst ha;rcases e with e|⟨b,e⟩
   .rw[hd]at e;cases e;exact .inr ⟨o,ag⟩
   .rw[hd]at e;cases e;exact c.elim
  .exact nH e λb q=>by rw[af ha];exact q
theorem IsAll.Au:∀{ds:List D}{vs:List V}{P:D->V->Prop},(∀x v,Is H m x v->Is H' m' x v)->IsAll H m ds vs->IsAll H' m' ds vs
 |[],_,_,_,h=>h
 |d::ds,_,P,f,h=>by obtain⟨v,r,e,h1,a⟩:=h;exact⟨v,r,e,f _ _ h1,IsAll.Au (P:=P) f a⟩
def DN(a:Rep g M ρ env σ H1)(b:H1 d=some u):∀x,g.H₀ d=some x->x=u:=λx e=>by have:=a.same d x e;rw[b]at this;cases this;rfl
end
def nO:List DK->List D->Option (List D)
 |[],[]=>some []
 |.inl k::r,x::ds=>(nO r ds).map (.tup [kD k,x]::·)
 |_,_=>none
theorem wo:∀{kvs:List (bm×V)}{ds xs:List D},nO (kvs.map λp=>.inl p.1) ds=some xs->xs.length=kvs.length/\∀(i:Nat)(x:D),xs[i]?=some x->∃p y,kvs[i]?=some p/\ds[i]?=some y/\x=.tup [kD p.1,y]
 |[],[],_,e=>by cases e;exact⟨rfl,λi x e=>by simp at e⟩
 |[],_::_,_,e=>by cases e
 |_::_,[],_,e=>by cases e
 |p::r,y::ds,xs,e=>by
  rw[Tw]at e;unfold nO at e;obtain⟨h,e1,rfl⟩:=UF.mp e;obtain⟨l,f⟩:=wo e1;refine⟨by simp[l],λi x ex=>?_⟩;cases i with
  |zero=>simp at ex;subst ex;exact⟨p,y,rfl,rfl,rfl⟩
  |succ i=>obtain⟨d,g,a,b,c⟩:=f i x (by simpa using ex);exact⟨d,g,by simpa using a,by simpa using b,c⟩
def qG(hd:H d=some (.aZ o u))(is:IsAll H m ds (kvs.map Prod.snd))(e0:nO (kvs.map λp=>.inl p.1) ds=some xs):Walk (NU d o u kvs) m H xs:=by
 obtain⟨l,f⟩:=wo e0;refine⟨λH' i x k e=>?_,λH' k=>⟨k d _ hd (.inr True.intro),by rw[l];exact Tt _⟩⟩;have g:i<kvs.length:=by rw[<- l];exact(TL.mp e).1
 refine⟨⟨k d _ hd (.inr True.intro),g⟩,λy h z=>?_⟩;obtain⟨p,a,v,j,rfl,rfl,b⟩:=z;obtain⟨q,w,e1,e2,rfl⟩:=f i x e;rw[b]at e1;cases e1;have s:Same H' (aP H' p (.tup [kV a,v])):=aK j;obtain⟨r,c,n⟩:=(is.mono k λ_ _ _ z=>z:IsAll H' m ds (kvs.map Prod.snd)).get e2;rw[T3,b]at c;cases c;exact⟨s,p,_,rfl,ag,_,_,rfl,Oi a,_,_,rfl,n.same s,rfl⟩
def Bg(h:Is H m (.cU ks ds) v)(g:∀k∈ks,∃a,k=.inl a):∃d kvs u,v=.ref d/\m d/\(u=.dK kvs\/(u=.dT []/\kvs=[]))/\Rd H d u/\ks=kvs.map (λp=>.inl p.1)/\IsAll H m ds (kvs.map Prod.snd):=by
 obtain⟨d,vs,rfl,⟨c,f⟩,b⟩:=h;rcases c with⟨kvs,e,rfl,rfl⟩|⟨kvs,e,rfl,rfl⟩
 .exact⟨d,kvs,_,rfl,f,.inl rfl,e,rfl,b⟩
 .cases kvs with
  |nil=>exact⟨d,[],_,rfl,f,.inr ⟨rfl,rfl⟩,e,rfl,b⟩
  |cons p r=>obtain⟨a,i⟩:=g (.inr p.1) (by simp);cases i
theorem wq:∀{ks:List DK}{ds xs:List D},nO ks ds=some xs->∀k∈ks,∃a,k=.inl a
 |[],_,_,_,k,h=>by cases h
 |.inl a::r,x::ds,_,e,k,h=>by
  unfold nO at e;obtain⟨y,e1,_⟩:=UF.mp e;rcases TH.mp h with h|h
  .exact⟨a,h⟩
  .exact wq e1 k h
 |.inl _::_,[],_,e,_,_=>by cases e
 |.inr _::_,_,_,e,_,_=>by simp[nO]at e
def iE:Res Fl->Res Fl
 |.ok (.nx e)=>.ok (.nx e)
 |.ok (.rt r)=>if r.d.flat then .ok (.rt (.val r.d true []))else .stuck
 |_=>.stuck
def wt(asg:D->Bool->En->Option En)(a:En->Res Fl)(env:En)(r:R):Res Fl:=match r.d with
 |.cU ks ds=>match nO ks ds with
  |some xs=>iE (j7 asg r.fr a xs (aZ env r.al))
  |none=>.stuck
 |_=>.stuck
def zI(f:En->Res R)(asg:D->Bool->En->Option En)(a:En->Res Fl):En->Res Fl:=λenv=>(f env).bind (wt asg a env)
section
variable{X:Cx}{E:XK}{g:Gd}{M:Addr->Prop}{ρ:Pr}{env:En}{σ:St}{H:Hp}{D:Ends}{d:Addr}{o:Obj}{u:HO}
def yo(w:Rep g M ρ env σ H)(k:H d=some u)(q:iz u)(y:M d)(l:∀o v,X.H₀ d≠some (.aZ o v))(p:PostS X.mg E g M H D (iE r)):PostS X.mg E (gJ g d o u) M (aP H d (.aZ o u)) (Nn X D) r:=by
 have F:=DN w k;have G:∀{j:Addr->Prop}{H':Hp},l7 M (aP H d (.aZ o u)) j H'->l7 M H j (aP H' d u):=λ{j H'} f=>⟨f.m,λa x e z=>by
  by_cases ha:a=d
  .subst ha;rw[k]at e;cases e;exact ag
  .rw[af ha];exact f.h a x (by rw[af ha];exact e) z⟩
 cases r with
 |stuck=>exact p
 |exc c=>exact(show False from p).elim
 |ok r=>
  cases r with
  |nx e=>intro A j B H' f n;have i:H' d=some (.aZ o u):=f.h d _ ag (.inl y);exact .inr ⟨d,o,u,i,q,l,p A j B _ (G f) (n.Ia i q (f.m d y) F)⟩
  |bk e=>exact(show False from p).elim
  |ct e=>exact(show False from p).elim
  |rm r e=>exact(show False from p).elim
  |rt r=>
   unfold iE at p;by_cases t:r.d.flat=true
   .simp only[t,Vd]at p;intro v j H' f s _ fl;have i:H' d=some (.aZ o u):=f.h d _ ag (.inl y);have is:∀{m:Addr->Prop},Is (aP H' d u) m r.d v:=λ{m}=>Is.flat t (Is.SE (m':=m) i q (λ_ z=>z.elim) (fl t));refine .inr ⟨d,o,u,i,q,l,p v j _ (G f) (λb x e=>?_) (λ_=>is) λ_=>is⟩;by_cases C:b=d
    .subst C;rw[F x e];exact ag
    .rw[af C];exact s b x (by rw[mD C];exact e)
   .simp only[t]at p;exact(show False from p).elim
def wu(p:PostS X.mg E g M H D (iE r)):PostS X.mg E g M H (Nn X D) r:=by
 cases r with
 |stuck=>exact p
 |exc c=>exact(show False from p).elim
 |ok r=>
  cases r with
  |nx e=>exact λh i j H' f b=>.inl (p h i j H' f b)
  |bk e=>exact(show False from p).elim
  |ct e=>exact(show False from p).elim
  |rm r e=>exact(show False from p).elim
  |rt r=>
   unfold iE at p;by_cases a:r.d.flat=true
   .simp only[a,Vd]at p;exact λv i H' f s _ fl=>.inl (p v i H' f s (λ_=>Is.flat a (fl a)) λ_=>Is.flat a (fl a))
   .simp only[a]at p;exact(show False from p).elim
def wv(Q:PassesOwn (model X.prog X.w) X.A X.env X.xe)(R:X.calm=true)
 (S:PD X E l f) (T:Fp X ix (.Tuple es k0 u7) asg) (U:um X E body fb) (j:autoParam (attributeBase l "items" X.env (eval l X.env)=eval l X.env) ae) (k:autoParam ((apos.endLine==cpos.line)=true) ae)
 (hs:autoParam (∀x,foldedSetIterable (.Call (.Attribute l "items" apos) [] [] cpos) X.env x=pure x) ab):A3 X E (.For (.Tuple es k0 u7) (.Call (.Attribute l "items" apos) [] [] cpos) body [] pos) (zI f asg fb):=by
 obtain⟨Z,p1,s1⟩:=S;obtain⟨w,p2,s2⟩:=T;obtain⟨tb,p3,J⟩:=U;refine⟨_,yn (fM Q R (C4 p1 j k) p2 p3 hs),λg M ρ env σ H D m p=>?_⟩;refine s1.sr m p λr v V B e1 n ro K=>?_;obtain⟨M1,x1,C,h,F⟩:=ro.is n e1 m.same;obtain⟨M2,W,L,e,Y,_,_⟩:=Rep.aZ r.al h;have s:Is B (fQ g M2 r.fr) r.d v:=Is.frozen h L Y F;have b:=PostS.aZ (⟨λa z=>L a (C a z),λ_ _ q _=>q⟩ : l7 V B M2 B) K;clear K p;unfold wt at b;cases N:r.d with
 |cU ks ds=>
  rw[N]at b s;dsimp only at b;cases t:nO ks ds with
  |none=>rw[t]at b;exact b.elim
  |some xs=>
   rw[t]at b;dsimp only at b;obtain⟨d,kvs,u,rfl,y,O,c,rfl,i⟩:=Bg s (wq t);have y:M2 d:=y.1;have G:iz u:=by rcases O with rfl|⟨rfl,_⟩<;>exact True.intro
   refine⟨d,kvs,u,rfl,O,?_⟩;rcases c with c|⟨o,c⟩
   .right;refine⟨c,λo I=>qy (E:=E) (g:=gJ g d o u) (fr:=r.fr) (xs:=xs) s2 J (e.xo c G y) (qG ag ?_ t) (yo e c G y I b)⟩;exact IsAll.Au (P:=λ_ _=>True) (λx w=>Is.xo c G λ_ z=>msk_still.mpr z) i
   .left;exact⟨o,c,qy (E:=E) (g:=g) (fr:=r.fr) (xs:=xs) s2 J e (qG c i t) (wu b)⟩
 |_=>rw[N]at b;exact b.elim
end
open Classical in
section
variable{X:Cx}{E:XK}
def ph(rs:List R):Res R:=match rs.map R.d with
 |[.int j]=>if 0<=j/\j<=1000 then .ok (.new (fW 0 j.toNat) true)else .stuck
 |_=>.stuck
def Bh(q:X.calm=true)(f:Gl X "list") (h:X.mg "list"=none) (i:bootBuiltins "list"=some (.type "list")) (s:Gl X "range") (u:X.mg "range"=none) (ha:C9 X E [a] fs) (hs:autoParam (starEach [a] X.env=[(false,eval a X.env)]) ae)
 (m:autoParam (starEach [.Call (.Name "range" p2) [a] [] pos2] X.env=[(false,eval (.Call (.Name "range" p2) [a] [] pos2) X.env)]) ae):PD X E (.Call (.Name "list" p) [.Call (.Name "range" p2) [a] [] pos2] [] pos) (qp ph fs):=by
 obtain⟨t,p1,s1⟩:=ha;refine⟨_,AV q f h i s u p1 hs m,λg M z env σ H Q n p=>s1.fL n p λrs vs M1 A e1 b o q1=>?_⟩;unfold ph at q1;generalize rs.map R.d=ds at o q1;split at q1
 .rename_i j;obtain⟨v,w,rfl,k1,k2⟩:=o;cases k1;cases k2;by_cases c:0<=j/\j<=1000
  .rw[Tv c]at q1;refine⟨j,rfl,c.1,c.2,λl x=>?_⟩;have e:((List.range j.toNat).map λk=>(V.int (k:Nat)))=((List.range j.toNat).map λ(k:Nat)=>(V.int (0+(k:Nat)))):=U0 λk _=>by grind
   rw[e];refine q1.new b x ?_;unfold fW;generalize List.range j.toNat=l0;induction l0 with
   |nil=>exact rfl
   |cons k r y=>exact⟨_,_,rfl,rfl,y⟩
  .rw[TJ c]at q1;exact q1.elim
 .exact q1.elim
def yp(a e f:R):Res R:=match e,f with
 |.new b _,.new c _=>if a.d.flat/\D.bw b=true/\D.bw c=true then .ok (.g8 (.tup [a.d,.lst b,.lst c]))else .stuck
 |_,_=>.stuck
def RB(a b c:En->Res R):En->Res R:=λenv=>(a env).bind λd=>(b env).bind λe=>(c env).bind λf=>yp d e f
def Om(V:PD X E e0 f0)(h1:PD X E e1 f1)(W:PD X E e2 f2)(v:autoParam (starEach [e0,e1,e2] X.env=(false,eval e0 X.env)::starEach [e1,e2] X.env) ae)(x:autoParam (starEach [e1,e2] X.env=(false,eval e1 X.env)::starEach [e2] X.env) ae)(y:autoParam (starEach [e2] X.env=(false,eval e2 X.env)::starEach [] X.env) ae):PD X E (.Tuple [e0,e1,e2] k pos) (RB f0 f1 f2):=by
 obtain⟨t0,Y,s0⟩:=V;obtain⟨t1,p1,s1⟩:=h1;obtain⟨t2,p2,s2⟩:=W;refine⟨_,cv (ah Y (ah p1 (ah p2 aC y) x) v),λg M A env σ H Q B p=>?_⟩;have p:PostE X.mg E g M A env σ H Q ((f0 env).bind λC=>(f1 env).bind λF=>(f2 env).bind λG=>yp C F G):=p;refine s0.fL B p λC R Z S x0 q i0 f=>?_;refine s1 g Z A env σ S _ q ?_;cases l:f1 env with
 |stuck=>rw[l]at f;exact f
 |exc c=>rw[l]at f;exact f
 |ok F=>
  rw[l]at f;intro v1 M1 T x1 r I;refine s2 g M1 A env σ T _ r ?_;simp only[Res.ii]at f;cases m:f2 env with
  |stuck=>rw[m]at f;exact f
  |exc c=>rw[m]at f;exact f
  |ok G=>
   rw[m]at f;simp only[Res.ii]at f;intro v2 M2 J s t K;unfold yp at f;cases F with
   |val d fr al=>exact f.elim
   |g8 d=>exact f.elim
   |new d1 fr1=>
    cases G with
    |val d fr al=>exact f.elim
    |g8 d=>exact f.elim
    |new d2 fr2=>
     dsimp only at f;by_cases L:C.d.flat=true/\D.bw d1=true/\D.bw d2=true
     .rw[Tv L]at f;obtain⟨c0,c1,c2⟩:=L;obtain⟨i,U,rfl,g1,g2,g3,g4,g5⟩:=I;obtain⟨o,w2,rfl,k1,k2,k3,k4,k5⟩:=K;refine⟨by show 3<=sizeLine;decide,λb hb=>?_⟩;have j:Same J (aP J b (.tup [R,.ref i,.ref o])):=aK hb;have u:J i=some (.lst U):=s.h _ _ g1;have N:¬M2 i:=λz=>(s.n i z).elim g2 λw=>by grind
      have O:S i=none:=g3;have P:T o=none:=k3;have n12:i≠o:=λe=>by grind
      refine f (.ref b) M2 _ ((x1.trans s).trans ⟨λ_ z=>z,j,λ_ z=>.inl z⟩) (t.grow j) ⟨λa=>a=i\/a=o,λa z=>?_,b,_,rfl,ag,R,_,rfl,Is.flat c0 ((((i0.same x1.h).same s.h)).same j),.ref i,_,rfl,⟨i,U,rfl,.inl ⟨j _ _ u,.inl rfl⟩,IsAll.flat c1 ((g5.same s.h).same j)⟩,.ref o,_,rfl,⟨o,w2,rfl,.inl ⟨j _ _ k1,.inr rfl⟩,IsAll.flat c2 (k5.same j)⟩,rfl⟩;rcases z with rfl|rfl
      .exact⟨N,O,⟨_,j _ _ u,True.intro⟩,g4⟩
      .exact⟨k2,x1.h.free P,⟨_,j _ _ k1,True.intro⟩,k4⟩
     .rw[TJ L]at f;exact f.elim
def kg(i:Nat)(f:En->Res R):En->Res Fl:=λenv=>(f env).bind λr=>if i<env.length then .ok (.nx ((aZ env r.al).set i (some (.val r.d r.fr))))else .stuck
def dI(w:X.N.Nodup)(c:X.N[i]?=some x)(y:JF X.env.scope x)(h:PD X E e f)(hs:autoParam (swapsWith e (some (.Name x pos')) pos.line X.env=pure false) ae)
 (A:autoParam (X.fn x=true\/X.env.scope.names.lookup x=some .local) aM):A3 X E (.Assign [.Name x pos'] e pos) (kg i f):=by
 obtain⟨t,p1,s1⟩:=h;refine⟨_,iq w c y p1 hs A,λg M G env σ H D j p=>?_⟩;refine s1.sr j p λr v I H' e k ro n=>?_;by_cases c:i<env.length
 .rw[Tv c]at n;obtain⟨M2,J,o,b,s⟩:=ro.is k e j.same;obtain⟨B,C,u,l,F,_,_⟩:=Rep.aZ r.al b;have m:=l.put (i:=i) (sl:=.val r.d r.fr) (T:=λ_=>False) (by rw[ur];exact c) (Is.frozen b u F s) (λ_ z=>z.elim) λ_ z=>z.elim;exact n _ B _ H' ⟨λa z=>u a (o a z),λ_ _ q _=>q⟩ m
 .rw[TJ c]at n;exact n.elim
def zJ:List R->Res R
 |[r]=>match r.d with
  |.lst ds=>match fG ds with
   |some ns=>if ns.isEmpty then .stuck else .ok (.val (.int (p9 ns)) true [])
   |none=>.stuck
  |_=>.stuck
 |rs=>Oc rs
def GK(l:X.calm=true):iT X E (.builtin "min") zJ:=by
 obtain⟨m,n,s0⟩:=KG (X:=X) (E:=E) l;refine⟨λxs H Q=>(∃p ns,xs=[.ref p]/\SqL X.K H p (ns.map V.int)/\ns≠[]/\Q (.int (p9 ns)) H)\/m xs H Q,λaa s σ H xs us Q I r h=>h.elim (sV l aa s σ H xs us Q I r) (n aa s σ H xs us Q I r),λg M e env σ H Q rs vs b i p=>?_⟩
 match rs,i,p with
 |[r],i,p=>
  left;unfold zJ at p;dsimp only at p;obtain⟨v,w,rfl,c,o⟩:=i;cases o;have c:Is H (vmsk g M (bM [r]) e (cn [r])) r.d v:=c;cases q:r.d with
  |lst ds=>
   rw[q]at p c;dsimp only at p;obtain⟨a,ws,rfl,h1,t⟩:=c.rd;cases f:fG ds with
   |none=>rw[f]at p;exact p.elim
   |some ns=>
    rw[f]at p;dsimp only at p;by_cases j:ns.isEmpty=true
    .rw[Tv j]at p;exact p.elim
    .rw[TJ j]at p;have u:ws=ns.map V.int:=by rw[t.ints f];unfold iK;rw[T7];rfl
     rw[u]at h1;exact⟨a,ns,rfl,.inl h1,λz=>j (by rw[z];rfl),p _ M H (Ext.refl _ _) b rfl⟩
  |_=>rw[q]at p;exact p.elim
 |[],i,p=>exact .inr (s0 g M e env σ H Q [] vs b i p)
 |r::x::k,i,p=>exact .inr (s0 g M e env σ H Q (r::x::k) vs b i p)
def qv(i:Nat)(a:autoParam (X.N[i]?=some x) ae) (b:autoParam (QM X.env.scope x) XA._auto_1) (hd:autoParam ((x==("__debug__" : Str))=false) am)
 (c:autoParam ((x==("__classdict__" : Str))=false) am):PD X E (.Name x pos) (ao i):=Kq (pv i a b hd c)
end
end L3
namespace L3
open PySem PySem.Spec PyProof.Rows L2
section
variable{X:Cx}{E:XK}
def DO:R->R->Res R:=oI (λi j=>decide (0<=j)&&decide (j<=1000)&&decide (i.natAbs<2000000)) λi j=>.int (i^j.toNat)
def DP:rE X E (binaryOp .Pow) DO:=sX _ _ JV (λi j h=>by simp only[Um,Vg]at h;exact⟨h.1.1,by lia,Nat.lt_trans h.2 (by decide)⟩) λ_ _ _ _=>rfl
end
section
def zK(a b:Str):Prop:=0<b.length/\a.length<=100000/\(Txt.split a b).length<=100000/\(Builtin.Str.partsBetween a (Builtin.Str.occurrences a b 0 a.length (a.length+1)) b.length).length<=100000
instance (a b:Str):Decidable (zK a b):=by unfold zK;infer_instance
end
open Classical in
section
def pO{kvs:List (bm×V)}(h:cS kvs k=none):ce kvs k y=kvs++[(k,y)]:=by unfold ce;rw[jU,h,TJ (by simp)]
end
section
open Classical in
end
noncomputable def qH(k:Int):List Int->List Int
 |[]=>[k]
 |h::t=>if k=h then h::t else if k<h then k::h::t else h::qH k t
def iX:List Int->List Int
 |[]=>[]
 |k::ks=>qH k (iX ks)
def DQ(r:R):Res R:=match r.d with
 |.lst ds=>match fG ds with
  |some is=>if is.length<=63 then .ok (.new ((iX is).map .int) true)else .stuck
  |none=>.stuck
 |_=>.stuck
def KR(f:En->Res R):En->Res R:=λenv=>(f env).bind DQ
theorem qI(k x:Int):∀l,x∈qH k l↔x=k\/x∈l
 |[]=>by simp[qH]
 |h::t=>by
  unfold qH;split
  .rename_i e;subst e;simp
  .split
   .simp
   .rw[TH,qI k x t,TH]
    grind
theorem zL(k:Int):∀l:List Int,l.Pairwise (·< ·)->(qH k l).Pairwise (·< ·)
 |[],_=>by simp[qH]
 |h::t,p=>by
  have a:=UC.mp p;unfold qH;split
  .exact p
  .split
   .rename_i h1 b;refine UC.mpr ⟨λx c=>?_,p⟩
    grind
   .rename_i h1 b;refine UC.mpr ⟨λx c=>?_,zL k t a.2⟩
    grind [qI]
theorem nP(x:Int):∀ks,x∈iX ks↔x∈ks
 |[]=>Iff.rfl
 |k::ks=>by unfold iX;rw[qI,nP x ks,TH]
theorem ww:∀ks,(iX ks).Pairwise (·< ·)
 |[]=>List.Pairwise.nil
 |k::ks=>by unfold iX;exact zL k _ (ww ks)
theorem oK:∀(a b:List Int),a.Pairwise (·< ·)->b.Pairwise (·< ·)->(∀x,x∈a↔x∈b)->a=b
 |[],[],_,_,_=>rfl
 |[],y::b,_,_,h=>by have:=(h y).mpr (by simp);cases this
 |x::a,[],_,_,h=>by have:=(h x).mp (by simp);cases this
 |x::a,y::b,f,g,h=>by
  have c:=UC.mp f;have d:=UC.mp g;have e:x=y:=by
   have h1:=(h x).mp (by simp);have i:=(h y).mpr (by simp)
   grind
  subst e;rw[oK a b c.2 d.2 λz=>?_]
  grind
section
variable{X:Cx}{E:XK}
def rV(P:X.calm=true)(h:PD X E e f)
 (y:Gl X x1) (A:X.mg x1=none) (B:bootBuiltins x1=some (.builtin "sorted")) (C:Gl X x2) (D:X.mg x2=none) (F:bootBuiltins x2=some (.type "set"))
 (G:autoParam (x1≠"__name__") am) (j:autoParam ((x1==("__debug__" : Str))=false) am) (I:autoParam (x2≠"__name__") am) (k:autoParam ((x2==("__debug__" : Str))=false) am)
 (m:autoParam (starEach [e] X.env=(false,eval e X.env)::starEach [] X.env) ae) (n:autoParam ((backTo pos2 (starEach [] X.env)).any (·.1)=false) ae)
 (o:autoParam (starEach [.Call (.Name x2 p2) [e] [] pos2] X.env=(false,eval (.Call (.Name x2 p2) [e] [] pos2) X.env)::starEach [] X.env) ae) (q:autoParam ((backTo pos1 (starEach [] X.env)).any (·.1)=false) ae) :
 PD X E (.Call (.Name x1 p1) [.Call (.Name x2 p2) [e] [] pos2] [] pos1) (KR f):=by
 obtain⟨t,p1,s1⟩:=h;refine⟨_,cW (rO P) y A B (ah (nz (yd P) C D F (ah p1 aC m) I k m n) aC o) G j o q,λg M ρ env σ H Q J p=>?_⟩;refine s1.fL J p λr v M1 s e1 i R q1=>?_;unfold DQ at q1;cases S:r.d with
 |lst ds=>
  rw[S]at q1 R;dsimp only at q1;cases K:fG ds with
  |none=>rw[K]at q1;exact q1.elim
  |some is=>
   rw[K]at q1;dsimp only at q1;by_cases x:is.length<=63
   .rw[Tv x]at q1;obtain⟨a,vs,rfl,h1,W⟩:=R.rd;have Y:vs=is.map V.int:=by rw[IsAll.ints W K];unfold iK;rw[T7];rfl
    rw[Y]at h1;refine⟨a,is,rfl,h1,by lia,λb es its Z T v=>?_⟩;rw[<- T,TN]at x;refine⟨b,es,its,rfl,ag,v,x,λl ks c hm hw=>?_⟩;rw[T]at hm;have L:l≠b:=λz=>by rw[z,ag]at c;cases c
    have u:s l=none:=by rw[af L]at c;exact c
    have N:Same s (aP s b (.ext λh=>SetAt X.w h b es)):=aK Z;have O:Same (aP s b (.ext λh=>SetAt X.w h b es)) (aP (aP s b (.ext λh=>SetAt X.w h b es)) l (.lst (ks.map V.int))):=aK c;have U:=N.trans O;obtain⟨z0,zm,zo⟩:=i.free u;refine q1 _ M1 _ ⟨λ_ z=>z,U,λ_ z=>.inl z⟩ (i.grow U) ⟨l,_,rfl,ag,zm,u,zo,?_⟩
    grind [iX,oK,ww,nP,lS]
   .rw[TJ x]at q1;exact q1.elim
 |_=>rw[S]at q1;exact q1.elim
end
noncomputable abbrev IP:=Int×Int
noncomputable def dp(l:List IP)(x:IP):List IP:=if x∈l then l else l++[x]
def h1(ts:List QV):List IP:=(ts.map λt=>(t.1,t.2.1)).foldl dp []
end L3
namespace L2
open PySem PySem.Spec PySem.Calls PyProof.Rows
section
variable{X:Cx}
def Bi:CallR X (.builtin "len") (λxs H Q=>∃(d:Addr)(kvs:List (bm×V))(u:HO),xs=[.ref d]/\(u=.dK kvs\/(u=.dT []/\kvs=[]))/\Rd H d u/\kvs.length<=sizeLine/\Q (.int kvs.length) H):=by
 intro aa s σ H xs us Q I r h;obtain⟨d,kvs,u,rfl,e,b,hz,q⟩:=h;obtain⟨w,rfl,f⟩:=eF r;cases f;have c:=b.ok I.aS;have key:(d==sysModules)=false/\∃vs,KV kvs vs/\s.heap.DictOf (aF X.prog X.w) d vs:=by
  rcases e with rfl|⟨rfl,rfl⟩
  .obtain⟨z,hd,vs,a,dd⟩:=c;exact⟨hd,vs,a,dd⟩
  .obtain⟨hd,dd⟩:=nE c;exact⟨hd,[],.nil,dd⟩
 obtain⟨hd,vs,a,dd⟩:=key;refine call_len_dict hd dd (by rw[<- a.length];rw[Uj]at hz;lia) ?_;exact⟨.int kvs.length,H,I.tok _,⟨_,by rw[a.length]⟩,q⟩
end
end L2
namespace L3
open PySem PySem.Spec PyProof.Rows L2
def GL(N:Nat):List R->Res R
 |[r]=>match r.d with
  |.lst ds=>match dH ds with
   |some ks=>if decide (ks.length<=N)&&ks.all (λk=>!k.isEmpty)&&decide ks.Nodup then .ok (.new ((eJ ks).map iV) true)else .stuck
   |none=>.stuck
  |_=>.stuck
 |_=>.stuck
def Np:List R->Res R:=GL 63
section
variable{X:Cx}{E:XK}
def wx(y:N<=300)(c:mq X.prog X.w N):iT X E (.builtin "sorted") (GL N):=by
 refine⟨_,rP y c,λg M A env σ H Q rs vs e i p=>?_⟩;rcases rs with _|⟨r,_|_⟩
 .exact p.elim
 rotate_left
 .exact p.elim
 unfold GL at p;dsimp only at p;split at p
 .rename_i ds q;cases f:dH ds with
  |none=>rw[f]at p;exact p.elim
  |some ks=>
   rw[f]at p;dsimp only at p;split at p
   .rename_i n;simp only[Um,Vg,UK]at n;obtain⟨⟨o,h⟩,nd⟩:=n;obtain⟨v,w,rfl,b,B⟩:=i;cases B;have b:Is H (vmsk g M (bM [r]) A (cn [r])) r.d v:=b;rw[q]at b;obtain⟨a,vs,rfl,h1,C⟩:=b.rd;obtain⟨its,s,t⟩:=C.dH f;have j:=tq s;refine⟨a,vs,its,rfl,h1,s,by grind,λx m z=>?_,by grind,λl D o u G=>?_⟩
    .have:x.1∈ks:=by rw[<- t];exact TV.mpr ⟨x,m,rfl⟩
     have:=h _ this;rw[z]at this;simp at this
    .have F:D.map (·.1)=eJ ks:=by refine lU _ _ (by grind) (pd ks) λk=>?_;rw[iW,<- t,(u.map (·.1)).mem_iff]
     rw[<- F,T7]at p;exact p.new e o (kf (λx m=>j x (u.mem_iff.mp m)))
   .exact p.elim
 .exact p.elim
def bj(h:PE X o (aI i)):PD X E (.Subscript o (.Constant (.int k) j pos') pos) (bI i (vC (.int k))):=yi h aB (λ_ _=>rfl)
def yq:iT X E (.builtin "sorted") Np:=wx (by decide) zk
end
def KS{K KK:Xu}{mg:Str->Option Xw}{x:Str}{st:Stmt}{ps:List Str}{f:Addr}{oc:Xw}{od an:Option Addr}{osl:Array (Option Xw)}{kV doc pm cdv ct:Xw}(U:xw K KK)
 (l:K.lookup f=some ⟨oc,od,.func (fnOf x x (dE st) (cL st) (ay st) .none kV doc pm an cdv ct),osl⟩) (c:codeIn K cdv x=true) (g:mg x=some (.ref f))
 (h:∀(kV doc pm:Xw)(an:Option Addr)(cdv ct:Xw)(us:List Xw),us.length=ps.length->bindArgs (fnOf x x (dE st) (cL st) (ay st) .none kV doc pm an cdv ct) ⟨us,[]⟩=pure (ps.zip us)) :
 Fn KK mg x st ps f (fnOf x x (dE st) (cL st) (ay st) .none kV doc pm an cdv ct):=
 have F:Ft KK x x st f _:=CC (U.look _ _ l (λ_ _ z=>nomatch z)) (U.code c) (U.keep l)
 ⟨F,F.binds h,g⟩
section
variable{X:Cx}{E:XK}{CX:AG}{k:Nat}{f:Addr}{fd:FuncData}{ps:List Str}{F:List D->Res R}{x:Str}{e:Expr}{es:List Expr}{fs:En->Res (List R)}{p pos:Pos}
def a_{st:Stmt}(G:bG X.prog X.w X.K X.mg X.base CX k f fd ps (mw X.mg ps.length F))(c:dt k X.A)(d:Gl X x)(h:Fn X.K X.mg x st ps f fd)(g:gy CX X E)
 (ha:C9 X E (e::es) fs) (i:∀env rs,fs env=.ok rs->rs.length=ps.length) (a:autoParam ((x==("__debug__" : Str))=false) am) (j:autoParam (starEach (e::es) X.env=(false,eval e X.env)::starEach es X.env) ae) (b:autoParam ((backTo pos (starEach es X.env)).any (·.1)=false) ae) :
 PD X E (.Call (.Name x p) (e::es) [] pos) (b9 F fs):=Gs G c d h.gl h.fu.kp h.bi g ha i a j b
end
def yr(h:Is H m (.cU ks ds) v)(g:∀k∈ks,∃a,k=.inr a):∃d kvs u,v=.ref d/\m d/\(u=.dT kvs\/(u=.dK []/\kvs=[]))/\Rd H d u/\ks=kvs.map (λp=>.inr p.1)/\IsAll H m ds (kvs.map Prod.snd):=by
 obtain⟨d,vs,rfl,⟨c,f⟩,b⟩:=h;rcases c with⟨kvs,e,rfl,rfl⟩|⟨kvs,e,rfl,rfl⟩
 .cases kvs with
  |nil=>exact⟨d,[],_,rfl,f,.inr ⟨rfl,rfl⟩,e,rfl,b⟩
  |cons p r=>obtain⟨a,i⟩:=g (.inl p.1) (by simp);cases i
 .exact⟨d,kvs,_,rfl,f,.inl rfl,e,rfl,b⟩
def dJ:List R->Res R
 |[r,q]=>match r.d,q.d with
  |.int i,.int j=>if 0<j/\j<1073741824 then .ok (jJ (.tup [.int (i/j),.int (i%j)]) true [])else .stuck
  |_,_=>.stuck
 |_=>.stuck
section
variable{X:Cx}{E:XK}
def dw:iT X E (.builtin "divmod") dJ:=by
 refine⟨_,vA,λg M n env σ H Q rs vs f i p=>?_⟩;rcases rs with _|⟨r,_|⟨q,_|_⟩⟩
 .exact p.elim
 .exact p.elim
 rotate_left
 .exact p.elim
 obtain⟨v,_,rfl,h,w,_,rfl,j,e⟩:=i;cases e;unfold dJ at p;dsimp only at p h j;cases c:r.d with
 |int a=>
  cases k:q.d with
  |int b=>
   rw[c,k]at p;rw[c]at h;rw[k]at j;dsimp only at p;cases h;cases j;by_cases l:0<b/\b<1073741824
   .rw[Tv l]at p;exact⟨a,b,rfl,l,λt m=>p.tup f m ⟨_,_,rfl,rfl,_,_,rfl,rfl,rfl⟩⟩
   .rw[TJ l]at p;exact p.elim
  |_=>rw[c,k]at p;exact p.elim
 |_=>rw[c]at p;exact p.elim
end
def Bj{X:Cx}{E:XK}{st:Stmt}:A3 X E st (λ_=>.stuck):=⟨λ_ _ _=>False,λ_ _ _ _ _ _ h=>h.elim,λ_ _ _ _ _ _ _ _ p=>p⟩
end L3
namespace Pz
section
variable{κ α:Type}[DecidableEq κ]
noncomputable abbrev MD(κ α:Type):=List (κ×List α)
def MD.get(d:MD κ α)(k:κ):List α:=((d.find? λx=>decide (x.1=k)).map (·.2)).getD []
def MD.has(d:MD κ α)(k:κ):Bool:=d.any λx=>decide (x.1=k)
def MD.app(d:MD κ α)(k:κ)(v:α):MD κ α:=if d.has k then d.map (λx=>if x.1=k then(x.1,x.2++[v])else x)else d++[(k,[v])]
def MD.drop(d:MD κ α)(k:κ):MD κ α:=d.filter λx=>decide (x.1≠k)
def MD.flat(d:MD κ α):List α:=d.flatMap (·.2)
abbrev MD.keys(d:MD κ α):List κ:=d.map (·.1)
structure MD.Ok(d:MD κ α):Prop where
 nk:d.keys.Nodup
 ne:∀x∈d,x.2≠[]
theorem cY(x:κ×List α)(d:MD κ α)(k:κ):MD.get (x::d) k=if x.1=k then x.2 else MD.get d k:=by grind [MD.get]
def has_iff{d:MD κ α}{k:κ}:d.has k=true↔k∈d.keys:=by
 unfold MD.has
 grind
theorem DR{d:MD κ α}{k:κ}(h:k∉d.keys):d.get k=[]:=by
 induction d with
 |nil=>rfl
 |cons x r a=>grind [cY]
def GM{d:MD κ α}(nd:d.keys.Nodup){k:κ}{l:List α}(h:(k,l)∈d):d.get k=l:=by
 induction d with
 |nil=>cases h
 |cons x r a=>grind [cY]
def uC{d:MD κ α}{k:κ}{v:α}(h:v∈d.get k):(k,d.get k)∈d:=by
 induction d with
 |nil=>cases h
 |cons x r a=>grind [cY]
def uD{d:MD κ α}{k:κ}{v:α}(h:k∉d.keys):d.map (λx=>if x.1=k then(x.1,x.2++[v])else x)=d:=by induction d<;>grind
def DS(d:MD κ α)(k:κ)(v:α):(d.app k v).keys=if k∈d.keys then d.keys else d.keys++[k]:=by
 unfold MD.app;by_cases h:k∈d.keys
 .rw[Tv (has_iff.mpr h),Tv h];unfold MD.keys;rw[T7];exact U0 λx _=>by grind
 .rw[TJ (λq=>h (has_iff.mp q)),TJ h];unfold MD.keys;rw[UB];rfl
def nQ{d:MD κ α}(O:d.Ok)(k:κ)(v:α):(d.app k v).Ok:=by
 constructor
 .rw[DS];split
  .exact O.nk
  .rename_i h;exact VM.mpr ⟨O.nk,by simp,λa ha b g e=>by grind⟩
 .intro x c;unfold MD.app at c;split at c
  .obtain⟨y,f,rfl⟩:=TV.mp c;split
   .simp
   .exact O.ne y f
  .rcases T1.mp c with h|h
   .exact O.ne x h
   .rw[T8]at h;subst h;simp
theorem oT{d:MD κ α}{k:κ}{l:List α}(h:k∉d.keys):MD.get (d++[(k,l)]) k=l:=by
 grind [MD.get]
theorem rW{d:MD κ α}{k a:κ}{l:List α}(h:k≠a):MD.get (d++[(k,l)]) a=d.get a:=by
 grind [MD.get]
def uE{d:MD κ α}{k:κ}{v:α}(h:k∈d.keys):MD.get (d.map (λx=>if x.1=k then(x.1,x.2++[v])else x)) k=d.get k++[v]:=by
 induction d with
 |nil=>cases h
 |cons x r a=>grind [cY]
def yt{d:MD κ α}{k a:κ}{v:α}(h:k≠a):MD.get (d.map (λx=>if x.1=k then(x.1,x.2++[v])else x)) a=d.get a:=by
 induction d with
 |nil=>rfl
 |cons x r b=>grind [cY]
theorem pj(d:MD κ α)(k:κ)(v:α)(a:κ):(d.app k v).get a=if k=a then d.get k++[v]else d.get a:=by
 unfold MD.app;by_cases h:k∈d.keys
 .rw[Tv (has_iff.mpr h)];by_cases e:k=a
  .subst e;rw[Tv rfl,uE h]
  .rw[TJ e,yt e]
 .rw[TJ (λq=>h (has_iff.mp q))]
  grind [oT,DR,rW]
def fH{d:MD κ α}(nd:d.keys.Nodup)(k:κ)(v:α):(d.app k v).flat.Perm (v::d.flat):=by
 unfold MD.app;by_cases h:k∈d.keys
 .rw[Tv (has_iff.mpr h)];induction d with
  |nil=>cases h
  |cons x r b=>
   have a:=UA.mp nd;unfold MD.flat at b ⊢;rw[Tw,Wc,Wc];by_cases e:x.1=k
   .subst e;rw[Tv rfl,uD a.1];show((x.2++[v])++_).Perm _;rw[VQ];exact Xm
   .rw[TJ e];rcases TH.mp h with q|q
    .exact(e q.symm).elim
    .exact((Vy _).append (b a.2 q)).trans Xm
 .rw[TJ (λq=>h (has_iff.mp q))];unfold MD.flat;rw[Wn];show(_++([v]++[])).Perm _;rw[V3];exact List.perm_append_singleton _ _
def Bk(d:MD κ α)(k:κ):(d.drop k).keys=d.keys.filter λx=>decide (x≠k):=by unfold MD.drop MD.keys;rw[List.filter_map];rfl
def zM{d:MD κ α}(O:d.Ok)(k:κ):(d.drop k).Ok:=⟨by rw[Bk];exact List.Pairwise.filter _ O.nk,λx a=>O.ne x (Ug.mp a).1⟩
theorem Bl{d:MD κ α}{k:κ}(h:k∉d.keys):d.drop k=d:=by induction d<;>grind [MD.drop]
def nR{d:MD κ α}(nd:d.keys.Nodup)(k:κ):d.flat.Perm (d.get k++(d.drop k).flat):=by
 induction d with
 |nil=>exact Vy _
 |cons x r b=>
  have a:=UA.mp nd;rw[cY];by_cases e:x.1=k
  .subst e;rw[Tv rfl];have:MD.drop (x::r) x.1=r:=by grind [MD.drop,Bl]
   rw[this];exact Vy _
  .rw[TJ e];have:MD.drop (x::r) k=x::MD.drop r k:=by grind [MD.drop]
   rw[this];unfold MD.flat at b ⊢;rw[Wc,Wc];refine((Vy _).append (b a.2)).trans ?_;rw[<- VQ,<- VQ];exact List.perm_append_comm.append_right _
def mem_flat{d:MD κ α}{v:α}:v∈d.flat↔∃x∈d,v∈x.2:=Xn
def mF(d:MD κ α){k:κ}{v:α}(h:v∈d.get k):v∈d.flat:=mem_flat.mpr ⟨_,uC h,h⟩
def pk(d:MD κ α)(k:κ):(d.get k).length<=d.flat.length:=by
 induction d with
 |nil=>exact Tt _
 |cons x r a=>grind [cY,MD.flat]
def jf{d:MD κ α}(O:d.Ok):d.length<=d.flat.length:=by
 have:∀d:MD κ α,(∀x∈d,x.2≠[])->d.length<=d.flat.length:=by
  intro d;induction d with
  |nil=>intro _;exact Tt _
  |cons x r a=>
   intro h;have h1:=a λy b=>h y (TB _ b);have c:0<x.2.length:=WZ.mpr (h x TF);unfold MD.flat at h1 ⊢
   grind
 exact this d O.ne
end
end Pz
namespace Pz
noncomputable def lo:List Int->Int
 |[]=>0
 |x::r=>r.foldl (λa b=>if b<a then b else a) x
theorem yu:∀(r:List Int)(x:Int),r.foldl (λa b=>if b<a then b else a) x∈x::r/\∀y∈x::r,r.foldl (λa b=>if b<a then b else a) x<=y
 |[],x=>by grind
 |z::r,x=>by
  obtain⟨h1,c⟩:=yu r (if z<x then z else x);rw[Vo];constructor
  .grind
  .intro y d;have e:=c _ TF
   grind
def DT(h:l≠[]):lo l∈l:=by
 cases l with
 |nil=>exact(h rfl).elim
 |cons x r=>exact(yu r x).1
def DU(h:y∈l):lo l<=y:=by
 cases l with
 |nil=>cases h
 |cons x r=>exact(yu r x).2 y h
structure vh(pile:Int->Int->Int):Prop where
 nn:∀{p l:Int},0<=p->0<=l->0<=pile p l
 ch:∀{p l:Int},0<=p->0<=l->∀k:Nat,pile p l<=k↔p/2^k=l/2^k
section
variable{pile:Int->Int->Int}(P:vh pile){p l m r:Int}
include P
def vh.zero(a:0<=p)(b:0<=l):pile p l=0↔p=l:=by
 have h1:=P.nn a b;have c:=P.ch a b 0
 grind
def vh.lt(a:0<=l)(f:l<=p)(c:l<=r)(h:pile p l<pile r l):p<r:=by
 have d:0<=p:=VR a f;have g:0<=r:=VR a c;obtain⟨k,j⟩:=U8 (P.nn d a);have e1:=(P.ch d a k).mp (by lia);have e2:¬r/2^k=l/2^k:=λe=>by have:=(P.ch g a k).mpr e;lia
 have b:(0:Int)<2^k:=Int.pow_pos (by decide);have e3:=Int.ediv_le_ediv b c;refine Int.not_le.mp λi=>?_;have e4:=Int.ediv_le_ediv b i;lia
def vh.same(c:0<=l)(f:l<=m)(g:l<=r)(h:pile m l<pile r l):pile r m=pile r l:=by
 have m0:0<=m:=VR c f;have d:0<=r:=VR c g;have key:∀j:Nat,pile r m<=j↔pile r l<=j:=by
  intro j;rw[P.ch d m0,P.ch d c];by_cases n:pile m l<=j
  .rw[(P.ch m0 c j).mp n]
  .have hd:∀{a b:Int}{i:Nat},a/2^j=b/2^j->a/2^(j+i)=b/2^(j+i):=by intro a b i e;rw[Int.pow_add,<- Int.ediv_ediv_of_nonneg (V6 (Int.pow_pos (by decide))),<- Int.ediv_ediv_of_nonneg (V6 (Int.pow_pos (by decide))),e]
   obtain⟨k,o⟩:=U8 (P.nn m0 c);obtain⟨i,rfl⟩ : ∃i,k=j+i:=⟨k-j,by lia⟩;constructor<;>intro e<;>exfalso
   .have e1:=hd (i:=i) e;rw[(P.ch m0 c (j+i)).mp (by lia)]at e1;have:=(P.ch d c (j+i)).mpr e1;lia
   .have:=(P.ch d c j).mpr e;lia
 obtain⟨a,ha⟩:=U8 (P.nn d m0);obtain⟨b,q⟩:=U8 (P.nn d c);have h1:=key a;have s:=key b;lia
end
section
variable{α:Type}{pile:Int->Int->Int}
abbrev Q(α:Type):=MD Int (Int×α)
structure xC(pile:Int->Int->Int) (last:Int) (d:Q α):Prop where
 ok:d.Ok
 l0:0<=last
 at_:∀x∈d,∀y∈x.2,x.1=pile y.1 last/\last<=y.1
def xC.add(h:xC pile last d)(a:α)(b:last<=p):xC pile last (d.app (pile p last) (p,a)):=by
 refine⟨nQ h.ok _ _,h.l0,λx hx y hy=>?_⟩;unfold MD.app at hx;split at hx
 .obtain⟨z,hz,rfl⟩:=TV.mp hx;by_cases e:z.1=pile p last
  .rw[Tv e]at hy ⊢;rcases T1.mp hy with hy|hy
   .exact h.at_ z hz y hy
   .rw[T8]at hy;subst hy;exact⟨e,b⟩
  .rw[TJ e]at hy ⊢;exact h.at_ z hz y hy
 .rcases T1.mp hx with hx|hx
  .exact h.at_ x hx y hy
  .grind
def cT(pile:Int->Int->Int)(last:Int)(d:Q α)(l:List (Int×α)):Q α:=l.foldl (λd x=>d.app (pile x.1 last) x) d
theorem xC.cT:∀{l:List (Int×α)}{d:Q α},xC pile last d->(∀x∈l,last<=x.1)->xC pile last (cT pile last d l)
 |[],d,h,_=>h
 |x::l,d,h,a=>xC.cT (l:=l) (h.add x.2 (a x TF)) λy b=>a y (TB _ b)
theorem kh:∀{l:List (Int×α)}{d:Q α},d.Ok->(cT pile last d l).flat.Perm (l++d.flat)
 |[],d,h=>Vy _
 |x::l,d,h=>(kh (l:=l) (nQ h _ _)).trans (((Vy _).append (fH h.nk _ _)).trans Xm)
def b_(d:Q α):Int:=lo d.keys
def lowP(d:Q α):Int:=lo ((d.get (b_ d)).map (·.1))
def mid(pile:Int->Int->Int)(d:Q α):Q α:=cT pile (lowP d) (d.drop (b_ d)) (d.get (b_ d))
def dL(pile:Int->Int->Int)(d:Q α):List (Int×α):=(mid pile d).get 0
def left(pile:Int->Int->Int)(d:Q α):Q α:=(mid pile d).drop 0
structure Nh(pile:Int->Int->Int) (last:Int) (d:Q α):Prop where
 ge:last<=lowP d
 ok:xC pile (lowP d) (left pile d)
 eq:∀x∈dL pile d,x.1=lowP d
 lt:∀x∈(left pile d).flat,lowP d<x.1
 pm:d.flat.Perm (dL pile d++(left pile d).flat)
 ne:dL pile d≠[]
 k1:b_ d∈d.keys
 k2:d.get (b_ d)≠[]
 k3:0∈(mid pile d).keys
 o1:xC pile (lowP d) (d.drop (b_ d))
def Bm(P:vh pile)(h:xC pile last d)(m:d≠[]):Nh pile last d:=by
 have k1:b_ d∈d.keys:=DT (by simpa[MD.keys]using m);obtain⟨n,f,o⟩:=TV.mp k1;have t:d.get (b_ d)=n.2:=GM h.ok.nk (by grind);have k2:d.get (b_ d)≠[]:=by rw[t];exact h.ok.ne n f
 have v:lowP d∈(d.get (b_ d)).map (·.1):=DT (by simpa using k2);obtain⟨u,p,w⟩:=TV.mp v;have cF:∀y∈d.get (b_ d),b_ d=pile y.1 last/\last<=y.1:=λy b=>by rw[t]at b;have:=h.at_ n f y b;rw[o]at this;exact this
 have l:last<=lowP d:=by grind
 have l0:0<=lowP d:=VR h.l0 l;have kP:pile (lowP d) last=b_ d:=by grind
 have g:∀y∈d.get (b_ d),lowP d<=y.1:=λy b=>DU (TV.mpr ⟨y,b,rfl⟩);have i:∀x∈d.drop (b_ d),∀y∈x.2,x.1=pile y.1 (lowP d)/\lowP d<y.1:=λx a y b=>by
  obtain⟨a,c⟩:=Ug.mp a;have c:x.1≠b_ d:=UO c;have z:b_ d<=x.1:=DU (TV.mpr ⟨x,a,rfl⟩);obtain⟨e1,e2⟩:=h.at_ x a y b;have j:pile (lowP d) last<pile y.1 last:=by grind
  exact⟨e1.trans (P.same h.l0 l e2 j).symm,P.lt h.l0 l e2 j⟩
 have o1:xC pile (lowP d) (d.drop (b_ d)):=⟨zM h.ok _,l0,λx a y b=>⟨(i x a y b).1,V6 (i x a y b).2⟩⟩;have k:xC pile (lowP d) (mid pile d):=o1.cT g;have q:d.flat.Perm (mid pile d).flat:=(nR h.ok.nk _).trans (kh o1.ok).symm;have r:(mid pile d).flat.Perm (dL pile d++(left pile d).flat):=nR k.ok.nk 0;have eq:∀x∈dL pile d,x.1=lowP d:=λx a=>by have:=k.at_ _ (uC a) x a;exact(P.zero (VR l0 this.2) l0).mp this.1.symm
 have lt:∀x∈(left pile d).flat,lowP d<x.1:=λx a=>by obtain⟨y,b,a⟩:=mem_flat.mp a;obtain⟨b,c⟩:=Ug.mp b;have c:y.1≠0:=UO c;obtain⟨e1,e2⟩:=k.at_ y b x a;have:¬x.1=lowP d:=λe=>c (e1.trans ((P.zero (VR l0 e2) l0).mpr e));lia
 have s:u∈dL pile d:=by
  have h1:u∈d.flat:=mF d p
  grind
 exact⟨l,⟨zM k.ok _,l0,λx a=>k.at_ x (Ug.mp a).1⟩,eq,lt,q.trans r,(λe=>by grind),k1,k2,TV.mpr ⟨_,uC s,rfl⟩,o1⟩
end
end Pz
namespace Pz
noncomputable abbrev ba:=Int×Int×Int
noncomputable abbrev aX:=Int×Int×Int×List Int
noncomputable abbrev nh:=Int×Option Int×Option Int
abbrev TD:=List (ba×nh)
noncomputable def bF(t:TD)(a:ba):Option nh:=(t.find? λx=>decide (x.1=a)).map (·.2)
def tput(t:TD)(a:ba)(v:nh):TD:=if(bF t a).isSome then t.map (λx=>if x.1=a then(x.1,v)else x)else t++[(a,v)]
structure PS where
 told:TD
 last:Int
 aE:Q ba
 settled:MD (Int×Int) (Int×Int)
 aH:MD (Int×Int) (Int×aX×Int)
abbrev RS:=MD (Int×Int) (Int×aX)
section
variable(pile:Int->Int->Int)(rs:RS)
def iY(S:PS)(a:ba)(p:Int):Bool:=match bF S.told a with
 |none=>true
 |some v=>decide (p<v.1)
def ko(S:PS)(a:ba)(p:Int)(n m:Option Int):PS:={S with told:=tput S.told a (p,n,m),aE:=S.aE.app (pile p S.last) (p,a)}
def bb(S:PS)(a:ba)(p:Int)(n m:Option Int):PS:=if iY S a p then ko pile S a p n m else S
def nth1(l:List Int):Int:=l[1]?.getD 0
def uF(S:PS)(b:Int)(r:aX)(mid a:Int):PS:={S with aH:=S.aH.app (mid,nth1 r.2.2.2) (b,r,a)}
def first(S:PS)(b:Int)(r:aX)(mid a:Int):PS:=(S.settled.get (mid,nth1 r.2.2.2)).foldl (λS x=>bb pile S (r.1,r.2.1,x.1) (a+x.2+1) (some b) (some mid)) (uF S b r mid a)
def note(S:PS)(a:ba)(b:Int):PS:={S with settled:=S.settled.app (a.1,a.2.1) (a.2.2,b)}
def oM(a:ba)(b:Int)(S:PS)(x:Int×aX×Int):PS:=bb pile S (x.2.1.1,x.2.1.2.1,a.2.2) (x.2.2+b+1) (some x.1) (some a.1)
def cD(a:ba)(b:Int)(S:PS)(x:Int×aX):PS:=if x.2.2.2.2.length=1 then bb pile S (x.2.1,x.2.2.1,a.2.2) (b+1) (some x.1) none else first pile S x.1 x.2 a.2.2 b
def settle(S:PS)(a:ba)(b:Int):PS:=(rs.get (a.1,a.2.1)).foldl (cD pile a b) ((S.aH.get (a.1,a.2.1)).foldl (oM pile a b) (note S a b))
def Nq(S:PS)(x:Int×ba):Bool:=match bF S.told x.2 with
 |none=>false
 |some v=>decide (v.1=x.1)
def turn(S:PS)(x:Int×ba):PS:=if Nq S x then settle pile rs S x.2 x.1 else S
def batch(S:PS)(l:List (Int×ba)):PS:=l.foldl (turn pile rs) S
def take(S:PS):PS:={S with last:=lowP S.aE,aE:=left pile S.aE}
end
noncomputable def L:Nat:=16000000
structure lG(S:PS):Prop where
 t:S.told.length<L
 p:S.aE.length<L
 pf:S.aE.flat.length<L
 s:S.settled.length<L
 sf:S.settled.flat.length<L
 l:S.aH.length<L
 lf:S.aH.flat.length<L
inductive Loop(pile:Int->Int->Int) (rs:RS):Nat->PS->PS->Prop where
 |done {S:PS}:S.aE=[]->Loop pile rs 0 S S
 |step {n:Nat} {S T:PS}:S.aE≠[]->xC pile S.last S.aE->(∀x∈dL pile S.aE,bF S.told x.2≠none)->lG S->lG (batch pile rs (take pile S) (dL pile S.aE))->
  Loop pile rs n (batch pile rs (take pile S) (dL pile S.aE)) T->Loop pile rs (n+1) S T
theorem dz(x:ba×nh)(t:TD)(a:ba):bF (x::t) a=if x.1=a then some x.2 else bF t a:=by grind [bF]
def tget_none:bF t a=none↔a∉t.map (·.1):=by
 induction t with
 |nil=>simp[bF]
 |cons x r b=>grind [dz]
def mG(h:bF t a=some v):(a,v)∈t:=by
 induction t with
 |nil=>cases h
 |cons x r b=>grind [dz]
def qJ(nd:(t.map (·.1)).Nodup)(h:(a,v)∈t):bF t a=some v:=by
 induction t with
 |nil=>cases h
 |cons x r b=>grind [dz]
def Bn(t:TD)(a:ba)(v:nh):(tput t a v).map (·.1)=if a∈t.map (·.1)then t.map (·.1)else t.map (·.1)++[a]:=by
 unfold tput;cases h:bF t a with
 |none=>rw[TJ (by simp),TJ (tget_none.mp h),UB];rfl
 |some w=>have:a∈t.map (·.1):=TV.mpr ⟨_,mG h,rfl⟩;rw[Tv (by simp),Tv this,T7];exact U0 λx _=>by grind
def GN(h:(t.map (·.1)).Nodup)(a:ba)(v:nh):((tput t a v).map (·.1)).Nodup:=by
 rw[Bn];split
 .exact h
 .rename_i q;exact VM.mpr ⟨h,by simp,λx d b c e=>by rw[T8]at c;subst c;subst e;exact q d⟩
def wy(t:TD)(a:ba)(v:nh):t.length<=(tput t a v).length/\(tput t a v).length<=t.length+1:=by
 unfold tput;split
 .rw[TN];lia
 .rw[T_];simp
def iZ(t:TD)(a:ba)(v:nh)(b:ba):bF (tput t a v) b=if a=b then some v else bF t b:=by
 unfold tput;cases h:bF t a with
 |none=>
  rw[TJ (by simp)];have f:=tget_none.mp h;clear h;induction t with
  |nil=>rw[List.nil_append,dz]
  |cons x r c=>grind [dz]
 |some w=>
  rw[Tv (by simp)];have d:a∈t.map (·.1):=TV.mpr ⟨_,mG h,rfl⟩;clear h;by_cases e:a=b
  .subst e;rw[Tv rfl];induction t with
   |nil=>cases d
   |cons x r c=>grind [dz]
  .rw[TJ e];clear d;induction t with
   |nil=>rfl
   |cons x r c=>grind [dz]
structure gu(S T:PS):Prop where
 t:S.told.length<=T.told.length
 p:S.aE.length<=T.aE.length
 pf:S.aE.flat.length<=T.aE.flat.length
 s:S.settled.length<=T.settled.length
 sf:S.settled.flat.length<=T.settled.flat.length
 l:S.aH.length<=T.aH.length
 lf:S.aH.flat.length<=T.aH.flat.length
def gu.refl(S:PS):gu S S:=by
 grind [PS,gu]
def gu.trans(a:gu S T)(b:gu T U):gu S U:=⟨Ua a.t b.t,Ua a.p b.p,Ua a.pf b.pf,Ua a.s b.s,Ua a.sf b.sf,Ua a.l b.l,Ua a.lf b.lf⟩
def gu.fit(a:gu S T)(h:lG T):lG S:=⟨UQ a.t h.t,UQ a.p h.p,UQ a.pf h.pf,UQ a.s h.s,UQ a.sf h.sf,UQ a.l h.l,UQ a.lf h.lf⟩
def gb{κ α:Type}[DecidableEq κ](d:MD κ α)(k:κ)(v:α):d.length<=(d.app k v).length/\d.flat.length<=(d.app k v).flat.length:=by
 unfold MD.app;split
 .rw[TN];refine⟨Tt _,?_⟩;unfold MD.flat;rw[List.length_flatMap,List.length_flatMap,T7];induction d with
  |nil=>exact Tt _
  |cons x r a=>
   rename_i h;clear h;rw[Tw,Tw,Xh,Xh];refine Nat.add_le_add ?_ ?_
   .simp only[Function.comp];split<;>simp
   .clear a;induction r with
    |nil=>exact Tt _
    |cons y r a=>rw[Tw,Tw,Xh,Xh];exact Nat.add_le_add (by simp only[Function.comp];split<;>simp) a
 .rw[T_];unfold MD.flat;rw[Wn,T_];lia
theorem ci{a:Type}(f:PS->a->PS)(h:∀S x,gu S (f S x)):∀(l:List a)(S:PS),gu S (l.foldl f S)
 |[],S=>.refl S
 |x::l,S=>(h S x).trans (ci f h l _)
variable{pile:Int->Int->Int}{rs:RS}
def b6(S:PS)(a:ba)(p:Int)(n m:Option Int):gu S (bb pile S a p n m):=by
 unfold bb;split
 .exact⟨(wy _ _ _).1,(gb _ _ _).1,(gb _ _ _).2,Tt _,Tt _,Tt _,Tt _⟩
 .exact .refl S
def yw(S:PS)(b:Int)(r:aX)(mid a:Int):gu S (first pile S b r mid a):=gu.trans (T:=uF S b r mid a) ⟨Tt _,Tt _,Tt _,Tt _,Tt _,(gb _ _ _).1,(gb _ _ _).2⟩ (ci _ (λS x=>b6 S _ _ _ _) _ _)
def lV(a:ba)(b:Int)(S:PS)(x:Int×aX):gu S (cD pile a b S x):=by
 unfold cD;split
 .exact b6 _ _ _ _ _
 .exact yw _ _ _ _ _
def wz(S:PS)(a:ba)(b:Int):gu S (settle pile rs S a b):=(gu.trans (S:=S) (T:=note S a b) ⟨Tt _,Tt _,Tt _,(gb _ _ _).1,(gb _ _ _).2,Tt _,Tt _⟩ (ci (oM pile a b) (λS x=>b6 S _ _ _ _) _ _)).trans (ci _ (lV a b) _ _)
def Bo(S:PS)(x:Int×ba):gu S (turn pile rs S x):=by
 unfold turn;split
 .exact wz _ _ _
 .exact .refl S
theorem kq{b:Type}(f:PS->b->PS){a:ba}(h:∀S x,bF S.told a≠none->bF (f S x).told a≠none):∀(l:List b)(S:PS),bF S.told a≠none->bF (l.foldl f S).told a≠none
 |[],S,k=>k
 |x::l,S,k=>kq f h l _ (h S x k)
def qK(h:bF S.told b≠none):bF (bb pile S a p n m).told b≠none:=by
 unfold bb;split
 .show bF (tput _ _ _) _≠none;rw[iZ];split
  .simp
  .exact h
 .exact h
def DV(h:bF S.told b≠none):bF (cD pile a p S x).told b≠none:=by
 unfold cD;split
 .exact qK h
 .exact kq _ (λS x k=>qK k) _ _ (show bF (uF S _ _ _ _).told b≠none from h)
def GO(h:bF S.told b≠none):bF (turn pile rs S x).told b≠none:=by
 unfold turn;split
 .exact kq _ (λS x k=>DV k) _ _ (kq (oM pile _ _) (λS x k=>qK k) _ _ (show bF (note S _ _).told b≠none from h))
 .exact h
end Pz
namespace Pz
def Sd(S:PS)(a:ba)(q:Int):Prop:=(a.2.2,q)∈S.settled.get (a.1,a.2.1)
def lD(S:PS)(a:ba)(p:Int):Prop:=∃v,bF S.told a=some v/\v.1<=p
def JustP(sd:ba->Int->Prop)(c:Int)(put:List Int)(t p:Int)(m:Option Int):Prop:=match put with
 |[]=>m=none/\p=1/\t=c
 |[x]=>m=none/\∃q,sd (c,x,t) q/\p=q+1
 |[x,y]=>∃d q1 q2,m=some d/\sd (c,x,d) q1/\sd (d,y,t) q2/\p=q1+q2+1
 |_=>False
def JustP.mono(h:∀a q,sd a q->sd' a q)(j:JustP sd c put t p m):JustP sd' c put t p m:=by
 match put,j with
 |[],j=>exact j
 |[x],⟨e,q,s,e2⟩=>exact⟨e,q,h _ _ s,e2⟩
 |[x,y],⟨d,q1,q2,e,s1,s2,e2⟩=>exact⟨d,q1,q2,e,h _ _ s1,h _ _ s2,e2⟩
section
variable(RL:List aX)(M:List ba)
def Just(sd:ba->Int->Prop)(a:ba)(v:nh):Prop:=match v.2.1 with
 |none=>v.2.2=none/\v.1=0/\a∈M
 |some i=>∃(j:Nat)(r:aX),i=j/\RL[j]?=some r/\a.1=r.1/\a.2.1=r.2.1/\JustP sd r.2.2.1 r.2.2.2 a.2.2 v.1 v.2.2
theorem Just.mono(h:∀a q,sd a q->sd' a q)(j:Just RL M sd a v):Just RL M sd' a v:=by
 obtain⟨p,n,m⟩:=v;cases n with
 |none=>exact j
 |some i=>obtain⟨k,r,e1,e2,e3,e4,j⟩:=j;exact⟨k,r,e1,e2,e3,e4,j.mono h⟩
structure B(pile:Int->Int->Int) (U:List ba) (S:PS) (rest:List (Int×ba)):Prop where
 q:xC pile S.last S.aE
 nd:S.aE.flat.Nodup
 nr:rest.Nodup
 tk:(S.told.map (·.1)).Nodup
 tu:∀a v,bF S.told a=some v->a∈U
 ju:∀a v,bF S.told a=some v->Just RL M (Sd S) a v
 ps:∀a v,bF S.told a=some v->0<=v.1
 sd:∀a p,Sd S a p->p<=S.last/\∃v,bF S.told a=some v/\v.1=p
 sp:∀a v,bF S.told a=some v->Sd S a v.1\/(v.1,a)∈S.aE.flat\/(v.1,a)∈rest
 it:∀p a,(p,a)∈S.aE.flat\/(p,a)∈rest->lD S a p
 ns:∀p a,(p,a)∈S.aE.flat\/(p,a)∈rest->¬Sd S a p
 m0:∀a v,bF S.told a=some v->a∈M->v=(0,none,none)
end
variable{RL:List aX}{M U:List ba}{pile:Int->Int->Int}{S:PS}{rest:List (Int×ba)}
def wB(h:¬iY S a p=true):lD S a p:=by
 grind [iY,lD]
def gK(h:iY S a p=true)(e:bF S.told a=some v):p<v.1:=by unfold iY at h;rw[e]at h;exact UO h
def kZ(a:ba)(p:Int)(n m:Option Int):lD (bb pile S a p n m) a p:=by
 unfold bb;by_cases h:iY S a p=true
 .rw[Tv h];exact⟨(p,n,m),by show bF (tput _ _ _) _=_;rw[iZ,Tv rfl],Int.le_refl _⟩
 .rw[TJ h];exact wB h
def jg(h:lD S b q):lD (bb pile S a p n m) b q:=by
 unfold bb;by_cases k:iY S a p=true
 .rw[Tv k];obtain⟨v,e,c⟩:=h;by_cases e2:a=b
  .subst e2;exact⟨(p,n,m),by show bF (tput _ _ _) _=_;rw[iZ,Tv rfl],V6 (Int.lt_of_lt_of_le (gK k e) c)⟩
  .exact⟨v,by show bF (tput _ _ _) _=_;rw[iZ,TJ e2];exact e,c⟩
 .rw[TJ k];exact h
def jh(a:ba)(p:Int)(n m:Option Int):(bb pile S a p n m).settled=S.settled/\(bb pile S a p n m).aH=S.aH/\(bb pile S a p n m).last=S.last:=by unfold bb;split<;>exact⟨rfl,rfl,rfl⟩
def yx(h:S.aE.Ok)(a:ba)(p:Int)(n m:Option Int)(b:x∈(bb pile S a p n m).aE.flat):x∈S.aE.flat\/x=(p,a):=by
 unfold bb at b;split at b
 .rcases TH.mp ((fH h.nk _ _).mem_iff.mp b)with e|e
  .exact .inr e
  .exact .inl e
 .exact .inl b
def tD(h:S.aE.Ok)(a:ba)(p:Int)(n m:Option Int):(bb pile S a p n m).aE.flat.length<=S.aE.flat.length+1:=by
 unfold bb;split
 .exact Xo (fH h.nk _ _).length_eq
 .lia
theorem B.bb(b:B RL M pile U S rest)(i:Just RL M (Sd S) a (p,n,m))(j:a∈U)(f:S.last<=p)(r:(p,a)∉rest)(hs:¬Sd S a p)
 (l:a∈M->lD S a 0\/(p,n,m)=(0,none,none)):B RL M pile U (bb pile S a p n m) rest:=by
 unfold Pz.bb;by_cases k:iY S a p=true
 .rw[Tv k];have s:∀c q,Sd (ko pile S a p n m) c q↔Sd S c q:=λc q=>Iff.rfl;have tg:∀c,bF (ko pile S a p n m).told c=if a=c then some (p,n,m)else bF S.told c:=λc=>iZ _ _ _ _;have pf:=fH b.q.ok.nk (pile p S.last) (p,a);have o:0<=p:=VR b.q.l0 f;have fl:∀x,x∈(ko pile S a p n m).aE.flat↔x=(p,a)\/x∈S.aE.flat:=λx=>by show x∈(S.aE.app (pile p S.last) (p,a)).flat↔_;rw[pf.mem_iff,TH]
  refine⟨b.q.add a f,?_,b.nr,GN b.tk _ _,λc v e=>?_,λc v e=>?_,λc v e=>?_,λc q h=>?_,λc v e=>?_,λq c h=>?_,λq c h=>?_,λc v e g=>?_⟩
  .refine pf.nodup_iff.mpr (UA.mpr ⟨λh=>?_,b.nd⟩);obtain⟨v,e,d⟩:=b.it p a (.inl h);have:=gK k e;lia
  .rw[tg]at e;by_cases z:a=c
   .rw[<- z];exact j
   .rw[TJ z]at e;exact b.tu c v e
  .rw[tg]at e;by_cases z:a=c
   .rw[Tv z]at e;cases e;rw[<- z];exact i
   .rw[TJ z]at e;exact b.ju c v e
  .rw[tg]at e;by_cases z:a=c
   .rw[Tv z]at e;cases e;exact o
   .rw[TJ z]at e;exact b.ps c v e
  .obtain⟨h1,v,e,d⟩:=b.sd c q h;refine⟨h1,v,?_,d⟩;rw[tg,TJ (λz=>?_)]
   .exact e
   .subst z;have:=gK k e;lia
  .rw[tg]at e;by_cases z:a=c
   .rw[Tv z]at e;cases e;subst z;exact .inr (.inl ((fl _).mpr (.inl rfl)))
   .rw[TJ z]at e;rcases b.sp c v e with h|h|h
    .exact .inl h
    .exact .inr (.inl ((fl _).mpr (.inr h)))
    .exact .inr (.inr h)
  .have:(q,c)=(p,a)\/(q,c)∈S.aE.flat\/(q,c)∈rest:=by
    rcases h with h|h
    .rcases(fl _).mp h with h|h
     .exact .inl h
     .exact .inr (.inl h)
    .exact .inr (.inr h)
   rcases this with h|h
   .cases h;exact⟨(p,n,m),by grind,Int.le_refl _⟩
   .obtain⟨v,e,d⟩:=b.it q c h;by_cases z:a=c
    .subst z;exact⟨(p,n,m),by grind,V6 (Int.lt_of_lt_of_le (gK k e) d)⟩
    .exact⟨v,by grind,d⟩
  .rcases h with h|h
   .rcases(fl _).mp h with h|h
    .cases h;exact hs
    .exact b.ns q c (.inl h)
   .exact b.ns q c (.inr h)
  .rw[tg]at e;by_cases z:a=c
   .rw[Tv z]at e;cases e;subst z;rcases l g with⟨v,e,d⟩|h
    .have:=gK k e;lia
    .exact h
   .rw[TJ z]at e;exact b.m0 c v e g
 .rw[TJ k];exact b
end Pz
namespace Pz
section
variable(RL:List aX)(M U:List ba)(pile:Int->Int->Int)
structure BG(S:PS) (rest:List (Int×ba)):Prop where
 b:B RL M pile U S rest
 gt:∀x∈S.aE.flat,S.last<x.1
 eq:∀x∈rest,x.1=S.last
 mh:∀a∈M,lD S a 0
structure Ext(S T:PS) (rest:List (Int×ba)) (k:Nat):Prop where
 bg:BG RL M U pile T rest
 mono:∀a p,lD S a p->lD T a p
 se:T.settled=S.settled
 la:T.last=S.last
 len:T.aE.flat.length<=S.aE.flat.length+k
end
variable{RL:List aX}{M U:List ba}{pile:Int->Int->Int}{rs:RS}{S T V:PS}{rest:List (Int×ba)}{k l:Nat}
def tE(h:T.settled=S.settled):Sd T=Sd S:=by unfold Sd;rw[h]
theorem Ext.trans(x:Ext RL M U pile S T rest k)(y:Ext RL M U pile T V rest l):Ext RL M U pile S V rest (k+l):=⟨y.bg,λa p h=>y.mono a p (x.mono a p h),y.se.trans x.se,y.la.trans x.la,by have:=x.len;have:=y.len;lia⟩
theorem BG.bb(g:BG RL M U pile S rest)(f:Just RL M (Sd S) a (p,n,m))(i:a∈U)(e:S.last<p):Ext RL M U pile S (bb pile S a p n m) rest 1:=by
 obtain⟨e1,e2,e3⟩:=jh (pile:=pile) (S:=S) a p n m;have c:=g.b.bb f i (V6 e) (λh=>by have:=g.eq _ h;dsimp only at this;lia) (λh=>by have:=(g.b.sd _ _ h).1;lia) λh=>.inl (g.mh a h);refine⟨⟨c,λx d=>?_,λx d=>by rw[e3];exact g.eq x d,λb c=>jg (g.mh b c)⟩,λb q h=>jg h,e1,e3,tD g.b.q.ok _ _ _ _⟩;rw[e3];rcases yx g.b.q.ok _ _ _ _ d with h|rfl
 .exact g.gt x h
 .exact e
theorem lW{b:Type}(fa:b->ba)(fp:b->Int)(fn a:b->Option Int):∀(l:List b){S:PS},BG RL M U pile S rest->
 (∀x∈l,Just RL M (Sd S) (fa x) (fp x,fn x,a x)/\fa x∈U/\S.last<fp x)->
 Ext RL M U pile S (l.foldl (λS x=>bb pile S (fa x) (fp x) (fn x) (a x)) S) rest l.length/\(l.foldl (λS x=>bb pile S (fa x) (fp x) (fn x) (a x)) S).aH=S.aH/\
 ∀x∈l,lD (l.foldl (λS x=>bb pile S (fa x) (fp x) (fn x) (a x)) S) (fa x) (fp x)
 |[],S,g,_=>⟨⟨g,λ_ _ h=>h,rfl,rfl,Tt _⟩,rfl,λ_ h=>nomatch h⟩
 |x::l,S,g,h=>by
  obtain⟨j,u,lt⟩:=h x TF;have e:=g.bb j u lt;obtain⟨r,c,d⟩:=lW fa fp fn a l (S:=bb pile S (fa x) (fp x) (fn x) (a x)) e.bg λy hy=>by rw[tE e.se,e.la];exact h y (TB _ hy)
  rw[Vo,T2,Xp];refine⟨e.trans r,c.trans (jh _ _ _ _).2.1,λy hy=>?_⟩;rcases TH.mp hy with rfl|hy
  .exact r.mono _ _ (kZ _ _ _ _)
  .exact d y hy
structure xt(RL:List aX) (M U:List ba) (rs:RS):Prop where
 m_:∀r∈RL,r.2.2.2.length<=2
 to:∀{n r c x},(n,r)∈rs.get (c,x)->∃(j:Nat)(l:List Int),n=j/\RL[j]?=some r/\r.2.2.1=c/\r.2.2.2=x::l
 of:∀{j:Nat}{r:aX}{x l},RL[j]?=some r->r.2.2.2=x::l->((j:Int),r)∈rs.get (r.2.2.1,x)
 u1:∀a∈M,a∈U
 u2:∀r∈RL,(r.1,r.2.1,r.2.2.1)∈U
 u3:∀r∈RL,∀s x t,(s,x,t)∈U->(r.1,r.2.1,t)∈U
def SK(RL:List aX)(S:PS):Prop:=∀(j:Nat)(r:aX),RL[j]?=some r->match r.2.2.2 with
 |[]=>lD S (r.1,r.2.1,r.2.2.1) 1
 |[x]=>∀t q,Sd S (r.2.2.1,x,t) q->lD S (r.1,r.2.1,t) (q+1)
 |[x,y]=>∀d t q1 q2,Sd S (r.2.2.1,x,d) q1->Sd S (d,y,t) q2->lD S (r.1,r.2.1,t) (q1+q2+1)
 |_=>True
structure Lk(RL:List aX) (S:PS):Prop where
 ok:S.aH.Ok
 to:∀{n r q d y},(n,r,q)∈S.aH.get (d,y)->∃(j:Nat)(x:Int),n=j/\RL[j]?=some r/\r.2.2.2=[x,y]/\Sd S (r.2.2.1,x,d) q
 of:∀{j:Nat}{r:aX}{x y d q},RL[j]?=some r->r.2.2.2=[x,y]->Sd S (r.2.2.1,x,d) q->((j:Int),r,q)∈S.aH.get (d,y)
theorem IB(Hs:xt RL M U rs)(d:a∈U)(G:0<=p):∀(l:List (Int×aX)){S:PS},BG RL M U pile S rest->S.aH.Ok->S.settled.Ok->S.last=p->Sd S a p->(∀x∈l,x∈rs.get (a.1,a.2.1))->
 Ext RL M U pile S (l.foldl (cD pile a p) S) rest (l.length*S.settled.flat.length)/\(l.foldl (cD pile a p) S).aH.Ok/\(l.foldl (cD pile a p) S).aH.flat.length<=S.aH.flat.length+l.length/\
 (∀k z,z∈(l.foldl (cD pile a p) S).aH.get k↔z∈S.aH.get k\/∃x∈l,x.2.2.2.2.length=2/\k=(a.2.2,nth1 x.2.2.2.2)/\z=(x.1,x.2,p))/\
 (∀x∈l,x.2.2.2.2.length=1->lD (l.foldl (cD pile a p) S) (x.2.1,x.2.2.1,a.2.2) (p+1))/\
 ∀x∈l,x.2.2.2.2.length=2->∀t q,Sd S (a.2.2,nth1 x.2.2.2.2,t) q->lD (l.foldl (cD pile a p) S) (x.2.1,x.2.2.1,t) (p+q+1)
 |[],S,g,ok,so,A,ha,_=>⟨⟨g,λ_ _ h=>h,rfl,rfl,Nat.le_add_right _ _⟩,ok,by simp,(λk z=>⟨.inl,λh=>h.elim id λ⟨x,h,_⟩=>(TU h).elim⟩),(λ_ h=>(TU h).elim),λ_ h=>(TU h).elim⟩
 |x::l,S,g,ok,so,A,ha,f=>by
  obtain⟨n,r⟩:=x;obtain⟨j,H,rfl,o,B,I⟩:=Hs.to (f _ TF);have s:r∈RL:=UH o;have Z:=Hs.m_ r s;have J:1<=S.settled.flat.length:=List.length_pos_of_mem (mF _ ha);have one:Ext RL M U pile S (cD pile a p S ((j:Int),r)) rest S.settled.flat.length/\(cD pile a p S ((j:Int),r)).aH.Ok/\(cD pile a p S ((j:Int),r)).aH.flat.length<=S.aH.flat.length+1/\
   (∀k z,z∈(cD pile a p S ((j:Int),r)).aH.get k↔z∈S.aH.get k\/(r.2.2.2.length=2/\k=(a.2.2,nth1 r.2.2.2)/\z=((j:Int),r,p)))/\
   (r.2.2.2.length=1->lD (cD pile a p S ((j:Int),r)) (r.1,r.2.1,a.2.2) (p+1))/\
   (r.2.2.2.length=2->∀t q,Sd S (a.2.2,nth1 r.2.2.2,t) q->lD (cD pile a p S ((j:Int),r)) (r.1,r.2.1,t) (p+q+1)):=by
   unfold cD;by_cases h1:r.2.2.2.length=1
   .rw[Tv (show((j:Int),r).2.2.2.2.length=1 from h1)];have c:r.2.2.2=[a.2.1]:=by grind
    have e:=g.bb (a:=(r.1,r.2.1,a.2.2)) (p:=p+1) (n:=some (j:Int)) (m:=none) ⟨j,r,rfl,o,rfl,rfl,by rw[c];exact⟨rfl,p,by rw[B];exact ha,rfl⟩⟩ (Hs.u3 r s _ _ _ d) (by lia);obtain⟨_,e2,_⟩:=jh (pile:=pile) (S:=S) (r.1,r.2.1,a.2.2) (p+1) (some (j:Int)) none;refine⟨⟨e.bg,e.mono,e.se,e.la,Ua e.len (WY J _)⟩,by grind,by grind,λk z=>?_,λ_=>kZ _ _ _ _,λh=>by lia⟩
    grind
   .rw[TJ (show ¬((j:Int),r).2.2.2.2.length=1 from h1)];have C:r.2.2.2.length=2:=by grind
    obtain⟨y,c⟩ : ∃y,r.2.2.2=[a.2.1,y]:=by
     rw[I]at C ⊢
     match H,C with
     |[y],_=>exact⟨y,rfl⟩
    have K:nth1 r.2.2.2=y:=by rw[c];rfl
    have g1:BG RL M U pile (uF S (j:Int) r a.2.2 p) rest:=⟨⟨g.b.q,g.b.nd,g.b.nr,g.b.tk,g.b.tu,g.b.ju,g.b.ps,g.b.sd,g.b.sp,g.b.it,g.b.ns,g.b.m0⟩,g.gt,g.eq,g.mh⟩;obtain⟨e,e2,e3⟩:=lW (λx:Int×Int=>(r.1,r.2.1,x.1)) (λx=>p+x.2+1) (λ_=>some (j:Int)) (λ_=>some a.2.2) (S.settled.get (a.2.2,nth1 r.2.2.2)) g1 λx hx=>by
     have D:Sd S (a.2.2,y,x.1) x.2:=by rw[K]at hx;exact hx
     obtain⟨_,v,E,hv⟩:=g.b.sd _ _ D;have:=g.b.ps _ _ E;refine⟨⟨j,r,rfl,o,rfl,rfl,?_⟩,Hs.u3 r s _ _ _ (g.b.tu _ _ E),by show S.last<_;lia⟩;rw[c];exact⟨a.2.2,p,x.2,rfl,by rw[B];exact ha,D,rfl⟩
    have L:∀k z,z∈(first pile S (j:Int) r a.2.2 p).aH.get k↔z∈S.aH.get k\/(r.2.2.2.length=2/\k=(a.2.2,nth1 r.2.2.2)/\z=((j:Int),r,p)):=λk z=>by
     show z∈(List.foldl _ _ _:PS).aH.get k↔_;rw[e2];show z∈(S.aH.app _ _).get k↔_
     grind [pj,nth1]
    have lk:(first pile S (j:Int) r a.2.2 p).aH=S.aH.app (a.2.2,nth1 r.2.2.2) ((j:Int),r,p):=e2;refine⟨⟨e.bg,λb q h=>e.mono b q h,e.se,e.la,Ua e.len (WY (pk _ _) _)⟩,by rw[lk];exact nQ ok _ _,by rw[lk,(fH ok.nk _ _).length_eq];exact Tt _,L,λh=>by lia,λ_ t q h=>e3 (t,q) h⟩
  obtain⟨e,u,N,w,O,P⟩:=one;obtain⟨i,Q,r2,R,W,X⟩:=IB Hs d G l e.bg u (by rw[e.se];exact so) (by rw[e.la];exact A) (by rw[tE e.se];exact ha) λy Y=>f y (TB _ Y);rw[Vo,T2];rw[e.se]at i;refine⟨by rw[Nat.add_mul,Nat.one_mul,Xp];exact e.trans i,Q,by lia,λk z=>?_,λx hx h=>?_,λx hx h t q F=>?_⟩
  .rw[R,w];constructor
   .rintro((h|h)|⟨x,hx,h⟩)
    .exact .inl h
    .exact .inr ⟨_,TF,h⟩
    .exact .inr ⟨x,TB _ hx,h⟩
   .grind
  .rcases TH.mp hx with rfl|hx
   .exact i.mono _ _ (O h)
   .exact W x hx h
  .rcases TH.mp hx with rfl|hx
   .exact i.mono _ _ (P h t q F)
   .exact X x hx h t q (by rw[tE e.se];exact F)
end Pz
namespace Pz
section
variable(RL:List aX)(M U:List ba)(pile:Int->Int->Int)(C:Nat)
structure SN(S:PS) (k:Nat):Prop where
 so:S.settled.Ok
 G:∃G:List ba,G.Nodup/\G.length=S.settled.flat.length/\∀a∈G,∃q,Sd S a q
 ln:S.aH.flat.length<=RL.length*S.settled.flat.length
 pn:S.aE.flat.length+k<=C+RL.length*(S.settled.flat.length*S.settled.flat.length)
structure I(S:PS) (rest:List (Int×ba)):Prop where
 bg:BG RL M U pile S rest
 Na:SK RL S
 lk:Lk RL S
 cnt:SN RL C S rest.length
end
variable{RL:List aX}{M U:List ba}{pile:Int->Int->Int}{rs:RS}{S T:PS}{rest:List (Int×ba)}{C:Nat}
def sd_note:Sd (note S a p) c q↔Sd S c q\/(a=c/\p=q):=by
 grind [Sd,note,pj]
theorem I.settle(Hs:xt RL M U rs)(D:∀k,(rs.get k).length<=RL.length)(i:I RL M U pile C S ((p,a)::rest))(R:bF S.told a=some v)(N:v.1=p) :
 I RL M U pile C (settle pile rs S a p) rest/\(settle pile rs S a p).settled.flat.length=S.settled.flat.length+1:=by
 have b:=i.bg.b;have pl:p=S.last:=i.bg.eq _ TF;have p0:0<=p:=by rw[pl];exact b.q.l0
 have E:a∈U:=b.tu a v R;have nS:∀q,¬Sd S a q:=λq h=>by obtain⟨_,w,e,ew⟩:=b.sd a q h;rw[R]at e;cases e;rw[<- ew,N]at h;exact b.ns p a (.inr TF) h
 have nr:=UA.mp b.nr;have m:∀c q,Sd S c q->Sd (note S a p) c q:=λc q h=>sd_note.mpr (.inl h);have u:Sd (note S a p) a p:=sd_note.mpr (.inr ⟨rfl,rfl⟩);have g1:BG RL M U pile (note S a p) rest:=by
  refine⟨⟨b.q,b.nd,nr.2,b.tk,b.tu,λc w e=>(b.ju c w e).mono RL M m,b.ps,λc q h=>?_,λc w e=>?_,λq c h=>?_,λq c h k=>?_,b.m0⟩,i.bg.gt,λx A=>i.bg.eq x (TB _ A),i.bg.mh⟩
  .rcases sd_note.mp h with h|⟨rfl,rfl⟩
   .exact b.sd c q h
   .exact⟨Int.le_of_eq pl,v,R,N⟩
  .rcases b.sp c w e with h|h|h
   .exact .inl (m _ _ h)
   .exact .inr (.inl h)
   .rcases TH.mp h with h|h
    .cases h;exact .inl u
    .exact .inr (.inr h)
  .exact b.it q c (h.elim .inl λh=>.inr (TB _ h))
  .rcases sd_note.mp k with k|⟨rfl,rfl⟩
   .exact b.ns q c (h.elim .inl λh=>.inr (TB _ h)) k
   .rcases h with h|h
    .have:=i.bg.gt _ h;dsimp only at this;lia
    .exact nr.1 h
 have so1:(note S a p).settled.Ok:=nQ i.cnt.so _ _;have V:(note S a p).settled.flat.length=S.settled.flat.length+1:=(fH i.cnt.so.nk _ _).length_eq;obtain⟨e1,l1,h1⟩:=lW (λx:Int×aX×Int=>(x.2.1.1,x.2.1.2.1,a.2.2)) (λx=>x.2.2+p+1) (λx=>some x.1) (λ_=>some a.1) (S.aH.get (a.1,a.2.1)) g1 λx A=>by obtain⟨n,r,q⟩:=x;obtain⟨j,y,rfl,o,B,s⟩:=i.lk.to A;obtain⟨_,w,tw,hw⟩:=b.sd _ _ s;have:=b.ps _ _ tw;refine⟨⟨j,r,rfl,o,rfl,rfl,?_⟩,Hs.u3 r (UH o) _ _ _ E,by show S.last<q+p+1;lia⟩;show JustP _ r.2.2.1 r.2.2.2 _ _ _;rw[B];exact⟨a.1,q,p,rfl,m _ _ s,u,rfl⟩
 generalize W:(S.aH.get (a.1,a.2.1)).foldl (λS x=>bb pile S (x.2.1.1,x.2.1.2.1,a.2.2) (x.2.2+p+1) (some x.1) (some a.1)) (note S a p)=F at e1 l1 h1;have s2:F.settled=(note S a p).settled:=e1.se;have H:Sd F=Sd (note S a p):=tE s2;have O:F.aH=S.aH:=l1;obtain⟨e2,k1,k2,k3,X,Y⟩:=IB (rs:=rs) Hs E p0 (rs.get (a.1,a.2.1)) e1.bg (by rw[O];exact i.lk.ok) (by grind) (by rw[e1.la,pl];rfl) (by rw[H];exact u) λx A=>A;have eT:(rs.get (a.1,a.2.1)).foldl (cD pile a p) F=Pz.settle pile rs S a p:=by rw[<- W];rfl
 rw[eT]at e2 k1 k2 k3 X Y;generalize Pz.settle pile rs S a p=T at e2 k1 k2 k3 X Y;have P:T.settled=(note S a p).settled:=e2.se.trans s2;have g:∀c q,Sd T c q↔Sd S c q\/(a=c/\p=q):=λc q=>by rw[tE P];exact sd_note
 have Z:∀{j:Nat}{r:aX}{x d l},RL[j]?=some r->r.2.2.2=x::l->a=(r.2.2.1,x,d)->((j:Int),r)∈rs.get (a.1,a.2.1):=λo N h=>by rw[h];exact Hs.of o N
 have mono:∀c q,lD S c q->lD T c q:=λc q h=>e2.mono _ _ (e1.mono _ _ h);refine⟨⟨e2.bg,?_,⟨k1,?_,?_⟩,⟨by grind,?_,?_,?_⟩⟩,by grind⟩
 .intro j r o;have hc:=i.Na j r o;cases f:r.2.2.2 with
  |nil=>rw[f]at hc;exact mono _ _ hc
  |cons x ys=>
   cases ys with
   |nil=>
    rw[f]at hc;intro t q s;rcases(g _ _).mp s with h|⟨h,rfl⟩
    .exact mono _ _ (hc t q h)
    .obtain rfl:a.2.2=t:=by rw[h]
     exact X ((j:Int),r) (Z o f h) (by rw[f];rfl)
   |cons y zs=>
    cases zs with
    |cons _ _=>trivial
    |nil=>
     rw[f]at hc;intro d t q1 q2 hq1 J;have ny:nth1 r.2.2.2=y:=by rw[f];rfl
     rcases(g _ _).mp hq1 with K|⟨K,rfl⟩
     .rcases(g _ _).mp J with Q|⟨Q,rfl⟩
      .exact mono _ _ (hc d t q1 q2 K Q)
      .obtain rfl:a.2.2=t:=by rw[Q]
       exact e2.mono _ _ (h1 ((j:Int),r,q1) (by rw[Q];exact i.lk.of o f K))
     .obtain rfl:a.2.2=d:=by rw[K]
      refine Y ((j:Int),r) (Z o f K) (by rw[f];rfl) t q2 ?_;rw[ny,H,<- tE P];exact J
 .intro n r q d y h;rcases(k3 _ _).mp h with h|⟨x,A,L,hk,hz⟩
  .rw[O]at h;obtain⟨j,x,e1,e2,e3,e4⟩:=i.lk.to h;exact⟨j,x,e1,e2,e3,(g _ _).mpr (.inl e4)⟩
  .obtain⟨n',r'⟩:=x;obtain⟨rfl,hz⟩:=Prod.mk.inj hz;obtain⟨rfl,s⟩:=Prod.mk.inj hz;obtain⟨j,l,rfl,o,hc,f⟩:=Hs.to A;obtain⟨rfl,B⟩:=Prod.mk.inj hk;have L:r.2.2.2.length=2:=L;have B:y=nth1 r.2.2.2:=B;rw[f]at L B;refine⟨j,a.2.1,rfl,o,?_,(g _ _).mpr (.inr ⟨by rw[hc],s.symm⟩)⟩;rcases l with _|⟨z,_|_⟩
   .cases L
   .rw[f,B];rfl
   .cases L
 .intro j r x y d q o f s;rw[k3];rcases(g _ _).mp s with h|⟨h,rfl⟩
  .rw[O];exact .inl (i.lk.of o f h)
  .exact .inr ⟨((j:Int),r),Z o f h,by rw[f];rfl,by rw[f,h];rfl,rfl⟩
 .obtain⟨G,g1,g2,g3⟩:=i.cnt.G;refine⟨a::G,UA.mpr ⟨λh=>?_,g1⟩,by grind,λc hc=>?_⟩
  .obtain⟨q,s⟩:=g3 a h;exact nS q s
  .rcases TH.mp hc with rfl|hc
   .exact⟨p,(g _ _).mpr (.inr ⟨rfl,rfl⟩)⟩
   .obtain⟨q,s⟩:=g3 c hc;exact⟨q,(g _ _).mpr (.inl s)⟩
 .have:=i.cnt.ln;have:=D (a.1,a.2.1);rw[P,V,Xi,Nat.mul_one];rw[O]at k2;lia
 .have c1:=i.cnt.pn;have c2:=e1.len;have c3:=e2.len;have c4:=i.cnt.ln;have c5:=pk S.aH (a.1,a.2.1);have c6:(rs.get (a.1,a.2.1)).length*F.settled.flat.length<=RL.length*(S.settled.flat.length+1):=by rw[s2,V];exact Nat.mul_le_mul_right _ (D _)
  rw[T2]at c1;have c7:(note S a p).aE.flat.length=S.aE.flat.length:=rfl;rw[P,V];have c8:RL.length*((S.settled.flat.length+1)*(S.settled.flat.length+1))=RL.length*(S.settled.flat.length*S.settled.flat.length)+RL.length*S.settled.flat.length+RL.length*(S.settled.flat.length+1):=by rw[Nat.add_mul,Nat.one_mul,Xi RL.length,Xi S.settled.flat.length,Nat.mul_one,Xi RL.length (S.settled.flat.length*S.settled.flat.length)]
  rw[c8];lia
def I.skip(i:I RL M U pile C S (x::rest))(h:¬Nq S x=true):I RL M U pile C S rest:=by
 have b:=i.bg.b;refine⟨⟨⟨b.q,b.nd,(UA.mp b.nr).2,b.tk,b.tu,b.ju,b.ps,b.sd,λc w e=>?_,λq c h=>b.it q c (h.elim .inl λh=>.inr (TB _ h)),λq c h=>b.ns q c (h.elim .inl λh=>.inr (TB _ h)),b.m0⟩,i.bg.gt,λy a=>i.bg.eq y (TB _ a),i.bg.mh⟩,i.Na,i.lk,i.cnt.so,i.cnt.G,i.cnt.ln,by have:=i.cnt.pn;rw[T2]at this;lia⟩;rcases b.sp c w e with k|k|k
 .exact .inl k
 .exact .inr (.inl k)
 .grind [Nq]
theorem I.batch(Hs:xt RL M U rs)(b:∀k,(rs.get k).length<=RL.length):∀(l:List (Int×ba)){S:PS},I RL M U pile C S l->
 I RL M U pile C (batch pile rs S l) []/\S.settled.flat.length<=(batch pile rs S l).settled.flat.length/\((batch pile rs S l).settled.flat.length=S.settled.flat.length->batch pile rs S l=S)
 |[],S,i=>⟨i,Tt _,λ_=>rfl⟩
 |x::l,S,i=>by
  show I RL M U pile C (Pz.batch pile rs (turn pile rs S x) l) []/\_<=(Pz.batch pile rs (turn pile rs S x) l).settled.flat.length/\((Pz.batch pile rs (turn pile rs S x) l).settled.flat.length=_->Pz.batch pile rs (turn pile rs S x) l=S);unfold turn;by_cases h:Nq S x=true
  .rw[Tv h];obtain⟨p,a⟩:=x;unfold Nq at h;cases e:bF S.told a with
   |none=>rw[show((p,a):Int×ba).2=a from rfl,e]at h;cases h
   |some v=>rw[show((p,a):Int×ba).2=a from rfl,e]at h;obtain⟨j,n⟩:=i.settle Hs b e (UO h);obtain⟨c,d,f⟩:=I.batch Hs b l j;exact⟨c,by grind,λq=>by grind⟩
  .rw[TJ h];exact I.batch Hs b l (i.skip h)
structure Top(RL:List aX) (M U:List ba) (pile:Int->Int->Int) (C:Nat) (S:PS):Prop where
 b:B RL M pile U S []
 mh:∀a∈M,lD S a 0
 Na:SK RL S
 lk:Lk RL S
 cnt:SN RL C S 0
def I.top(i:I RL M U pile C S []):Top RL M U pile C S:=⟨i.bg.b,i.bg.mh,i.Na,i.lk,i.cnt⟩
theorem Top.take(P:vh pile)(t:Top RL M U pile C S)(d:S.aE≠[]):I RL M U pile C (take pile S) (dL pile S.aE):=by
 have b:=t.b;have k:=Bm P b.q d;have mem:∀x,x∈S.aE.flat↔x∈(left pile S.aE).flat\/x∈dL pile S.aE:=λx=>by rw[k.pm.mem_iff,T1];exact Or.comm
 obtain⟨f,g,_⟩:=VM.mp (k.pm.nodup_iff.mp b.nd);have no:∀{q c},(q,c)∉([]:List (Int×ba)):=λh=>nomatch h;refine⟨⟨⟨k.ok,g,f,b.tk,b.tu,b.ju,b.ps,λa p h=>⟨VR (b.sd a p h).1 k.ge,(b.sd a p h).2⟩,λa v e=>?_,λp a h=>b.it p a (.inl ((mem _).mpr h)),λp a h=>b.ns p a (.inl ((mem _).mpr h)),b.m0⟩,k.lt,k.eq,t.mh⟩,t.Na,⟨t.lk.ok,t.lk.to,t.lk.of⟩,t.cnt.so,t.cnt.G,t.cnt.ln,?_⟩
 .rcases b.sp a v e with h|h|h
  .exact .inl h
  .exact .inr ((mem _).mp h)
  .exact(no h).elim
 .have h1:=k.pm.length_eq;rw[T_]at h1;have i:=t.cnt.pn;show(left pile S.aE).flat.length+(dL pile S.aE).length<=_;show _<=C+RL.length*(S.settled.flat.length*S.settled.flat.length);lia
theorem mH{α:Type}[DecidableEq α]:∀(l m:List α),l.Nodup->(∀x∈l,x∈m)->l.length<=m.length
 |[],m,_,_=>Ul _
 |x::l,m,nd,h=>by
  have c:=h x TF;have a:=UA.mp nd;have:=mH l (m.erase x) a.2 λy b=>(List.mem_erase_of_ne (λ(e:y=x)=>a.1 (by grind))).mpr (h y (TB _ b))
  grind
def Top.m_(t:Top RL M U pile C S):S.settled.flat.length<=U.length/\S.told.length<=U.length:=by
 obtain⟨G,g1,g2,g3⟩:=t.cnt.G;constructor
 .rw[<- g2];exact mH G U g1 λa ha=>by obtain⟨q,c⟩:=g3 a ha;obtain⟨_,v,e,_⟩:=t.b.sd a q c;exact t.b.tu a v e
 .have:=mH (S.told.map (·.1)) U t.b.tk λa ha=>by obtain⟨x,d,rfl⟩:=TV.mp ha;exact t.b.tu x.1 x.2 (qJ t.b.tk d)
  rwa [TN]at this
def Top.fit(t:Top RL M U pile C S)(c:C+RL.length*(U.length*U.length)<L)(d:RL.length*U.length<L)(e:U.length<L):lG S:=by obtain⟨a,f⟩:=t.m_;have g:=jf t.b.q.ok;have h:=jf t.cnt.so;have i:=jf t.lk.ok;have j:=t.cnt.pn;have k:RL.length*(S.settled.flat.length*S.settled.flat.length)<=RL.length*(U.length*U.length):=W0 _ (Wj a a);have l:=t.cnt.ln;have m:RL.length*S.settled.flat.length<=RL.length*U.length:=W0 _ a;constructor<;>lia
def Top.loop(P:vh pile)(Hs:xt RL M U rs)(g:∀k,(rs.get k).length<=RL.length)(p:C+RL.length*(U.length*U.length)<L)(s:RL.length*U.length<L)(u:U.length<L) :
 ∀(a b:Nat)(S:PS),Top RL M U pile C S->U.length-S.settled.flat.length<=a->S.aE.flat.length<=b->∃n T,Loop pile rs n S T/\Top RL M U pile C T/\T.aE=[]:=by
 have step:∀S,Top RL M U pile C S->S.aE≠[]->let S2:=batch pile rs (Pz.take pile S) (dL pile S.aE);Top RL M U pile C S2/\(∀n T,Loop pile rs n S2 T->Loop pile rs (n+1) S T)/\
  (S.settled.flat.length<S2.settled.flat.length\/S2.settled.flat.length=S.settled.flat.length/\S2.aE.flat.length<S.aE.flat.length):=by
  intro S t c;obtain⟨i,h1,w⟩:=I.batch Hs g _ (t.take P c);have d:=i.top;refine⟨d,λn T l=>.step c t.b.q (λx y=>?_) (t.fit p s u) (d.fit p s u) l,?_⟩
  .obtain⟨v,e,_⟩:=t.b.it x.1 x.2 (.inl ((Bm P t.b.q c).pm.mem_iff.mpr (T1.mpr (.inl y))));rw[e];simp
  have k:=Bm P t.b.q c;by_cases e:(batch pile rs (Pz.take pile S) (dL pile S.aE)).settled.flat.length=S.settled.flat.length
  .refine .inr ⟨e,?_⟩;rw[w e];show(left pile S.aE).flat.length<_;rw[k.pm.length_eq,T_];have:=WZ.mpr k.ne;lia
  .have h1:S.settled.flat.length<=(batch pile rs (Pz.take pile S) (dL pile S.aE)).settled.flat.length:=h1;exact .inl (by lia)
 intro a;induction a with
 |zero=>
  intro b;induction b with
  |zero=>intro S t _ j;have:S.aE=[]:=UD.mp (by have:=jf t.b.q.ok;lia);exact⟨0,S,.done this,t,this⟩
  |succ b m=>
   intro S t ha j;by_cases c:S.aE=[]
   .exact⟨0,S,.done c,t,c⟩
   obtain⟨d,f,hd⟩:=step S t c;have:=d.m_.1;obtain⟨n,T,l,r⟩:=m _ d (by rcases hd with h|h<;>lia) (by rcases hd with h|h<;>lia);exact⟨_,T,f _ _ l,r⟩
 |succ a o=>
  intro b;induction b with
  |zero=>intro S t _ j;have:S.aE=[]:=UD.mp (by have:=jf t.b.q.ok;lia);exact⟨0,S,.done this,t,this⟩
  |succ b m=>
   intro S t ha j;by_cases c:S.aE=[]
   .exact⟨0,S,.done c,t,c⟩
   obtain⟨d,f,hd⟩:=step S t c;have:=d.m_.1;rcases hd with h|h
   .obtain⟨n,T,l,r⟩:=o _ _ d (by lia) (Tt _);exact⟨_,T,f _ _ l,r⟩
   .obtain⟨n,T,l,r⟩:=m _ d (by lia) (by lia);exact⟨_,T,f _ _ l,r⟩
end Pz
namespace Pz
noncomputable def en:List aX->Nat->List (Int×aX)
 |[],_=>[]
 |r::l,k=>((k:Int),r)::en l (k+1)
theorem en_mem:∀{l:List aX}{k:Nat}{n:Int}{r:aX},(n,r)∈en l k↔∃j:Nat,n=((k+j:Nat):Int)/\l[j]?=some r
 |[],k,n,r=>⟨λh=>(TU h).elim,λ⟨j,_,h⟩=>by simp at h⟩
 |x::l,k,n,r=>by
  unfold en;rw[TH,en_mem];constructor
  .rintro(h|⟨j,rfl,h⟩)
   .obtain⟨rfl,rfl⟩:=Prod.mk.inj h;exact⟨0,rfl,rfl⟩
   .exact⟨j+1,by lia,by simpa using h⟩
  .rintro⟨j,rfl,h⟩;cases j with
   |zero=>left;simp at h;subst h;rfl
   |succ j=>exact .inr ⟨j,by lia,by simpa using h⟩
theorem qL:∀(l:List aX)(k:Nat),(en l k).length=l.length:=by intro l;induction l<;>grind [en]
def hZ(d:RS)(x:Int×aX):RS:=if x.2.2.2.2.length>0 then d.app (x.2.2.2.1,x.2.2.2.2[0]?.getD 0) x else d
def bN(RL:List aX):RS:=(en RL 0).foldl hZ []
def Bp(d:RS)(x:Int×aX)(k:Int×Int)(z:Int×aX):z∈(hZ d x).get k↔z∈d.get k\/(z=x/\∃y l,x.2.2.2.2=y::l/\k=(x.2.2.2.1,y)):=by
 unfold hZ;cases h:x.2.2.2.2 with
 |nil=>grind
 |cons y l=>
  rw[Tv (by simp),pj]
  grind
theorem uG:∀(l:List (Int×aX))(d:RS)(k:Int×Int)(z:Int×aX),z∈(l.foldl hZ d).get k↔z∈d.get k\/(z∈l/\∃y b,z.2.2.2.2=y::b/\k=(z.2.2.2.1,y))
 |[],d,k,z=>⟨.inl,λq=>q.elim id λq=>(TU q.1).elim⟩
 |x::l,d,k,z=>by
  rw[Vo,uG l,Bp,TH];constructor
  .rintro((h|⟨rfl,h⟩)|⟨h1,a⟩)
   .exact .inl h
   .exact .inr ⟨.inl rfl,h⟩
   .exact .inr ⟨.inr h1,a⟩
  .rintro(h|⟨rfl|h1,a⟩)
   .exact .inl (.inl h)
   .exact .inl (.inr ⟨rfl,a⟩)
   .exact .inr ⟨h1,a⟩
theorem yy:∀(l:List (Int×aX))(d:RS),d.Ok->(l.foldl hZ d).Ok/\(l.foldl hZ d).flat.length<=d.flat.length+l.length
 |[],d,h=>⟨h,Tt _⟩
 |x::l,d,h=>by
  rw[Vo,T2];have:(hZ d x).Ok/\(hZ d x).flat.length<=d.flat.length+1:=by
   unfold hZ;split
   .exact⟨nQ h _ _,Xo (fH h.nk _ _).length_eq⟩
   .exact⟨h,by lia⟩
  obtain⟨a,b⟩:=yy l _ this.1;exact⟨a,by lia⟩
theorem tF{κ α:Type}:MD.Ok (κ:=κ) (α:=α) []:=⟨Ub,λ_ h=>(TU h).elim⟩
def KU(RL:List aX):(bN RL).Ok/\(bN RL).flat.length<=RL.length:=by
 grind [bN,en,MD.flat,yy,tF,qL]
noncomputable def S0:PS:=⟨[],0,[],[],[]⟩
variable(pile:Int->Int->Int)
def jK(S:PS)(a:ba):PS:=bb pile S a 0 none none
def fX(S:PS)(x:Int×aX):PS:=if x.2.2.2.2.length=0 then bb pile S (x.2.1,x.2.2.1,x.2.2.2.1) 1 (some x.1) none else S
def ku(RL:List aX)(M:List ba):PS:=(en RL 0).foldl (fX pile) (M.foldl (jK pile) S0)
variable{RL:List aX}{M U:List ba}{pile}{S:PS}
structure B8(RL:List aX) (M U:List ba) (pile:Int->Int->Int) (S:PS) (k:Nat):Prop where
 b:B RL M pile U S []
 l0:S.last=0
 s0:S.settled=[]
 k0:S.aH=[]
 len:S.aE.flat.length<=k
def B8.no(h:B8 RL M U pile S k)(a:ba)(q:Int):¬Sd S a q:=by unfold Sd;rw[h.s0];exact λh=>(TU h).elim
theorem B8.bb(h:B8 RL M U pile S k)(c:Just RL M (Sd S) a (p,n,m))(d:a∈U)(e:0<=p)(f:a∈M->lD S a 0\/(p,n,m)=(0,none,none)):B8 RL M U pile (bb pile S a p n m) (k+1):=by obtain⟨e1,e2,e3⟩:=jh (pile:=pile) (S:=S) a p n m;exact⟨h.b.bb c d (by rw[h.l0];exact e) (λh=>(TU h).elim) (h.no _ _) f,by rw[e3];exact h.l0,by rw[e1];exact h.s0,by rw[e2];exact h.k0,Ua (tD h.b.q.ok _ _ _ _) (Nat.add_le_add_right h.len 1)⟩
def RC:B8 RL M U pile S0 0:=by have no:∀{α:Type}{x:α},x∉([]:List α):=λh=>(TU h).elim;exact⟨⟨⟨tF,Int.le_refl _,λ_ h=>(no h).elim⟩,Ub,Ub,Ub,(λ_ _ h=>nomatch h),(λ_ _ h=>nomatch h),(λ_ _ h=>nomatch h),(λ_ _ h=>(no h).elim),(λ_ _ h=>nomatch h),(λ_ _ h=>h.elim (λh=>(no h).elim) λh=>(no h).elim),(λ_ _ h=>h.elim (λh=>(no h).elim) λh=>(no h).elim),(λ_ _ h=>nomatch h)⟩,rfl,rfl,rfl,Tt _⟩
theorem On:∀(l:List ba){S:PS}{k:Nat},B8 RL M U pile S k->(∀a∈l,a∈M/\a∈U)->B8 RL M U pile (l.foldl (jK pile) S) (k+l.length)/\(∀a p,lD S a p->lD (l.foldl (jK pile) S) a p)/\∀a∈l,lD (l.foldl (jK pile) S) a 0
 |[],S,k,h,_=>⟨h,λ_ _ h=>h,λ_ h=>(TU h).elim⟩
 |a::l,S,k,h,c=>by
  obtain⟨h1,f⟩:=c a TF;have e:=h.bb (a:=a) (p:=0) (n:=none) (m:=none) ⟨rfl,rfl,h1⟩ f (Int.le_refl _) λ_=>.inr rfl;obtain⟨g,d,i⟩:=On l e λb hb=>c b (TB _ hb);rw[Vo,T2,Xp l.length,<- Nat.add_assoc];refine⟨g,λb p h=>d b p (jg h),λb hb=>?_⟩;rcases TH.mp hb with rfl|hb
  .exact d _ _ (kZ _ _ _ _)
  .exact i b hb
theorem Oo(u2:∀r∈RL,(r.1,r.2.1,r.2.2.1)∈U):∀(l:List (Int×aX)){S:PS}{k:Nat},B8 RL M U pile S k->(∀a∈M,lD S a 0)->(∀x∈l,∃j:Nat,x.1=j/\RL[j]?=some x.2)->
 B8 RL M U pile (l.foldl (fX pile) S) (k+l.length)/\(∀a p,lD S a p->lD (l.foldl (fX pile) S) a p)/\∀x∈l,x.2.2.2.2=[]->lD (l.foldl (fX pile) S) (x.2.1,x.2.2.1,x.2.2.2.1) 1
 |[],S,k,h,_,_=>⟨h,λ_ _ h=>h,λ_ h=>(TU h).elim⟩
 |x::l,S,k,h,d,f=>by
  obtain⟨j,e1,e2⟩:=f x TF;have one:B8 RL M U pile (fX pile S x) (k+1)/\(∀a p,lD S a p->lD (fX pile S x) a p)/\(x.2.2.2.2=[]->lD (fX pile S x) (x.2.1,x.2.2.1,x.2.2.2.1) 1):=by
   unfold fX;by_cases c:x.2.2.2.2.length=0
   .rw[Tv c];have e:=h.bb (a:=(x.2.1,x.2.2.1,x.2.2.2.1)) (p:=1) (n:=some x.1) (m:=none) ⟨j,x.2,e1,e2,rfl,rfl,by rw[UD.mp c];exact⟨rfl,rfl,rfl⟩⟩ (u2 _ (UH e2)) (by decide) λh=>.inl (d _ h);exact⟨e,λb p h=>jg h,λ_=>kZ _ _ _ _⟩
   .rw[TJ c];exact⟨⟨h.b,h.l0,h.s0,h.k0,Nat.le_succ_of_le h.len⟩,λ_ _ h=>h,λe=>(c (by rw[e];rfl)).elim⟩
  obtain⟨o1,g,o⟩:=one;obtain⟨q,i,s⟩:=Oo u2 l o1 (λa ha=>g a 0 (d a ha)) λb hb=>f b (TB _ hb);rw[Vo,T2,Xp l.length,<- Nat.add_assoc];refine⟨q,λb p h=>i b p (g b p h),λb hb e=>?_⟩;rcases TH.mp hb with rfl|hb
  .exact i _ _ (o e)
  .exact s b hb e
structure Set(RL:List aX) (M U:List ba):Prop where
 m_:∀r∈RL,r.2.2.2.length<=2
 u1:∀a∈M,a∈U
 u2:∀r∈RL,(r.1,r.2.1,r.2.2.1)∈U
 u3:∀r∈RL,∀s x t,(s,x,t)∈U->(r.1,r.2.1,t)∈U
 big:M.length+RL.length+RL.length*(U.length*U.length)<L
 QB:RL.length*U.length<L
 QG:U.length<L
def Set.QF(h:Set RL M U):xt RL M U (bN RL):=by
 refine⟨h.m_,λ{n r c x} q=>?_,λ{j r x l} e1 e2=>?_,h.u1,h.u2,h.u3⟩
 .rcases(uG _ _ _ _).mp q with q|⟨q,y,l,e,k⟩
  .exact(TU q).elim
  .obtain⟨j,e1,e2⟩:=en_mem.mp q
   grind
 .exact(uG _ _ _ _).mpr (.inr ⟨en_mem.mpr ⟨j,by grind,e1⟩,x,l,e2,rfl⟩)
def Bq(h:Set RL M U):Top RL M U pile (M.length+RL.length) (ku pile RL M):=by
 obtain⟨f,p,e⟩:=On (RL:=RL) (M:=M) (U:=U) (pile:=pile) M RC λa ha=>⟨ha,h.u1 a ha⟩;obtain⟨c,g,i⟩:=Oo h.u2 (en RL 0) f e λx k=>by obtain⟨j,e1,e2⟩:=en_mem.mp k;exact⟨j,by grind,e2⟩
 have c:B8 RL M U pile (ku pile RL M) _:=c;refine⟨c.b,λa ha=>g a 0 (e a ha),λj r m=>?_,⟨by rw[c.k0];exact tF,λ{n r q d y} h=>by rw[c.k0]at h;exact(TU h).elim,λ_ _ h=>(c.no _ _ h).elim⟩,⟨by rw[c.s0];exact tF,⟨[],Ub,by rw[c.s0];rfl,λ_ h=>(TU h).elim⟩,by rw[c.k0];exact Ul _,?_⟩⟩
 .cases o:r.2.2.2 with
  |nil=>exact i ((j:Int),r) (en_mem.mpr ⟨j,by grind,m⟩) o
  |cons x l=>
   match l with
   |[]=>exact λt q h=>(c.no _ _ h).elim
   |[y]=>exact λd t q1 q2 h=>(c.no _ _ h).elim
   |_::_::_=>trivial
 .have:=c.len;rw[qL]at this;lia
def At(t:TD)(a:ba)(q:Int):Prop:=∃w,bF t a=some w/\w.1=q
def RD(t:TD)(a:ba)(q:Int):Prop:=∃w,bF t a=some w/\w.1<=q
structure Good(RL:List aX) (M U:List ba) (t:TD):Prop where
 nd:(t.map (·.1)).Nodup
 u:∀a v,bF t a=some v->a∈U
 ju:∀a v,bF t a=some v->Just RL M (At t) a v
 ps:∀a v,bF t a=some v->0<=v.1
 m0:∀a∈M,bF t a=some (0,none,none)
 Na:∀(j:Nat)(r:aX),RL[j]?=some r->match r.2.2.2 with
  |[]=>RD t (r.1,r.2.1,r.2.2.1) 1
  |[x]=>∀d q,At t (r.2.2.1,x,d) q->RD t (r.1,r.2.1,d) (q+1)
  |[x,y]=>∀d e q1 q2,At t (r.2.2.1,x,d) q1->At t (d,y,e) q2->RD t (r.1,r.2.1,e) (q1+q2+1)
  |_=>True
def Top.good(h:Top RL M U pile C S)(e:S.aE=[]):Good RL M U S.told:=by
 have hs:∀a q,Sd S a q↔At S.told a q:=λa q=>by
  constructor
  .intro k;exact(h.b.sd a q k).2
  .rintro⟨w,k,rfl⟩;rcases h.b.sp a w k with k|k|k
   .exact k
   .rw[e]at k;exact(TU k).elim
   .exact(TU k).elim
 refine⟨h.b.tk,h.b.tu,λa v k=>(h.b.ju a v k).mono RL M λa q=>(hs a q).mp,h.b.ps,λa ha=>?_,λj r g=>?_⟩
 .obtain⟨v,k,_⟩:=h.mh a ha;rw[k,h.b.m0 a v k ha]
 .have c:=h.Na j r g;cases f:r.2.2.2 with
  |nil=>rw[f]at c;exact c
  |cons x l=>
   rw[f]at c
   match l with
   |[]=>exact λt q k=>c t q ((hs _ _).mpr k)
   |[y]=>exact λd t q1 q2 k1 k2=>c d t q1 q2 ((hs _ _).mpr k1) ((hs _ _).mpr k2)
   |_::_::_=>trivial
def Set.run(P:vh pile)(h:Set RL M U):lG (ku pile RL M)/\∃n T,Loop pile (bN RL) n (ku pile RL M) T/\Good RL M U T.told:=by have t:=Bq (pile:=pile) h;obtain⟨n,T,l,a,e⟩:=t.loop P h.QF (λk=>Ua (pk _ k) (KU RL).2) h.big h.QB h.QG _ _ _ (Tt _) (Tt _);exact⟨t.fit h.big h.QB h.QG,n,T,l,a.good e⟩
end Pz
namespace Pz
def GP(x y k:Nat):(x ||| y)-(x &&& y)<2^k↔x/2^k=y/2^k:=by
 have d:(x ||| y)/2^k=x/2^k ||| y/2^k:=by rw[<- U4,<- U4,<- U4,Nat.shiftRight_or_distrib]
 have e:(x &&& y)/2^k=x/2^k &&& y/2^k:=by rw[<- U4,<- U4,<- U4,Nat.shiftRight_and_distrib]
 have f:(x ||| y)%2^k=x%2^k ||| y%2^k:=Nat.or_mod_two_pow;have g:(x &&& y)%2^k=x%2^k &&& y%2^k:=Nat.and_mod_two_pow;have a:0<2^k:=Nat.two_pow_pos k;have i:=Nat.div_add_mod (x ||| y) (2^k);have j:=Nat.div_add_mod (x &&& y) (2^k);have l:=Xr (x ||| y) a;have m:x/2^k &&& y/2^k<=x/2^k:=Nat.and_le_left;have n:x/2^k &&& y/2^k<=y/2^k:=Nat.and_le_right;have o:x/2^k<=x/2^k ||| y/2^k:=Nat.left_le_or;have p:y/2^k<=x/2^k ||| y/2^k:=Nat.right_le_or;have q:x%2^k &&& y%2^k<=x%2^k:=Nat.and_le_left;have r:x%2^k<=x%2^k ||| y%2^k:=Nat.left_le_or;constructor
 .intro h;refine Nat.le_antisymm ?_ ?_
  all_goals
   refine Nat.not_lt.mp λs=>?_;have b:(x &&& y)/2^k+1<=(x ||| y)/2^k:=by lia
   have c:=W0 (2^k) b;rw[Xi,Nat.mul_one]at c;lia
 .grind
def GQ(z k:Nat):(if((z:Int)==0)=true then 0 else(z:Int).natAbs.log2+1)<=k↔z<2^k:=by
 rw[Int.natAbs_natCast];by_cases h:z=0
 .subst h;rw[Tv (by decide)];exact⟨λ_=>Nat.two_pow_pos k,λ_=>Ul _⟩
 .have:¬((z:Int)==0)=true:=by simpa using h
  rw[TJ this];exact Nat.log2_lt h
end Pz
namespace L4
open PySem PySem.Spec PyProof.Rows L2 L3
section
variable{κ:Type}[DecidableEq κ]
noncomputable abbrev DX(κ:Type):=List (κ×Addr×List V)
noncomputable abbrev DX.kv(xs:DX κ):List (κ×V):=xs.map λx=>(x.1,V.ref x.2.1)
structure DL(mk:List (κ×V)->HO) (H:Hp) (a:Addr) (xs:DX κ):Prop where
 root:H a=some (mk xs.kv)
 pC:∀x∈xs,H x.2.1=some (.lst x.2.2)
 nk:(xs.map (·.1)).Nodup
 na:(xs.map (·.2.1)).Nodup
def cr(a:Addr)(xs:DX κ)(b:Addr):Prop:=b=a\/∃x∈xs,b=x.2.1
noncomputable def gL(xs:DX κ)(k:κ):Option (Addr×List V):=(xs.find? λx=>decide (x.1=k)).map (·.2)
noncomputable def nT(xs:DX κ)(k:κ)(v:V):DX κ:=xs.map λx=>if x.1=k then(x.1,x.2.1,x.2.2++[v])else x
def iF(xs:DX κ)(k:κ):cS xs.kv k=(gL xs k).map λp=>.ref p.1:=by
 induction xs with
 |nil=>rfl
 |cons x r a=>
  unfold gL at a ⊢;show cS ((x.1,V.ref x.2.1)::DX.kv r) k=_;rw[VA];by_cases h:x.1=k
  .rw[gz h,T4 h];rfl
  .rw[gA h,Uc h,a]
def Br(xs:DX κ)(k:κ)(v:V):(nT xs k v).kv=xs.kv:=by unfold nT DX.kv;rw[T7];apply U0;intro x _;show((if x.1=k then(x.1,x.2.1,x.2.2++[v])else x).1,V.ref (if x.1=k then(x.1,x.2.1,x.2.2++[v])else x).2.1)=_;split<;>rfl
def qM{e:Type}(f:κ×Addr×List V->e)(g:∀a b c d,f (a,b,c)=f (a,b,d))(xs:DX κ)(k:κ)(v:V):(nT xs k v).map f=xs.map f:=by
 unfold nT;rw[T7];apply U0;intro x _;show f (if x.1=k then(x.1,x.2.1,x.2.2++[v])else x)=_;split
 .exact g _ _ _ _
 .rfl
def cq{xs:DX κ}(h:gL xs k=some p):(k,p)∈xs:=by unfold gL at h;obtain⟨x,c,rfl⟩:=UF.mp h;have h1:=List.find?_some c;have d:=List.mem_of_find?_eq_some c;have e:x.1=k:=UO h1;obtain⟨a,b⟩:=x;dsimp only at e;subst e;exact d
def Bs{xs:DX κ}(h:gL xs k=none):k∉xs.map (·.1):=λa=>by obtain⟨x,b,rfl⟩:=TV.mp a;unfold gL at h;have:=List.find?_eq_none.mp (Option.map_eq_none_iff.mp h) x b;simp at this
variable{mk:List (κ×V)->HO}{H H':Hp}{a l:Addr}{xs:DX κ}{k:κ}{v:V}{p:Addr×List V}
def DL.old(f:∀q ws,mk q≠.lst ws)(G:DL mk H a xs)(n:gL xs k=some p)(o:H' p.1=some (.lst (p.2++[v])))(kp:∀c u,H c=some u->c≠p.1->H' c=some u):DL mk H' a (nT xs k v):=by
 have g:=cq n;have h:a≠p.1:=λe=>by have:=G.pC _ g;dsimp only at this;rw[<- e,G.root]at this;exact f _ _ (UL this)
 refine⟨by rw[Br];exact kp _ _ G.root h,λx r=>?_,by rw[qM _ (λ_ _ _ _=>rfl)];exact G.nk,by rw[qM _ (λ_ _ _ _=>rfl)];exact G.na⟩;obtain⟨y,m,rfl⟩:=TV.mp r;by_cases e:y.1=k
 .rw[Tv e];have:y=(k,p):=by
   have h1:(xs.map (·.1)).Nodup:=G.nk;obtain⟨i,d⟩:=TZ.mp m;obtain⟨j,b⟩:=TZ.mp g;have e1:(xs.map (·.1))[i]?=some k:=by rw[T3,d];exact Vv some e
   have e2:(xs.map (·.1))[j]?=some k:=by rw[T3,b];rfl
   have:i=j:=(Xb (TL.mp e1).1 h1).mp (e1.trans e2.symm);subst this;rw[d]at b;exact UL b
  subst this;exact o
 .rw[TJ e];refine kp _ _ (G.pC y m) λq=>e ?_;obtain⟨i,d⟩:=TZ.mp m;obtain⟨j,b⟩:=TZ.mp g;have e1:(xs.map (·.2.1))[i]?=some p.1:=by rw[T3,d];exact Vv some q
  have e2:(xs.map (·.2.1))[j]?=some p.1:=by rw[T3,b];rfl
  have:i=j:=(Xb (TL.mp e1).1 G.na).mp (e1.trans e2.symm);subst this;rw[d]at b;rw[UL b]
def DL.new(g:∀q ws,mk q≠.lst ws)(G:DL mk H a xs)(j:gL xs k=none)(m:H l=none)(n:H' l=some (.lst [v]))(ha:H' a=some (mk (xs.kv++[(k,.ref l)])))(kp:∀c u,H c=some u->c≠a->H' c=some u):DL mk H' a (xs++[(k,l,[v])]):=by
 have nl:∀x∈xs,x.2.1≠l:=λx d e=>by have:=G.pC x d;rw[e,m]at this;cases this
 refine⟨by grind,λx d=>?_,?_,?_⟩
 .rcases T1.mp d with h|h
  .refine kp _ _ (G.pC x h) λe=>?_;have:=G.pC x h;rw[e,G.root]at this;exact g _ _ (UL this)
  .rw[T8]at h;subst h;exact n
 .rw[UB,VM];exact⟨G.nk,by simp,λb i c f e=>by rw[Tw,VE,T8]at f;subst f;subst e;exact Bs j i⟩
 .rw[UB,VM];exact⟨G.na,by simp,λb i c f e=>by rw[Tw,VE,T8]at f;subst f;subst e;obtain⟨x,d,q⟩:=TV.mp i;exact nl x d q⟩
end
def Reads(t:TE)(σ:L2.St)(H:Hp)(v:V):Prop:=∀Q:VK,Q v H->t σ H Q
def Makes(t:TE)(σ:L2.St)(H:Hp)(ws:List V):Prop:=∀Q:VK,(∀p,H p=none->Q (.ref p) (aP H p (.tup ws)))->t σ H Q
section
variable{K:Xu}{σ:L2.St}{H:Hp}{i j:Nat}{v w x y z:V}{ta tb te:TE}{tr:TA}{vs ws dvs:List V}{b o C dx:Addr}{n:Int}{Q:VK}{E:XK}{sp:Sp}{m f:Str}{fs:List (Str×V)}{r:R2}
def Reads.va(h:σ[i]?=some (some v)):Reads (aI i) σ H v:=λ_ q=>⟨_,h,q⟩
def Reads.k:Reads (tC v) σ H v:=λ_ q=>q
def Reads.op(ha:Reads ta σ H x)(a:Reads tb σ H y)(h:∀Q:VK,Q z H->r x y H Q):Reads (lL r ta tb) σ H z:=λQ q=>ha _ (a _ (h Q q))
def Reads.ix(h:Reads ta σ H (.ref b))(hs:H b=some (.tup ws))(e:fP ws n=some v):Reads (lL (pN K) ta (tC (.int n))) σ H v:=h.op .k λ_ q=>⟨b,ws,n,v,rfl,rfl,SqT.of hs,e,q⟩
def Reads.fld(h:Reads ta σ H (.ref o))(a:∃dx,H o=some (.ins C dx fs))(cl:ve K C)(n:NoAttr K C f)(c:fs.lookup f=some v):Reads (fO K ta f) σ H v:=λQ q=>by obtain⟨dx,a⟩:=a;exact h _ ⟨o,C,dx,_,_,rfl,a,cl,n,c,q⟩
def KW(h:Reads ta σ H (.ref o))(a:∃dx,H o=some (.ins C dx fs))(cl:ve K C)(n:NoAttr K C f)(c:fs.lookup f=some v)(q:Q v H):fO K ta f σ H Q:=Reads.fld h a cl n c _ q
def ReadsA(t:TA)(σ:L2.St)(H:Hp)(vs:List V):Prop:=∀Q:List V->Hp->Prop,Q vs H->t σ H Q
def ReadsA.ni:ReadsA bz σ H []:=λ_ q=>q
def ReadsA.c(h:Reads ta σ H v)(k:ReadsA tr σ H vs):ReadsA (aA ta tr) σ H (v::vs):=λ_ q=>h _ (k _ q)
def Makes.t(h:ReadsA tr σ H ws)(l:Nat.ble ws.length 9=true):Makes (jN tr) σ H ws:=λ_ q=>h _ ⟨Ua (Nat.le_of_ble_eq_true l) (by decide),q⟩
def KY(h:ReadsA tr σ H ws)(l:Nat.ble ws.length 9=true)(k:∀p,H p=none->Q (.ref p) (aP H p (.tup ws))):jN tr σ H Q:=Makes.t h l _ k
def wC(h:Reads ta σ H (.ref b))(a:∃dx,H b=some (.ins C dx fs))(c:fs.lookup m=none)(ha:ReadsA tr σ H vs)(k:sp (.ref b::(vs++dvs)) H Q E):fV C m sp dvs E ta tr σ H Q:=by obtain⟨dx,a⟩:=a;exact h _ ⟨b,dx,fs,rfl,a,c,ha _ k⟩
def IC{Q:L2.St->Hp->Prop}(a:H b=some (.tup [v,w]))(k:Q ((σ.set i (some v)).set j (some w)) H):ip K 2 (bc (aT i) (bc (aT j) io)) (.ref b) σ H Q:=⟨b,_,rfl,SqT.of a,rfl,_,_,rfl,_,_,rfl,rfl,k⟩
def wD{t u:TS}{D:Ends}(h:Reads te σ H (.bl c))(k1:c=true->t D σ H)(k2:¬c=true->u D σ H):xD (oq te) t u D σ H:=h _ ⟨_,rfl,Rj k1 k2⟩
end
def mI{κ:Type}[DecidableEq κ](xs:DX κ)(k:κ)(l:Addr)(v:V):DX κ:=if(gL xs k).isSome then nT xs k v else xs++[(k,l,[v])]
def oN(K:Xu)(to tk a:TE):TE:=NM K "list" t5 (NM K "dict" C3 to (aA tk (aA (vD bz) bz))) (aA a bz)
def uH{K:Xu}{to tk D:TE}{σ:L2.St}{H:Hp}{C:Hp->Prop}(G:DL .dT H a xs)(w:Reads to σ H (.ref a))(y:Reads tk σ H (.ref b))(I:H b=some (.tup (k.map kV)))
 (s:∀H',(∀c u,H c=some u->c≠a->H' c=some u)->Makes D σ H' ws) (hz:xs.length<16000000) (J:∀x∈xs,x.2.2.length<16000000)
 (E:∀(l p:Addr)(H':Hp),H l=none->H p=none->H' p=some (.tup ws)->DL .dT H' a (mI xs k l (.ref p))->(∀c u,H c=some u->¬cr a xs c->H' c=some u)->C H') :
 oN K to tk D σ H λ_ H'=>C H':=by
 have sz:∀n,n<16000000->n<sizeLine:=λn h=>by rw[Uj];lia
 have A:H a≠none:=by rw[G.root];simp
 refine w _ ⟨.inr (.inr (.inl ⟨rfl,.inr ⟨_,G.root⟩⟩)),y _ ⟨Ul _,λl o=>?_⟩⟩;have g:a≠l:=λe=>A (by grind);have i:∀c u,H c=some u->aP H l (.lst []) c=some u:=λc u e=>by rw[af (ai e o)];exact e
 refine⟨a,b,k,.ref l,xs.kv,rfl,rfl,i _ _ I,.inl (i _ _ G.root),sz _ (by grind),?_⟩;cases f:gL xs k with
 |some q=>
  left;have F:=G.pC _ (cq f);refine⟨.ref q.1,by rw[iF,f];rfl,.inl ⟨rfl,_,SqL.of (i _ _ F)⟩,s _ (λc u e _=>i c u e) _ λp m=>?_⟩;have d:H p=none:=(aK o).free m;have t:q.1≠p:=λe=>by grind
  refine⟨q.1,q.2,.ref p,rfl,rfl,by rw[af t];exact i _ _ F,sz _ (J _ (cq f)),?_⟩;have kp:∀c u,H c=some u->c≠q.1->aP (aP (aP H l (.lst [])) p (.tup ws)) q.1 (.lst (q.2++[.ref p])) c=some u:=λc u e j=>by rw[af j,af (ai e d)];exact i c u e
  refine E l p _ o d (by rw[af (UM t),ag]) ?_ λc u e j=>kp c u e λz=>j (.inr ⟨_,cq f,z⟩);unfold mI;rw[f,Tv (by simp)];exact G.old (λ_ _ z=>nomatch z) f ag kp
 |none=>
  right;refine⟨by rw[iF,f];rfl,.inl ⟨rfl,[],SqL.of (by rw[af (UM g),ag])⟩,s _ (λc u e j=>by rw[af j];exact i c u e) _ λp m=>?_⟩;have B:cS xs.kv k=none:=by rw[iF,f];rfl
  have v:p≠a:=λe=>by rw[e,ag]at m;cases m
  have r:p≠l:=λe=>by rw[e,af (UM g),ag]at m;cases m
  have d:H p=none:=by rw[af v,af r]at m;exact m
  refine⟨l,[],.ref p,rfl,rfl,by rw[af (UM r),af (UM g),ag],by decide,?_⟩;refine E l p _ o d (by rw[af r,ag]) ?_ λc u e j=>?_
  .unfold mI;rw[f,TJ (by simp)];refine G.new (λ_ _ z=>nomatch z) f o ag (by rw[af g,af (UM v),ag,pO _ B]) λc u e j=>?_;rw[af (ai e o),af (ai e d),af j];exact i c u e
  .rw[af (ai e o),af (ai e d),af (λz=>j (.inl z))];exact i c u e
def ID(K:Xu)(to tk a:TE):TE:=NM K "list" t5 (NM K "dict" Il to (aA tk (aA (vD bz) bz))) (aA a bz)
def GR{K:Xu}{to tk B:TE}{σ:L2.St}{H:Hp}{C:Hp->Prop}(G:DL .dK H a xs)(v:Reads to σ H (.ref a))(w:Reads tk σ H (.int i))
 (r:∀H',(∀c u,H c=some u->c≠a->H' c=some u)->Makes B σ H' ws) (hz:xs.length<16000000) (F:∀x∈xs,x.2.2.length<16000000)
 (D:∀(l p:Addr)(H':Hp),H l=none->H p=none->H' p=some (.tup ws)->DL .dK H' a (mI xs (.inl i) l (.ref p))->(∀c u,H c=some u->¬cr a xs c->H' c=some u)->C H') :
 ID K to tk B σ H λ_ H'=>C H':=by
 have sz:∀n,n<16000000->n<sizeLine:=λn h=>by rw[Uj];lia
 have y:H a≠none:=by rw[G.root];simp
 refine v _ ⟨.inr (.inr (.inl ⟨rfl,.inl ⟨_,G.root⟩⟩)),w _ ⟨Ul _,λl m=>?_⟩⟩;have f:a≠l:=λe=>y (by grind);have j:∀c u,H c=some u->aP H l (.lst []) c=some u:=λc u e=>by rw[af (ai e m)];exact e
 refine⟨a,.inl i,.ref l,xs.kv,rfl,rfl,.inl (j _ _ G.root),sz _ (by grind),?_⟩;cases d:gL xs (.inl i)with
 |some q=>
  left;have E:=G.pC _ (cq d);refine⟨.ref q.1,by rw[iF,d];rfl,.inl ⟨rfl,_,SqL.of (j _ _ E)⟩,r _ (λc u e _=>j c u e) _ λp k=>?_⟩;have b:H p=none:=(aK m).free k;have s:q.1≠p:=λe=>by grind
  refine⟨q.1,q.2,.ref p,rfl,rfl,by rw[af s];exact j _ _ E,sz _ (F _ (cq d)),?_⟩;have kp:∀c u,H c=some u->c≠q.1->aP (aP (aP H l (.lst [])) p (.tup ws)) q.1 (.lst (q.2++[.ref p])) c=some u:=λc u e g=>by rw[af g,af (ai e b)];exact j c u e
  refine D l p _ m b (by rw[af (UM s),ag]) ?_ λc u e g=>kp c u e λz=>g (.inr ⟨_,cq d,z⟩);unfold mI;rw[d,Tv (by simp)];exact G.old (λ_ _ z=>nomatch z) d ag kp
 |none=>
  right;refine⟨by rw[iF,d];rfl,.inl ⟨rfl,[],SqL.of (by rw[af (UM f),ag])⟩,r _ (λc u e g=>by rw[af g];exact j c u e) _ λp k=>?_⟩;have A:cS xs.kv (.inl i)=none:=by rw[iF,d];rfl
  have t:p≠a:=λe=>by rw[e,ag]at k;cases k
  have o:p≠l:=λe=>by rw[e,af (UM f),ag]at k;cases k
  have b:H p=none:=by rw[af t,af o]at k;exact k
  refine⟨l,[],.ref p,rfl,rfl,by rw[af (UM o),af (UM f),ag],by decide,?_⟩;refine D l p _ m b (by rw[af o,ag]) ?_ λc u e g=>?_
  .unfold mI;rw[d,TJ (by simp)];refine G.new (λ_ _ z=>nomatch z) d m ag (by rw[af f,af (UM t),ag,pO _ A]) λc u e g=>?_;rw[af (ai e m),af (ai e b),af g];exact j c u e
  .rw[af (ai e m),af (ai e b),af (λz=>g (.inl z))];exact j c u e
section
variable{X:Cx}
def IE:V->List V->Hp->VK->Prop:=λx xs H Q=>∃i,x=.int i/\xs=[]/\Q (.int (Builtin.Int.intBits i)) H
def GS:J6 X "int.bit_length" IE:=by intro aa s σ H x xs v us Q I a rs q;obtain⟨i,rfl,rfl,q⟩:=q;obtain⟨t,rfl⟩:=a;cases rs;exact call_int_bit_length ⟨.int _,H,I.tok _,⟨_,rfl⟩,q⟩
end
structure MT(C:Addr) (H:Hp) (q ap:Addr) (last:Int) (xs:DX bm):Prop where
 ins:∃dx,H q=some (.ins C dx [("last",.int last),("piles",.ref ap)])
 aE:DL .dK H ap xs
 m_:xs.length<16000000
 low:∀x∈xs,x.2.2.length<16000000
structure u_(K:Xu) (C:Addr):Prop where
 cl:ve K C
 nl:NoAttr K C "last"
 np:NoAttr K C "piles"
noncomputable def au(a last:Int):Int:=Builtin.Int.intBits (Builtin.bitXor a last)
def Oq(K:Xu):TE:=ID K (fO K (aI 0) "piles") (J_ K "int" IE (lL (AA λi j=>.int (Builtin.bitXor i j)) (aI 1) (fO K (aI 0) "last"))) (jN (aA (aI 1) (aA (aI 2) bz)))
def KZ{K:Xu}{C q ap b:Addr}{H:Hp}{e:Hp->Prop}(T:u_ K C)(G:MT C H q ap last xs)(f:σ[0]?=some (some (.ref q)))(h1:σ[1]?=some (some (.int price)))(g:σ[2]?=some (some (.ref b)))
 (j:∀(l p:Addr)(H':Hp),H l=none->H p=none->H' p=some (.tup [.int price,.ref b])->(∃a,H' q=some (.ins C a [("last",.int last),("piles",.ref ap)]))->DL .dK H' ap (mI xs (.inl (au price last)) l (.ref p))->(∀c u,H c=some u->¬cr ap xs c->H' c=some u)->e H') :
 Oq K σ H λ_ H'=>e H':=by
 obtain⟨a,d⟩:=G.ins;have k:¬cr ap xs q:=λz=>by
  rcases z with z|⟨x,m,z⟩
  .have:=G.aE.root;rw[<- z,d]at this;cases this
  .have:=G.aE.pC x m;rw[<- z,d]at this;cases this
 refine GR (ws:=[.int price,.ref b]) (i:=au price last) G.aE (λQ h=>⟨_,f,q,C,a,_,_,rfl,d,T.cl,T.np,rfl,h⟩) (λQ h=>?_) (λH' _ Q h=>⟨_,h1,_,g,(by show 2<=sizeLine;decide),h⟩) G.m_ G.low λl p H' n o r hd kp=>j l p H' n o r ⟨a,kp _ _ d k⟩ hd kp;exact⟨_,h1,_,f,q,C,a,_,_,rfl,d,T.cl,T.nl,rfl,_,_,rfl,rfl,rfl,_,rfl,rfl,h⟩
inductive tS(C:Addr):Sp
 |mk {q ap b:Addr} {last price:Int} {xs:DX bm} {H:Hp} {Q:VK} {E:XK} (G:MT C H q ap last xs) (k:∀(l p:Addr)(H':Hp),H l=none->H p=none->H' p=some (.tup [.int price,.ref b])->(∃dx,H' q=some (.ins C dx [("last",.int last),("piles",.ref ap)]))->DL .dK H' ap (mI xs (.inl (au price last)) l (.ref p))->(∀c u,H c=some u->¬cr ap xs c->H' c=some u)->Q .bn H'):tS C [.ref q,.int price,.ref b] H Q E
def Bt(h:tS C vs H Q E):vs.length=3:=by cases h;rfl
def DW{K:Xu}{C:Addr}{vs:List V}(T:u_ K C)(h:tS C vs H Q E)(a:N.length=3):eB (Oq K) {nx:=λ_ H'=>Q .bn H',rt:=Q} (cf N vs) H:=by obtain⟨G,k⟩:=h;exact KZ T G rfl rfl rfl k
section
variable{κ:Type}[DecidableEq κ]{mk:List (κ×V)->HO}{H H':Hp}{a:Addr}{xs:DX κ}{k:κ}{p:Addr×List V}
noncomputable def mJ(xs:DX κ)(k:κ):DX κ:=xs.filter λx=>decide (x.1≠k)
def DY(xs:DX κ)(k:κ):(mJ xs k).kv=lA xs.kv k:=by unfold mJ lA DX.kv;rw[List.filter_map];rfl
theorem DL.drop(h:∀q ws,mk q≠.lst ws)(G:DL mk H a xs)(m:gL xs k=some p)(ha:H' a=some (mk (lA xs.kv k)))(kp:∀c u,H c=some u->c≠a->H' c=some u) :
 DL mk H' a (mJ xs k)/\H' p.1=some (.lst p.2)/\¬cr a (mJ xs k) p.1:=by
 have g:=cq m;have b:∀x∈xs,x.2.1≠a:=λx d e=>by have:=G.pC x d;rw[e,G.root]at this;exact h _ _ (UL this)
 have sub:(mJ xs k).Sublist xs:=List.filter_sublist;refine⟨⟨by rw[DY];exact ha,λx d=>?_,(sub.map _).nodup G.nk,(sub.map _).nodup G.na⟩,kp _ _ (G.pC _ g) (b _ g),λz=>?_⟩
 .have f:=(Ug.mp d).1;exact kp _ _ (G.pC x f) (b x f)
 .rcases z with z|⟨x,d,z⟩
  .exact b _ g z
  .obtain⟨h1,n⟩:=Ug.mp d;have l:x.1≠k:=UO n;obtain⟨i,o⟩:=TZ.mp h1;obtain⟨j,r⟩:=TZ.mp g;have e1:(xs.map (·.2.1))[i]?=some p.1:=by grind
   have e2:(xs.map (·.2.1))[j]?=some p.1:=by grind
   have:i=j:=(Xb (TL.mp e1).1 G.na).mp (e1.trans e2.symm);subst this;rw[o]at r;exact l (by grind)
end
end L4
namespace L4
open PySem PySem.Spec PySem.Calls PyProof.Rows L2 L3
section
variable{X:Cx}
abbrev wF(v d:Addr):HO:=.ext λh=>PySem.W.KdlKeysView h v d
def IF:V->List V->Hp->VK->Prop:=λx xs H Q=>∃a kvs,x=.ref a/\xs=[]/\H a=some (.dK kvs)/\∀v,H v=none->Q (.ref v) (aP H v (wF v a))
def GT:J6 X "dict.keys" IF:=by intro aa s σ H x xs v us Q I b rs q;obtain⟨a,kvs,rfl,rfl,ha,q⟩:=q;obtain rfl:v=Value.ref a:=b;cases rs;obtain⟨z,hd,vs,c,dd⟩:=vH I.aS ha;refine Vk PySem.F.slot_dict_keys dd.typeIs PySem.F.entry_dict_keys (PySem.F.args_dict_keys_1 _) (PySem.W.kdl_meets_keys (aF X.prog X.w) a hd) ?_;have d:PySem.W.KdlKeysView (s.heap.push { cls:=.type "dict_keys",data:=.fields #[.ref a] }) s.heap.objs.size a:=⟨_,Tz _ rfl,rfl,rfl⟩;exact⟨⟨vs,dd⟩,.ref s.heap.objs.size,_,I.laid (a:=s.heap.objs.size) (o:=wF s.heap.objs.size a) (t':=s.toks) (λ_ _ e=>RW _ e) (Tt _) ⟨d,⟨_,Tz _ rfl⟩,λh1 g ⟨o,f,r⟩ k=>⟨o,k _ f,r⟩⟩,rfl,q _ (I.aS.fresh (Tt _))⟩
def IG:List V->Hp->VK->Prop:=λxs H Q=>∃(v a:Addr)(kvs:List (bm×V))(ns:List Int),xs=[.ref v]/\H v=some (wF v a)/\H a=some (.dK kvs)/\kvs.map (·.1)=ns.map Sum.inl/\ns≠[]/\Q (.int (p9 ns)) H
def Bu(K:X.calm=true):CallR X (.builtin "min") IG:=by
 intro aa s σ H xs us Q I r q;obtain⟨v,a,kvs,ns,rfl,m,ha,D,p,q⟩:=q;obtain⟨u,rfl,L⟩:=eF r;obtain rfl:u=Value.ref v:=L;obtain⟨z,hd,vs,d,dd⟩:=vH I.aS ha;obtain⟨y,_,_⟩:=(show ObjOk X.prog X.w H s.heap v (wF v a)from I.aS v _ m);obtain⟨M,E⟩:=dd.dictAt;have N:=d.length;have O:kvs.length=ns.length:=by have:=Vv List.length D;simpa using this
 have f:∀(i:Nat)(k:bm)(x:Xw),vs[i]?=some (k,x)->∃n,ns[i]?=some n/\k=.inl n:=λi k x e=>by
  have F:i<kvs.length:=by rw[N];exact(TL.mp e).1
  obtain⟨e1,_⟩:=d.at i _ _ (UP F) e;have e2:(kvs.map (·.1))[i]?=some k:=by rw[T3,UP F];exact Vv some e1
  rw[D,T3]at e2;obtain⟨n,h1,P⟩:=UF.mp e2;exact⟨n,h1,P.symm⟩
 generalize c:(ns.map λn=>(n,(0:Tok))).toArray=ps;have hsz:ps.size=ns.length:=by rw[<- c];simp
 have g:∀(i:Nat)(n:Int),ns[i]?=some n->numAt ps i=n:=λi n e=>by unfold numAt;rw[<- c];simp[e]
 have B:ps.toList.map (·.1)=ns:=by rw[<- c];simp[Function.comp_def]
 have G:0<ns.length:=WZ.mpr p;have h:a≠s.heap.objs.size:=by obtain⟨o,_,_,C,_⟩:=dd;exact T5 (TC C)
 refine call_min_walk (PySem.W.kdl_pyIter_keys (knd:=aF X.prog X.w) (s:=s) y E ?_);refine⟨_,_,_,_,_,_,_,rfl,Walks.dictKeys (knd:=aF X.prog X.w) (A:=X.A.in1) (I.ok.hd K) s.heap.objs.size a h vs M,⟨⟨_,Tz _ rfl,rfl,rfl⟩,E.at' λo e=>RW _ e⟩,λb l=>?_,by lia,CmpOf.ints_lt (numAt ps) (λi v m=>?_),λv h' tk R kp=>?_⟩
 .simp only[TH,TU,Xs]at l;rw[VI];rcases l with rfl|rfl
  .exact VB _
  .obtain⟨o,_,_,C,_⟩:=dd;exact VP (TC C)
 .obtain⟨k,x,e1,e2⟩:=m;obtain⟨n,e3,rfl⟩:=f i k x e1;obtain⟨j,t,e4,rfl⟩|⟨j,t,e4,_⟩:=bo (show lw (.inl n) v=true from e2)
  .cases e4;exact⟨t,by rw[g i n e3]⟩
  .cases e4
 .obtain⟨k,x,e1,e2⟩:=R;obtain⟨n,e3,rfl⟩:=f _ k x e1;obtain⟨j,t,e4,rfl⟩|⟨j,t,e4,_⟩:=bo (show lw (.inl n) v=true from e2)
  .cases e4;have l:=iQ ps (vs.length-1) (by lia);rw[g _ n e3,B,UG (by lia)]at l;exact⟨.int n,H,I.kept (t':=tk) λb o e=>kp b o (λJ=>by rw[T8]at J;subst J;exact Vu _ (TC e)) (RW _ e),⟨t,rfl⟩,by rw[l];exact q⟩
  .cases e4
end
end L4
namespace L4
open PySem PySem.Spec PyProof.Rows L2 L3
inductive eh{α β:Type} (R:α->β->Prop):List α->List β->Prop where
 |nil:eh R [] []
 |cons {x y xs ys}:R x y->eh R xs ys->eh R (x::xs) (y::ys)
section
variable{α β:Type}{R R':α->β->Prop}{xs:List α}{ys:List β}
def eh.len(h:eh R xs ys):xs.length=ys.length:=by
 induction h with
 |nil=>rfl
 |cons _ _ a=>rw[T2,T2,a]
def eh.mono(f:∀x y,R x y->R' x y)(h:eh R xs ys):eh R' xs ys:=by
 induction h with
 |nil=>exact .nil
 |cons a _ b=>exact .cons (f _ _ a) b
def eh.snoc(h:eh R xs ys)(r:R x y):eh R (xs++[x]) (ys++[y]):=by
 induction h with
 |nil=>exact .cons r .nil
 |cons a _ b=>exact .cons a b
theorem eh.get(h:eh R xs ys){i:Nat}(e:ys[i]?=some y):∃x,xs[i]?=some x/\R x y:=by
 induction h generalizing i with
 |nil=>simp at e
 |cons a _ b=>
  cases i with
  |zero=>simp at e;subst e;exact⟨_,rfl,a⟩
  |succ i=>simp at e;obtain⟨x,e1,e2⟩:=b e;exact⟨x,by simpa using e1,e2⟩
def eh.Qy{b c:Type}{T:b->c->Prop}(f:α->b)(g:β->c)(k:∀x y,R x y->T (f x) (g y))(h:eh R xs ys):eh T (xs.map f) (ys.map g):=by
 induction h with
 |nil=>exact .nil
 |cons a _ d=>exact .cons (k _ _ a) d
end
def KT(H H':Hp):Prop:=∀a ws,H a=some (.tup ws)->H' a=some (.tup ws)
section
variable{κ κ' α:Type}[DecidableEq κ][DecidableEq κ'](key:κ->κ')(it:Hp->α->V->Prop)
abbrev RepM(H:Hp)(d:Pz.MD κ α)(xs:DX κ'):Prop:=eh (λx y=>y.1=key x.1/\eh (it H) x.2 y.2.2) d xs
variable{key it}{H H':Hp}{d:Pz.MD κ α}{xs:DX κ'}
def RepM.keep(b:∀a v,it H a v->it H' a v)(h:RepM key it H d xs):RepM key it H' d xs:=h.mono λ_ _ ⟨e,a⟩=>⟨e,a.mono b⟩
def RepM.find(inj:∀a b,key a=key b->a=b)(h:RepM key it H d xs)(k:κ) :
 (gL xs (key k)=none/\d.has k=false/\d.get k=[])\/∃p,gL xs (key k)=some p/\d.has k=true/\eh (it H) (d.get k) p.2:=by
 induction h with
 |nil=>exact .inl ⟨rfl,rfl,rfl⟩
 |@cons x y d xs r _ c=>
  unfold gL at c ⊢;unfold Pz.MD.has at c ⊢;rw[VA,Pz.cY,VF];by_cases e:x.1=k
  .right;have:y.1=key k:=by rw[r.1,e]
   rw[T4 this,T4 e,Tv e];exact⟨y.2,rfl,rfl,r.2⟩
  .have:¬y.1=key k:=λz=>e (inj _ _ (r.1.symm.trans z));rw[Uc this,Uc e,TJ e,Xc];exact c
def RepM.add(inj:∀a b,key a=key b->a=b)(g:∀a v,it H a v->it H' a v)(h:RepM key it H d xs)(c:it H' v (.ref p)):RepM key it H' (d.app k v) (mI xs (key k) l (.ref p)):=by
 have h':=h.keep g;unfold Pz.MD.app mI;rcases h.find inj k with⟨e1,e2,_⟩|⟨q,e1,e2,_⟩
 .rw[e1,e2];exact h'.snoc ⟨rfl,.cons c .nil⟩
 .rw[e1,e2];refine h'.Qy _ _ λx y ⟨f,i⟩=>?_;by_cases e:x.1=k
  .have:y.1=key k:=by rw[f,e]
   rw[Tv e,Tv this];exact⟨f,i.snoc c⟩
  .grind
theorem RepM.drop(inj:∀a b,key a=key b->a=b)(h:RepM key it H d xs)(k:κ):RepM key it H (d.drop k) (mJ xs (key k)):=by
 induction h with
 |nil=>exact .nil
 |@cons x y d xs r _ c=>
  unfold Pz.MD.drop mJ at c ⊢;by_cases e:x.1=k
  .grind
  .have:¬y.1=key k:=λz=>e (inj _ _ (r.1.symm.trans z));rw[List.filter_cons_of_pos (by grind),List.filter_cons_of_pos (by grind)];exact .cons r c
theorem RepM.keys(h:RepM key it H d xs):xs.map (·.1)=d.keys.map key:=by
 induction h with
 |nil=>rfl
 |cons r _ a=>grind
def RepM.low(h:RepM key it H d xs)(a:d.flat.length<n):∀x∈xs,x.2.2.length<n:=by
 induction h with
 |nil=>exact λ_ h=>(TU h).elim
 |@cons x y d xs r _ b=>
  unfold Pz.MD.flat at a b;rw[Wc,T_]at a;intro z hz;rcases TH.mp hz with rfl|hz
  .have:=r.2.len;lia
  .exact b (by lia) z hz
end
noncomputable def vO:Option Int->V
 |none=>.bn
 |some i=>.int i
noncomputable def nU(a:Pz.ba):List V:=[.int a.1,.int a.2.1,.int a.2.2]
def IsArr(H:Hp)(a:Pz.ba)(v:V):Prop:=∃p,v=.ref p/\H p=some (.tup (nU a))
def IsRule(H:Hp)(r:Pz.aX)(v:V):Prop:=∃p q,v=.ref p/\H p=some (.tup [.int r.1,.int r.2.1,.int r.2.2.1,.ref q])/\H q=some (.tup (r.2.2.2.map .int))
def IsVal(H:Hp)(x:Pz.nh)(v:V):Prop:=∃p,v=.ref p/\H p=some (.tup [.int x.1,vO x.2.1,vO x.2.2])
def IsItem(H:Hp)(x:Int×Pz.ba)(v:V):Prop:=∃p w,v=.ref p/\H p=some (.tup [.int x.1,w])/\IsArr H x.2 w
def IsSet(H:Hp)(x:Int×Int)(v:V):Prop:=∃p,v=.ref p/\H p=some (.tup [.int x.1,.int x.2])
def IsLack(H:Hp)(x:Int×Pz.aX×Int)(v:V):Prop:=∃p w,v=.ref p/\H p=some (.tup [.int x.1,w,.int x.2.2])/\IsRule H x.2.1 w
def IsNum(H:Hp)(x:Int×Pz.aX)(v:V):Prop:=∃p w,v=.ref p/\H p=some (.tup [.int x.1,w])/\IsRule H x.2 w
section
variable{H H':Hp}(k:KT H H')
include k
def IsArr.keep(a:Pz.ba)(v:V):IsArr H a v->IsArr H' a v:=λ⟨p,e,h⟩=>⟨p,e,k _ _ h⟩
def IsRule.keep(a:Pz.aX)(v:V):IsRule H a v->IsRule H' a v:=λ⟨p,q,e,h,g⟩=>⟨p,q,e,k _ _ h,k _ _ g⟩
def IsVal.keep(a:Pz.nh)(v:V):IsVal H a v->IsVal H' a v:=λ⟨p,e,h⟩=>⟨p,e,k _ _ h⟩
theorem IsItem.keep(a:Int×Pz.ba)(v:V):IsItem H a v->IsItem H' a v:=λ⟨p,w,e,h,g⟩=>⟨p,w,e,k _ _ h,IsArr.keep k _ _ g⟩
def IsSet.keep(a:Int×Int)(v:V):IsSet H a v->IsSet H' a v:=λ⟨p,e,h⟩=>⟨p,e,k _ _ h⟩
theorem IsLack.keep(a:Int×Pz.aX×Int)(v:V):IsLack H a v->IsLack H' a v:=λ⟨p,w,e,h,g⟩=>⟨p,w,e,k _ _ h,IsRule.keep k _ _ g⟩
theorem IsNum.keep(a:Int×Pz.aX)(v:V):IsNum H a v->IsNum H' a v:=λ⟨p,w,e,h,g⟩=>⟨p,w,e,k _ _ h,IsRule.keep k _ _ g⟩
end
noncomputable def ak(a:Pz.ba):List bm:=[.inl a.1,.inl a.2.1,.inl a.2.2]
theorem yz(a b:Pz.ba)(h:ak a=ak b):a=b:=by grind [ak]
noncomputable def k2(k:Int×Int):List bm:=[.inl k.1,.inl k.2]
theorem qN(a b:Int×Int)(h:k2 a=k2 b):a=b:=by grind [k2]
noncomputable def k1(i:Int):bm:=.inl i
def nV(a b:Int)(h:k1 a=k1 b):a=b:=Xf h
abbrev RepT(H:Hp)(t:Pz.TD)(kt:List (List bm×V)):Prop:=eh (λx y=>y.1=ak x.1/\IsVal H x.2 y.2) t kt
theorem RepT.keep(k:KT H H')(h:RepT H t kt):RepT H' t kt:=h.mono λ_ _ ⟨e,a⟩=>⟨e,IsVal.keep k _ _ a⟩
def RepT.find(h:RepT H t kt)(a:Pz.ba) :
 (cS kt (ak a)=none/\Pz.bF t a=none)\/∃v x,cS kt (ak a)=some v/\Pz.bF t a=some x/\IsVal H x v:=by
 induction h with
 |nil=>exact .inl ⟨rfl,rfl⟩
 |@cons x y t kt r _ b=>
  rw[Pz.dz];by_cases e:x.1=a
  .have:y.1=ak a:=by rw[r.1,e]
   rw[Tv e,gz this];exact .inr ⟨_,_,rfl,rfl,r.2⟩
  .have:¬y.1=ak a:=λz=>e (yz _ _ (r.1.symm.trans z));rw[TJ e,gA this];exact b
def RepT.put(h:RepT H t kt)(b:IsVal H x v):RepT H (Pz.tput t a x) (ce kt (ak a) v):=by
 unfold Pz.tput ce;rw[jU];rcases h.find a with⟨e1,e2⟩|⟨w,y,e1,e2,_⟩
 .rw[e1,e2];exact h.snoc ⟨rfl,b⟩
 .rw[e1,e2];refine h.Qy _ _ λz y ⟨c,d⟩=>?_
  grind [ak,yz]
def k7{κ:Type}[DecidableEq κ]{xs:DX κ}{k:κ}{l a c:Addr}{v:V}(h:cr a (mI xs k l v) c):cr a xs c\/c=l:=by
 rcases h with h|⟨x,hx,h⟩
 .exact .inl (.inl h)
 .unfold mI at hx;split at hx
  .obtain⟨y,b,rfl⟩:=TV.mp hx;refine .inl (.inr ⟨y,b,?_⟩);rw[h];split<;>rfl
  .rcases T1.mp hx with hx|hx
   .exact .inl (.inr ⟨x,hx,h⟩)
   .rw[T8]at hx;subst hx;exact .inr h
section
variable{κ κ' α:Type}[DecidableEq κ][DecidableEq κ'](mk:List (κ'×V)->HO)(key:κ->κ')(it:Hp->α->V->Prop)
structure PM(col:Addr->Nat) (j:Nat) (B H:Hp) (a:Addr) (dd:Pz.MD κ α) (xs:DX κ'):Prop where
 d:DL mk H a xs
 r:RepM key it H dd xs
 c:∀c,cr a xs c->col c=j/\B c=none
variable{mk key it}{col col':Addr->Nat}{j:Nat}{B B' H H':Hp}{a:Addr}{d:Pz.MD κ α}{xs:DX κ'}
def DL.obj(h:DL mk H a xs)(b:cr a xs c):H c≠none:=by
 grind [DL,cr]
def DL.keep(h:DL mk H a xs)(kp:∀c u,H c=some u->cr a xs c->H' c=some u):DL mk H' a xs:=⟨kp _ _ h.root (.inl rfl),λx b=>kp _ _ (h.pC x b) (.inr ⟨x,b,rfl⟩),h.nk,h.na⟩
theorem PM.keep(h:PM mk key it col j B H a d xs)(b:∀x v,it H x v->it H' x v)(kp:∀c u,H c=some u->col c=j->H' c=some u)(f:∀c,H c≠none->col' c=col c):PM mk key it col' j B H' a d xs:=⟨h.d.keep λc u e i=>kp c u e (h.c c i).1,h.r.keep b,λc i=>⟨by rw[f c (h.d.obj i)];exact(h.c c i).1,(h.c c i).2⟩⟩
def DL.kt(b:∀q ws,mk q≠.tup ws)(h:DL mk H a xs)(kp:∀c u,H c=some u->¬cr a xs c->H' c=some u):KT H H':=by
 grind [DL,cr,KT]
noncomputable def uI(col:Addr->Nat)(j:Nat)(H:Hp):Addr->Nat:=λc=>open Classical in if H c=none then j else col c
def bu(b:H a≠none):uI col j H a=col a:=by unfold uI;rw[TJ b]
def DZ(b:H a=none):uI col j H a=j:=by unfold uI;rw[Tv b]
def PM.new(h:PM mk key it col j B H a d xs)(b:Same B H)(h1:DL mk H' a xs')(f:RepM key it H' d' xs')(g:∀c,cr a xs' c->cr a xs c\/H c=none):PM mk key it (uI col j H) j B H' a d' xs':=
 ⟨h1,f,λc i=>by
   rcases g c i with i|e
   .rw[bu (h.d.obj i)];exact h.c c i
   .exact⟨DZ e,b.free e⟩⟩
def PM.base(h:PM mk key it col j B H a d xs)(b:∀c,cr a xs c->B' c=none):PM mk key it col j B' H a d xs:=⟨h.d,h.r,λc i=>⟨(h.c c i).1,b c i⟩⟩
end
structure PA where
 o:Addr
 ta:Addr
 aq:Addr
 ap:Addr
 sa:Addr
 la:Addr
 ar:Addr
noncomputable def pf(A:PA):List (Str×V):=[("rules",.ref A.ar),("told",.ref A.ta),("offers",.ref A.aq),("settled",.ref A.sa),("lacking",.ref A.la)]
noncomputable abbrev qf(A:PA)(last:Int):List (Str×V):=[("last",.int last),("piles",.ref A.ap)]
structure PO(CP CQ:Addr) (col:Addr->Nat) (B H:Hp) (A:PA) (last:Int) (t:Pz.TD) (kt:List (List bm×V)):Prop where
 ins:∃dx,H A.o=some (.ins CP dx (pf A))
 Fv:∃dx,H A.aq=some (.ins CQ dx (qf A last))
 td:H A.ta=some (.dT kt)
 tr:RepT H t kt
 c5:col A.ta=5/\B A.ta=none
 c6:col A.o=6/\B A.o=none
 c7:col A.aq=7/\B A.aq=none
structure bq(CP CQ:Addr) (B H:Hp) (A:PA) (rs:Pz.RS) (S:Pz.PS) (xs xl xr:DX (List bm)) (xp:DX bm) (kt:List (List bm×V)) (col:Addr->Nat):Prop where
 same:Same B H
 p1:PM .dK k1 IsItem col 1 B H A.ap S.aE xp
 p2:PM .dT k2 IsSet col 2 B H A.sa S.settled xs
 p3:PM .dT k2 IsLack col 3 B H A.la S.aH xl
 p4:PM .dT k2 IsNum col 4 B H A.ar rs xr
 po:PO CP CQ col B H A S.last S.told kt
def PAt(CP CQ:Addr)(B H:Hp)(A:PA)(rs:Pz.RS)(S:Pz.PS)(xs b c:DX (List bm)):Prop:=∃d kt a,bq CP CQ B H A rs S xs b c d kt a
section
variable{CP CQ:Addr}{B B' H H':Hp}{A:PA}{rs:Pz.RS}{S:Pz.PS}{xs xl xr:DX (List bm)}{xp:DX bm}{kt:List (List bm×V)}{col:Addr->Nat}
theorem PO.keep(h:PO CP CQ col B H A last t kt)(k:KT H H')(kp:∀c u,H c=some u->5<=col c->col c<=7->H' c=some u)(a:∀c,H c≠none->col' c=col c):PO CP CQ col' B H' A last t kt:=by
 obtain⟨⟨b,h1⟩,⟨d,e⟩,f,g,c5,c6,c7⟩:=h;refine⟨⟨b,kp _ _ h1 (by lia) (by lia)⟩,⟨d,kp _ _ e (by lia) (by lia)⟩,kp _ _ f (by lia) (by lia),g.keep k,?_,?_,?_⟩
 .rw[a _ (by grind)];exact c5
 .rw[a _ (by grind)];exact c6
 .rw[a _ (by grind)];exact c7
def bq.pile(h:bq CP CQ B H A rs S xs xl xr xp kt col)(h1:DL .dK H' A.ap xp')(b:RepM k1 IsItem H' d' xp')(f:∀c,cr A.ap xp' c->cr A.ap xp c\/H c=none)
 (kp:∀c u,H c=some u->¬cr A.ap xp c->H' c=some u):bq CP CQ B H' A rs {S with aE:=d'} xs xl xr xp' kt (uI col 1 H):=by
 have k:KT H H':=h.p1.d.kt (λ_ _ z=>HO.noConfusion z) kp;have a:∀c u,H c=some u->col c≠1->H' c=some u:=λc u e n=>kp c u e λi=>n (h.p1.c c i).1;exact⟨(λc u e=>kp c u (h.same c u e) λi=>by rw[(h.p1.c c i).2]at e;cases e),h.p1.new h.same h1 b f,h.p2.keep (IsSet.keep k) (λc u e z=>a c u e (by lia)) λc=>bu,h.p3.keep (IsLack.keep k) (λc u e z=>a c u e (by lia)) λc=>bu,h.p4.keep (IsNum.keep k) (λc u e z=>a c u e (by lia)) λc=>bu,h.po.keep k (λc u e z _=>a c u e (by lia)) λc=>bu⟩
def bq.SC(h:bq CP CQ B H A rs S xs xl xr xp kt col)(h1:DL .dT H' A.sa xs')(b:RepM k2 IsSet H' d' xs')(f:∀c,cr A.sa xs' c->cr A.sa xs c\/H c=none)
 (kp:∀c u,H c=some u->¬cr A.sa xs c->H' c=some u):bq CP CQ B H' A rs {S with settled:=d'} xs' xl xr xp kt (uI col 2 H):=by
 have k:KT H H':=h.p2.d.kt (λ_ _ z=>HO.noConfusion z) kp;have a:∀c u,H c=some u->col c≠2->H' c=some u:=λc u e n=>kp c u e λi=>n (h.p2.c c i).1;exact⟨(λc u e=>kp c u (h.same c u e) λi=>by rw[(h.p2.c c i).2]at e;cases e),h.p1.keep (IsItem.keep k) (λc u e z=>a c u e (by lia)) λc=>bu,h.p2.new h.same h1 b f,h.p3.keep (IsLack.keep k) (λc u e z=>a c u e (by lia)) λc=>bu,h.p4.keep (IsNum.keep k) (λc u e z=>a c u e (by lia)) λc=>bu,h.po.keep k (λc u e z _=>a c u e (by lia)) λc=>bu⟩
def bq.uF(h:bq CP CQ B H A rs S xs xl xr xp kt col)(h1:DL .dT H' A.la xl')(b:RepM k2 IsLack H' d' xl')(f:∀c,cr A.la xl' c->cr A.la xl c\/H c=none)
 (kp:∀c u,H c=some u->¬cr A.la xl c->H' c=some u):bq CP CQ B H' A rs {S with aH:=d'} xs xl' xr xp kt (uI col 3 H):=by
 have k:KT H H':=h.p3.d.kt (λ_ _ z=>HO.noConfusion z) kp;have a:∀c u,H c=some u->col c≠3->H' c=some u:=λc u e n=>kp c u e λi=>n (h.p3.c c i).1;exact⟨(λc u e=>kp c u (h.same c u e) λi=>by rw[(h.p3.c c i).2]at e;cases e),h.p1.keep (IsItem.keep k) (λc u e z=>a c u e (by lia)) λc=>bu,h.p2.keep (IsSet.keep k) (λc u e z=>a c u e (by lia)) λc=>bu,h.p3.new h.same h1 b f,h.p4.keep (IsNum.keep k) (λc u e z=>a c u e (by lia)) λc=>bu,h.po.keep k (λc u e z _=>a c u e (by lia)) λc=>bu⟩
def bq.more(h:bq CP CQ B H A rs S xs xl xr xp kt col)(s:Same H H'):bq CP CQ B H' A rs S xs xl xr xp kt col:=by have k:KT H H':=λa ws e=>s a _ e;exact⟨h.same.trans s,h.p1.keep (IsItem.keep k) (λc u e _=>s c u e) λ_ _=>rfl,h.p2.keep (IsSet.keep k) (λc u e _=>s c u e) λ_ _=>rfl,h.p3.keep (IsLack.keep k) (λc u e _=>s c u e) λ_ _=>rfl,h.p4.keep (IsNum.keep k) (λc u e _=>s c u e) λ_ _=>rfl,h.po.keep k (λc u e _ _=>s c u e) λ_ _=>rfl⟩
theorem PAt.more(h:PAt CP CQ B H A rs S xs xl xr)(s:Same H H'):PAt CP CQ B H' A rs S xs xl xr:=let ⟨xp,kt,col,h⟩:=h;⟨xp,kt,col,h.more s⟩
def bq.tell(h:bq CP CQ B H A rs S xs xl xr xp kt col)(b:H p=some (.tup [.int x.1,vO x.2.1,vO x.2.2])) :
 bq CP CQ B (aP H A.ta (.dT (ce kt (ak a) (.ref p)))) A rs {S with told:=Pz.tput S.told a x} xs xl xr xp (ce kt (ak a) (.ref p)) col:=by
 have kp:∀c u,H c=some u->col c≠5->aP H A.ta (.dT (ce kt (ak a) (.ref p))) c=some u:=λc u e n=>by rw[af (λz=>n (by rw[z];exact h.po.c5.1))];exact e
 have k:KT H (aP H A.ta (.dT (ce kt (ak a) (.ref p)))):=λc ws e=>by rw[af (λz=>by rw[z,h.po.td]at e;cases e)];exact e
 obtain⟨⟨d,h1⟩,⟨f,g⟩,j,i,c5,c6,c7⟩:=h.po;refine⟨λc u e=>?_,h.p1.keep (IsItem.keep k) (λc u e z=>kp c u e (by lia)) λ_ _=>rfl,h.p2.keep (IsSet.keep k) (λc u e z=>kp c u e (by lia)) λ_ _=>rfl,h.p3.keep (IsLack.keep k) (λc u e z=>kp c u e (by lia)) λ_ _=>rfl,h.p4.keep (IsNum.keep k) (λc u e z=>kp c u e (by lia)) λ_ _=>rfl,⟨d,kp _ _ h1 (by lia)⟩,⟨f,kp _ _ g (by lia)⟩,ag,(i.keep k).put ⟨p,rfl,k _ _ b⟩,c5,c6,c7⟩;rw[af (λz=>by grind)];exact h.same c u e
def bq.wide(h:bq CP CQ B H A rs S xs xl xr xp kt col)(Z:Addr->Prop)(hz:∀c,Z c->¬cr A.ap xp c/\¬cr A.sa xs c/\¬cr A.la xl c/\¬cr A.ar xr c/\c≠A.ta/\c≠A.o/\c≠A.aq) :
 ∃B',Same B B'/\KT H B'/\(∀c u,Z c->H c=some u->B' c=some u)/\bq CP CQ B' H A rs S xs xl xr xp kt col:=by
 classical
 refine⟨λc=>if B c≠none\/Z c\/∃ws,H c=some (.tup ws)then H c else none,λc u e=>?_,λc ws e=>?_,λc u z e=>?_,λc u e=>?_,h.p1.base λc i=>?_,h.p2.base λc i=>?_,h.p3.base λc i=>?_,h.p4.base λc i=>?_,h.po.ins,h.po.Fv,h.po.td,h.po.tr,⟨h.po.c5.1,?_⟩,⟨h.po.c6.1,?_⟩,⟨h.po.c7.1,?_⟩⟩
 .dsimp only;rw[Tv (.inl (by grind))];exact h.same c u e
 .dsimp only;rw[Tv (.inr (.inr ⟨ws,e⟩))];exact e
 .dsimp only;rw[Tv (.inr (.inl z))];exact e
 .split at e
  .exact e
  .cases e
 all_goals
  refine TJ λq=>?_
 .rcases q with q|q|⟨ws,q⟩
  .exact q (h.p1.c c i).2
  .exact(hz c q).1 i
  .rcases i with rfl|⟨x,a,rfl⟩
   .rw[h.p1.d.root]at q;cases q
   .rw[h.p1.d.pC x a]at q;cases q
 .rcases q with q|q|⟨ws,q⟩
  .exact q (h.p2.c c i).2
  .exact(hz c q).2.1 i
  .rcases i with rfl|⟨x,a,rfl⟩
   .rw[h.p2.d.root]at q;cases q
   .rw[h.p2.d.pC x a]at q;cases q
 .rcases q with q|q|⟨ws,q⟩
  .exact q (h.p3.c c i).2
  .exact(hz c q).2.2.1 i
  .rcases i with rfl|⟨x,a,rfl⟩
   .rw[h.p3.d.root]at q;cases q
   .rw[h.p3.d.pC x a]at q;cases q
 .rcases q with q|q|⟨ws,q⟩
  .exact q (h.p4.c c i).2
  .exact(hz c q).2.2.2.1 i
  .rcases i with rfl|⟨x,a,rfl⟩
   .rw[h.p4.d.root]at q;cases q
   .rw[h.p4.d.pC x a]at q;cases q
 .rcases q with q|q|⟨ws,q⟩
  .exact q h.po.c5.2
  .exact(hz _ q).2.2.2.2.1 rfl
  .rw[h.po.td]at q;cases q
 .rcases q with q|q|⟨ws,q⟩
  .exact q h.po.c6.2
  .exact(hz _ q).2.2.2.2.2.1 rfl
  .obtain⟨b,e⟩:=h.po.ins;rw[e]at q;cases q
 .rcases q with q|q|⟨ws,q⟩
  .exact q h.po.c7.2
  .exact(hz _ q).2.2.2.2.2.2 rfl
  .obtain⟨b,e⟩:=h.po.Fv;rw[e]at q;cases q
def PAt.less(h:PAt CP CQ B' H A rs S xs xl xr)(s:Same B B'):PAt CP CQ B H A rs S xs xl xr:=by obtain⟨xp,kt,col,h⟩:=h;refine⟨xp,kt,col,s.trans h.same,h.p1.base λc i=>s.free (h.p1.c c i).2,h.p2.base λc i=>s.free (h.p2.c c i).2,h.p3.base λc i=>s.free (h.p3.c c i).2,h.p4.base λc i=>s.free (h.p4.c c i).2,h.po.ins,h.po.Fv,h.po.td,h.po.tr,⟨h.po.c5.1,s.free h.po.c5.2⟩,⟨h.po.c6.1,s.free h.po.c6.2⟩,⟨h.po.c7.1,s.free h.po.c7.2⟩⟩
theorem PAt.same(h:PAt CP CQ B H A rs S xs xl xr):Same B H:=let ⟨_,_,_,h⟩:=h;h.same
end
def GU(x y:Nat):Builtin.bitXor (x:Int) (y:Int)=(((x ||| y)-(x &&& y):Nat):Int):=by
 have a:∀z:Nat,decide (0<=Builtin.bitNot (z:Int))=false:=λz=>Uc (by unfold Builtin.bitNot;lia);have b:∀z:Nat,(Builtin.bitNot (Builtin.bitNot (z:Int))).toNat=z:=λz=>by unfold Builtin.bitNot;lia
 have p1:∀z:Nat,decide (0<=(z:Int))=true:=λz=>T4 (by lia);have eA:Builtin.bitAnd (x:Int) (y:Int)=((x &&& y:Nat):Int):=by unfold Builtin.bitAnd;rw[p1,p1];rfl
 have c:Builtin.bitOr (x:Int) (y:Int)=((x ||| y:Nat):Int):=by unfold Builtin.bitOr Builtin.bitAnd;rw[a,a];show Builtin.bitNot (Builtin.bitNot (((Builtin.bitNot (Builtin.bitNot (x:Int))).toNat |||(Builtin.bitNot (Builtin.bitNot (y:Int))).toNat:Nat):Int))=_;rw[b,b];unfold Builtin.bitNot;lia
 unfold Builtin.bitXor;rw[eA,c];have:x &&& y<=x ||| y:=Ua Nat.and_le_left Nat.left_le_or;lia
def zN:Pz.vh au:=by
 have key:∀{p l:Int},0<=p->0<=l->∃z:Nat,au p l=(z:Int)/\∀k:Nat,z<=k↔p/2^k=l/2^k:=by
  intro p l a b;obtain⟨x,rfl⟩:=U8 a;obtain⟨y,rfl⟩:=U8 b;refine⟨_,rfl,λk=>?_⟩;rw[GU];unfold Builtin.Int.intBits;rw[Pz.GQ,Pz.GP];have e:∀z:Nat,(z:Int)/2^k=((z/2^k:Nat):Int):=λz=>by rw[Int.natCast_ediv];norm_cast
  rw[e,e];lia
 constructor
 .intro p l a b;obtain⟨z,e,_⟩:=key a b;rw[e];lia
 .intro p l a b k;obtain⟨z,e,h⟩:=key a b;rw[e,<- h k];lia
section
variable{K:Xu}{C q ap:Addr}{H:Hp}{last:Int}{xp:DX bm}{σ:L2.St}
inductive nc(C:Addr):Sp
 |mk {q dx:Addr} {H:Hp} {Q:VK} {E:XK} (hq:H q=some (.ins C dx [])) (k:∀(d:Addr)(H':Hp),H d=none->H' q=some (.ins C dx [("last",.int 0),("piles",.ref d)])->H' d=some (.dK [])->(∀b o,H b=some o->b≠q->H' b=some o)->Q .bn H'):nc C [.ref q] H Q E
def K1(K:Xu):TS:=dC (tV K (aI 0) (tC (.int 0)) "last") (tV K (aI 0) Cw "piles")
def wG(h:nc C vs H Q E):vs.length=1:=by cases h;rfl
def yA(T:u_ K C)(h:nc C vs H Q E):K1 K {nx:=λ_ H'=>Q .bn H',rt:=Q} (cf N vs) H:=by
 obtain @⟨q,dx,_,_,_,hq,k⟩:=h;refine⟨_,rfl,q,C,dx,[],rfl,hq,T.cl,T.nl,(by show 0<1000;decide),?_⟩;intro d hd;have a:d≠q:=λe=>by rw[e,ag]at hd;cases hd
 have c:H d=none:=by rw[af a]at hd;exact hd
 refine⟨_,rfl,q,C,dx,_,rfl,(by rw[af (UM a),ag]),T.cl,T.np,(by show 1<1000;decide),?_⟩;refine k d _ c (by rw[ag];rfl) (by rw[af a,ag]) λb o e f=>?_;rw[af f,af (ai e c),af f];exact e
inductive mZ(C:Addr):Sp
 |mk {q ap dx:Addr} {last:Int} {kvs:List (bm×V)} {H:Hp} {Q:VK} {E:XK} (hq:H q=some (.ins C dx [("last",.int last),("piles",.ref ap)])) (ha:H ap=some (.dK kvs)) (hl:kvs.length<=sizeLine) (k:Q (.bl (decide (kvs.length=0))) H):mZ C [.ref q] H Q E
def IH:List V->Hp->VK->Prop:=λxs H Q=>∃(d:Addr)(kvs:List (bm×V))(u:HO),xs=[.ref d]/\(u=.dK kvs\/(u=.dT []/\kvs=[]))/\Rd H d u/\kvs.length<=sizeLine/\Q (.int kvs.length) H
def Bv:CallR X (.builtin "len") IH:=Bi
def K3(K:Xu):TS:=tU (lL Nk (FP IH (aA (fO K (aI 0) "piles") bz)) (tC (.int 0)))
def wH(h:mZ C vs H Q E):vs.length=1:=by cases h;rfl
def yB(T:u_ K C)(h:mZ C vs H Q E):K3 K {nx:=λ_ H'=>Q .bn H',rt:=Q} (cf N vs) H:=by
 obtain @⟨q,ap,dx,last,kvs,_,_,_,hq,ha,hl,k⟩:=h;refine⟨_,rfl,q,C,dx,_,_,rfl,hq,T.cl,T.np,rfl,ap,kvs,_,rfl,.inl rfl,.inl ha,hl,rfl,?_⟩;have:decide (V.int (kvs.length:Int)=V.int 0)=decide (kvs.length=0):=by apply decide_eq_decide.mpr;exact⟨λe=>by injection e with e;lia,λe=>by rw[e];rfl⟩
 rw[this];exact k
def RE(C q ap:Addr)(d:Pz.Q Pz.ba)(xp:DX bm)(H:Hp)(Q:VK):Prop:=∀(l:Addr)(vs':List V)(a:DX bm)(H':Hp),MT C H' q ap (Pz.lowP d) a->RepM k1 IsItem H' (Pz.left au d) a->H' l=some (.lst vs')->eh (IsItem H') (Pz.dL au d) vs'->¬cr ap a l->(cr ap xp l\/H l=none)->(∀c,cr ap a c->cr ap xp c\/H c=none)->
 (∀c u,H c=some u->¬cr ap xp c->c≠q->H' c=some u)->Q (.ref l) H'
inductive rC(C:Addr):Sp
 |mk {q ap:Addr} {last:Int} {xp:DX bm} {d:Pz.Q Pz.ba} {H:Hp} {Q:VK} {E:XK} (G:MT C H q ap last xp) (R:RepM k1 IsItem H d xp) (ok:Pz.xC au last d) (hne:d≠[]) (hfew:d.flat.length<16000000)
  (k:RE C q ap d xp H Q):rC C [.ref q] H Q E
def yC(h:rC C vs H Q E):vs.length=1:=by cases h;rfl
def K4(K:Xu):TS:=tU (pQ (fO K (aI 0) "piles") (tC (.int 0)))
def Os(C:Addr):TS:=eB (fV C "add" (tS C) [] E0 (aI 0) (aA (aI 2) (aA (aI 3) bz)))
def RF(K:Xu)(C:Addr):TS:=dC (nu (lz K (aI 1)) (ip K 2 (bc (aT 2) (bc (aT 3) io))) (Os C)) (K4 K)
def Ot(K:Xu)(C:Addr)(a:TE):TS:=dC (tV K (aI 0) a "last") (RF K C)
def II(K:Xu)(C:Addr)(a:TE):TS:=dC (lK (pQ (fO K (aI 0) "piles") (FP IG (aA (J_ K "dict" IF (fO K (aI 0) "piles")) bz))) (aT 1)) (Ot K C a)
def K5(b:TE):Prop:=∀(σ:L2.St)(H:Hp)(a:Addr)(vs:List V)(its:List (Int×Pz.ba))(Q:VK),σ[1]?=some (some (.ref a))->H a=some (.lst vs)->eh (IsItem H) its vs->its≠[]->its.length<16000000->(∀H',Same H H'->Q (.int (Pz.lo (its.map (·.1)))) H')->b σ H Q
def zO(l:List Int):p9 l=Pz.lo l:=by cases l<;>rfl
def GV{κ:Type}(xs:DX κ):xs.kv.map (·.1)=xs.map (·.1):=by unfold DX.kv;rw[T7];rfl
def MT.ne(G:MT C H q ap last xp)(i:cr ap xp c):c≠q:=λe=>by
 obtain⟨d,a⟩:=G.ins;rcases i with z|⟨x,b,z⟩
 .have:=G.aE.root;rw[<- z,e,a]at this;cases this
 .have:=G.aE.pC x b;rw[<- z,e,a]at this;cases this
end
section
variable{K:Xu}{C q ap:Addr}{H:Hp}{last:Int}{xp:DX bm}
def oO(m:Int)(d:Pz.Q Pz.ba)(l:List (Int×Pz.ba))(x:Int×Pz.ba):Pz.cT au m d (l++[x])=(Pz.cT au m d l).app (au x.1 m) x:=by unfold Pz.cT;rw[Vf];rfl
def pq(s:Same H H'):KT H H':=λa ws e=>s a _ e
variable{D:Ends}{σ:L2.St}{d:Pz.Q Pz.ba}{H0:Hp}{p:Addr×List V}{i:Nat}{xi:DX bm}
structure Q0(C q ap:Addr) (d:Pz.Q Pz.ba) (H0:Hp) (xp:DX bm) (p:Addr×List V) (i:Nat) (H:Hp) (xi:DX bm):Prop where
 G:MT C H q ap (Pz.lowP d) xi
 R:RepM k1 IsItem H (Pz.cT au (Pz.lowP d) (d.drop (Pz.b_ d)) ((d.get (Pz.b_ d)).take i)) xi
 l:H p.1=some (.lst p.2)
 n:¬cr ap xi p.1
 a:eh (IsItem H) (d.get (Pz.b_ d)) p.2
 sub:∀c,cr ap xi c->cr ap xp c\/H0 c=none
 kp:∀c u,H0 c=some u->¬cr ap xp c->c≠q->H c=some u
def QW(q:Addr)(l:Addr)(σ:L2.St):Prop:=∃u v,σ=[some (.ref q),some (.ref l),u,v]
def S6(I:Q0 C q ap d H0 xp p i H xi)(F:(d.get (Pz.b_ d))[i]?=some x)(h:IsItem H x v)(hs:QW q p.1 σ)(ok:(Pz.cT au (Pz.lowP d) (d.drop (Pz.b_ d)) ((d.get (Pz.b_ d)).take (i+1))).Ok)(m_:(Pz.cT au (Pz.lowP d) (d.drop (Pz.b_ d)) ((d.get (Pz.b_ d)).take (i+1))).flat.length<16000000)
 (k:∀o H' r,QW q p.1 o->Q0 C q ap d H0 xp p (i+1) H' r->D.nx o H'):ip K 2 (bc (aT 2) (bc (aT 3) io)) v σ H λs M=>Os C D s M:=by
 obtain⟨t,_,rfl,N,b,rfl,O⟩:=h;obtain⟨u,w,rfl⟩:=hs;refine IC N (wC (.va rfl) I.G.ins rfl (.c (.va rfl) (.c (.va rfl) .ni)) (.mk I.G λl J y j P Q A B f=>?_));have g:KT H y:=I.G.aE.kt (λ_ _ z=>HO.noConfusion z) f;rw[Ve,F,show(some x).toList=[x]from rfl,oO]at ok m_;have E:RepM k1 IsItem y _ (mI xi (.inl (au x.1 (Pz.lowP d))) l (.ref J)):=I.R.add (k:=au x.1 (Pz.lowP d)) nV (IsItem.keep g) ⟨J,_,rfl,Q,b,rfl,g _ _ O⟩;refine k _ y _ ⟨_,_,rfl⟩ ⟨⟨A,B,?_,E.low m_⟩,?_,f _ _ I.l I.n,λz=>?_,I.a.mono (IsItem.keep g),λc z=>?_,λc u e n m=>?_⟩
 .have:=E.len;have:=Pz.jf ok;exact UQ (by lia) m_
 .rw[Ve,F,show(some x).toList=[x]from rfl,oO];exact E
 .rcases k7 z with z|z
  .exact I.n z
  .rw[<- z,I.l]at j;cases j
 .rcases k7 z with z|rfl
  .exact I.sub c z
  .by_cases L:cr ap xp c
   .exact .inl L
   .refine .inr ?_;cases e:H0 c with
    |none=>rfl
    |some u=>
     by_cases z:c=q
     .obtain⟨_,S⟩:=I.G.ins;rw[z,S]at j;cases j
     .rw[I.kp c u e L z]at j;cases j
 .exact f _ _ (I.kp c u e n m) λz=>(I.sub c z).elim n λz=>by rw[z]at e;cases e
def zP{κ:Type}[DecidableEq κ]{xs:DX κ}{k:κ}{a c:Addr}(i:cr a (mJ xs k) c):cr a xs c:=i.imp id λ⟨x,b,e⟩=>⟨x,(Ug.mp b).1,e⟩
def S7(T:u_ K C)(l:Pz.Nh au last d)(v:d.flat.length<16000000)(I:Q0 C q ap d H0 xp p p.2.length H xi)(hs:QW q p.1 σ)
 (k:RE C q ap d xp H0 D.rt):K4 K D σ H:=by
 obtain⟨u,w,rfl⟩:=hs;have f:=I.R;rw[UG (by rw[I.a.len];exact Tt _)]at f;have f:RepM k1 IsItem H (Pz.mid au d) xi:=f;have ha:=I.G.aE.root;obtain⟨x,o⟩:=I.G.ins;rcases f.find nV 0 with⟨_,y,_⟩|⟨p1,r,_,A⟩
 .have:=Pz.has_iff.mpr l.k3;rw[y]at this;cases this
 delta K4 tU pQ
 refine KW (.va rfl) I.G.ins T.cl T.np rfl ⟨ap,rfl,.inl ⟨_,.inl ha⟩,xi.kv,k1 0,.ref p1.1,ha,rfl,(by rw[iF,r];rfl),?_⟩;generalize g:aP H ap (.dK (lA xi.kv (k1 0)))=j;have b:∀c u,H c=some u->c≠ap->j c=some u:=λc u e n=>by rw[<- g,af n];exact e
 obtain⟨B,E,F⟩:=I.G.aE.drop (λ_ _ z=>HO.noConfusion z) r (by rw[<- g,ag]) b;have h:KT H j:=λc ws e=>b c _ e λz=>by rw[z,ha]at e;cases e
 have s:RepM k1 IsItem j (Pz.left au d) (mJ xi (k1 0)):=(f.drop nV 0).keep (IsItem.keep h);have t:(Pz.left au d).flat.length<16000000:=by have:=l.pm.length_eq;rw[T_]at this;lia
 have:=s.len;have:=Pz.jf l.ok.ok;exact k p1.1 p1.2 _ j ⟨⟨x,b _ _ o λe=>by rw[e,ha]at o;cases o⟩,B,by lia,s.low t⟩ s E (A.mono (IsItem.keep h)) F (I.sub _ (.inr ⟨_,cq r,rfl⟩)) (λc z=>I.sub c (zP z)) λc u e n m=>b _ _ (I.kp c u e n m) λz=>n (.inl z)
def tk1(T:u_ K C)(N:K5 tm)(r:Pz.Nh au last d)(ok:d.Ok)(f:d.flat.length<16000000)(s:∃g,H q=some (.ins C g [("last",.int last),("piles",.ref ap)])) (O:DL .dK H ap xi) (R2:RepM k1 IsItem H (d.drop (Pz.b_ d)) xi) (P:∀c,cr ap xp c->c≠q) (w:H p.1=some (.lst p.2)) (J:p.1≠q) (Q:¬cr ap xi p.1) (L:eh (IsItem H) (d.get (Pz.b_ d)) p.2) (sub:∀c,cr ap xi c->cr ap xp c) (kp:∀c u,H0 c=some u->¬cr ap xp c->H c=some u)
 (hs:σ=[some (.ref q),some (.ref p.1),none,none]) (k:RE C q ap d xp H0 D.rt):Ot K C tm D σ H:=by
 subst hs;obtain⟨g,s⟩:=s;refine N _ H p.1 p.2 (d.get (Pz.b_ d)) _ rfl w L r.k2 (UQ (Pz.pk d _) f) λR M=>?_;refine⟨_,rfl,q,C,g,_,rfl,M _ _ s,T.cl,T.nl,(by show 2<1000;decide),?_⟩;generalize h:aP R q (.ins C g (iL "last" (.int (Pz.lo ((d.get (Pz.b_ d)).map (·.1)))) [("last",.int last),("piles",.ref ap)]))=A;have b:∀c u,H c=some u->c≠q->A c=some u:=λc u e n=>by rw[<- h,af n];exact M c u e
 have S:A q=some (.ins C g [("last",.int (Pz.lowP d)),("piles",.ref ap)]):=by rw[<- h,ag];rfl
 have j:KT H A:=λc ws e=>b c _ e λz=>by rw[z,s]at e;cases e
 have ge:∀y∈d.get (Pz.b_ d),Pz.lowP d<=y.1:=λy B=>Pz.DU (TV.mpr ⟨y,B,rfl⟩);have fl:∀i,((Pz.cT au (Pz.lowP d) (d.drop (Pz.b_ d)) ((d.get (Pz.b_ d)).take i))).flat.length<16000000:=λi=>by rw[(Pz.kh r.o1.ok).length_eq,T_];have:=Wg i (d.get (Pz.b_ d));have:=(Pz.nR ok.nk (Pz.b_ d)).length_eq;rw[T_]at this;lia
 have o:∀i,(Pz.cT au (Pz.lowP d) (d.drop (Pz.b_ d)) ((d.get (Pz.b_ d)).take i)).Ok:=λi=>(r.o1.cT λx E=>ge x (Vs E)).ok;have F:=fl 0;have t:=Pz.jf (o 0);have X:=R2.len;rw[List.take_zero]at F t;have U:(Pz.cT au (Pz.lowP d) (d.drop (Pz.b_ d)) [])=d.drop (Pz.b_ d):=rfl;rw[U]at F t;refine⟨_,rfl,p.1,rfl,⟨_,SqL.of (b _ _ w J)⟩,vy (K:=K) (a:=p.1) (xs:=p.2) (λi σ v=>QW q p.1 σ/\∃xi,Q0 C q ap d H0 xp p i v xi)
  ⟨⟨none,none,rfl⟩,xi,⟨⟨g,S⟩,O.keep λc u e i=>b c u e (P c (sub c i)),by lia,R2.low F⟩,?_,b _ _ w J,Q,L.mono (IsItem.keep j),λc i=>.inl (sub c i),λc u e n m=>b c u (kp c u e n) m⟩
  (λi σ v _ ⟨_,xi,I⟩=>SqL.of I.l) (λi y σ v V ⟨hs,xi,I⟩=>?_) λσ v ⟨hs,xi,I⟩=>S7 T r f I hs k⟩
 .rw[List.take_zero];exact R2.keep (IsItem.keep j)
 .obtain⟨x,E,B⟩:=I.a.get V;exact S6 I E B hs (o _) (fl _) λW H' G h1 t=>⟨h1,G,t⟩
def Bw(T:u_ K C)(t:∀(last:Int)(ap:Addr),List.lookup ("add" : Str) ([("last",V.int last),("piles",V.ref ap)]:List (Str×V))=none) (w:K5 tm) (h:rC C vs H Q E) :
 II K C tm {nx:=λ_ H'=>Q .bn H',rt:=Q} (cf ["self","pile","price","thing"] vs) H:=by
 obtain @⟨q,ap,last,xp,d,H,Q,_,G,R,ok,hne,hfew,k⟩:=h;have o:=Pz.Bm zN ok hne;have a:=G.aE.root
 delta II dC lK pQ
 refine KW (.va rfl) G.ins T.cl T.np rfl ⟨ap,rfl,.inl ⟨_,.inl a⟩,KW (.va rfl) G.ins T.cl T.np rfl ⟨.inr (.inr (.inl ⟨rfl,.inl ⟨_,a⟩⟩)),ap,_,rfl,rfl,a,λv r=>?_⟩⟩;have f:ap≠v:=ai a r;refine⟨v,ap,xp.kv,d.keys,rfl,ag,(by rw[af f];exact a),(by rw[GV,R.keys];rfl),(by intro e;exact hne (List.map_eq_nil_iff.mp e)),?_⟩;rcases R.find nV (Pz.b_ d)with⟨_,_,e⟩|⟨x,l,_,y⟩
 .exact(o.k2 e).elim
 refine⟨xp.kv,k1 (Pz.b_ d),.ref x.1,(by rw[af f];exact a),(by rw[zO];rfl),(by rw[iF,l];rfl),?_⟩;generalize g:aP (aP H v (wF v ap)) ap (.dK (lA xp.kv (k1 (Pz.b_ d))))=s;have b:∀c u,H c=some u->c≠ap->s c=some u:=λc u e n=>by rw[<- g,af n,af (ai e r)];exact e
 obtain⟨A,B,F⟩:=G.aE.drop (λ_ _ z=>HO.noConfusion z) l (by rw[<- g,ag]) b;have j:KT H s:=λc ws e=>b c _ e λz=>by rw[z,a]at e;cases e
 obtain⟨I,m⟩:=G.ins;exact tk1 T w o ok.ok hfew ⟨I,b _ _ m λe=>by rw[e,a]at m;cases m⟩ A ((R.drop nV _).keep (IsItem.keep j)) (λc=>G.ne) B (G.ne (.inr ⟨_,cq l,rfl⟩)) F (y.mono (IsItem.keep j)) (λc=>zP) (λc u e n=>b c u e λz=>n (.inl z)) rfl k
end
structure lu(K:Xu) (C:Addr):Prop where
 cl:ve K C
 nr:NoAttr K C "rules"
 nt:NoAttr K C "told"
 no:NoAttr K C "offers"
 ns:NoAttr K C "settled"
 nl:NoAttr K C "lacking"
def RG(A:PA):(pf A).lookup ("rules" : Str)=some (V.ref A.ar):=rfl
def GW(A:PA):(pf A).lookup ("told" : Str)=some (V.ref A.ta):=rfl
def K6(A:PA):(pf A).lookup ("offers" : Str)=some (V.ref A.aq):=rfl
def Ou(A:PA):(pf A).lookup ("settled" : Str)=some (V.ref A.sa):=rfl
def Ov(A:PA):(pf A).lookup ("lacking" : Str)=some (V.ref A.la):=rfl
def K7(A:PA)(last:Int):(qf A last).lookup ("add" : Str)=none:=rfl
section
variable{K:Xu}{CP CQ:Addr}{B H:Hp}{A:PA}{rs:Pz.RS}{S:Pz.PS}{xs xl xr:DX (List bm)}
inductive fC(CP CQ:Addr):Sp
 |mk {B H:Hp} {A:PA} {rs:Pz.RS} {S:Pz.PS} {xs xl xr:DX (List bm)} {b:Addr} {a:Pz.ba} {p:Int} {n m:Option Int} {Q:VK} {E:XK} (P:PAt CP CQ B H A rs S xs xl xr) (hb:H b=some (.tup (nU a))) (f:Pz.lG (Pz.bb au S a p n m)) (k:∀H',PAt CP CQ B H' A rs (Pz.bb au S a p n m) xs xl xr->Q .bn H'):fC CP CQ [.ref A.o,.ref b,.int p,vO n,vO m] H Q E
def Ow:R2:=λx y H Q=>y=.bn/\Q (.bl (decide (x=.bn))) H
def K8:OpR X (compareOp .Is) Ow:=J1
def S8:R2:=AA λi j=>.bl (decide (i<j))
def K9(K:Xu)(CQ:Addr):TS:=dC (Cu (fO K (aI 0) "told") (aI 1) (jN (aA (aI 2) (aA (aI 3) (aA (aI 4) bz)))))
 (eB (fV CQ "add" (tS CQ) [] E0 (fO K (aI 0) "offers") (aA (aI 2) (aA (aI 1) bz))))
def Ox(K:Xu)(CQ:Addr):TS:=xD (SF (oq (lL Ow (aI 5) (tC .bn))) (oq (lL S8 (aI 2) (lL (pN K) (aI 5) (tC (.int 0)))))) (K9 K CQ) vx
def D0(K:Xu)(CQ:Addr):TS:=dC (lK (xT (fO K (aI 0) "told") (aI 1)) (aT 5)) (Ox K CQ)
def wI(h:fC CP CQ vs H Q E):vs.length=5:=by cases h;rfl
variable{b:Addr}{a:Pz.ba}{p:Int}{n m:Option Int}{Q:VK}{E:XK}{D:Ends}{σ:L2.St}{xp:DX bm}{kt:List (List bm×V)}{col:Addr->Nat}
theorem bq.fld(P:bq CP CQ B H A rs S xs xl xr xp kt col)(cl:ve K CP)(n:NoAttr K CP f)(c:(pf A).lookup f=some v)(h:σ[i]?=some (some (.ref A.o))):Reads (fO K (aI i) f) σ H v:=.fld (.va h) P.po.ins cl n c
def bq.rd(P:bq CP CQ B H A rs S xs xl xr xp kt col)(cl:ve K CP)(n:NoAttr K CP f)(c:(pf A).lookup f=some v)(h:σ[i]?=some (some (.ref A.o)))(q:Q v H):fO K (aI i) f σ H Q:=P.fld cl n c h _ q
def wJ(TP:lu K CP)(P:bq CP CQ B H A rs S xs xl xr xp kt col)(I:H b=some (.tup (nU a)))(fit:Pz.lG (Pz.ko au S a p n m))
 (k:∀σ H',PAt CP CQ B H' A rs (Pz.ko au S a p n m) xs xl xr->D.nx σ H'):K9 K CQ D [some (.ref A.o),some (.ref b),some (.int p),some (vO n),some (vO m),some w] H:=by
 delta K9 dC Cu
 refine KY (.c (.va rfl) (.c (.va rfl) (.c (.va rfl) .ni))) rfl λt i=>?_;have s1:Same H (aP H t (.tup [.int p,vO n,vO m])):=aK i;have s:=P.more s1;have u:=s.po.td;have e:=s1 _ _ I;have F:kt.length<sizeLine:=by have e1:S.told.length=kt.length:=P.po.tr.len;have e2:=fit.t;have e3:=(Pz.wy S.told a (p,n,m)).1;have e4:(Pz.ko au S a p n m).told=Pz.tput S.told a (p,n,m):=rfl;rw[e4]at e2;rw[Uj];unfold Pz.L at e2;lia
 refine s.rd TP.cl TP.nt (GW A) rfl ⟨_,rfl,A.ta,_,rfl,DPut.t (k:=ak a) u e F,?_⟩;have f:=s.tell (a:=a) (x:=(p,n,m)) (p:=t) ag;have j:aP (aP H t (.tup [.int p,vO n,vO m])) A.ta (.dT (ce kt (ak a) (.ref t))) b=some (.tup (nU a)):=by rw[af (λz=>by rw[z,u]at e;cases e)];exact e
 generalize aP (aP H t (.tup [.int p,vO n,vO m])) A.ta (.dT (ce kt (ak a) (.ref t)))=J at f j;clear s u e s1 F i;have g:=fit.p;have h:=fit.pf;have al:=Pz.gb S.aE (au p S.last) (p,a);have e5:(Pz.ko au S a p n m).aE=S.aE.app (au p S.last) (p,a):=rfl;rw[e5]at g h;unfold Pz.L at g h;have pr2:RepM k1 IsItem J S.aE xp:=f.p1.r;refine wC (f.fld TP.cl TP.no (K6 A) rfl) f.po.Fv (K7 A _) (.c (.va rfl) (.c (.va rfl) .ni)) (.mk ⟨f.po.Fv,f.p1.d,by rw[<- pr2.len];lia,pr2.low (by lia)⟩ ?_);intro l M N v O y R C q;have G:=f.p1.d.kt (λ_ _ z=>HO.noConfusion z) q;exact k _ N ⟨_,_,_,f.pile C (pr2.add nV (IsItem.keep G) ⟨M,_,rfl,y,b,rfl,G _ _ j⟩) (λc z=>(k7 z).imp id λz=>by rw[z];exact v) q⟩
def D7(TP:lu K CP)(P:bq CP CQ B H A rs S xs xl xr xp kt col)(d:H b=some (.tup (nU a)))(fit:Pz.lG (Pz.bb au S a p n m))
 (k:∀σ H',PAt CP CQ B H' A rs (Pz.bb au S a p n m) xs xl xr->D.nx σ H'):Ox K CQ D [some (.ref A.o),some (.ref b),some (.int p),some (vO n),some (vO m),some ((cS kt (ak a)).getD .bn)] H:=by
 unfold Pz.bb at fit k;rcases P.po.tr.find a with⟨e1,e2⟩|⟨v,x,e1,e2,q,rfl,e⟩
 .rw[Tv (show Pz.iY S a p=true by unfold Pz.iY;rw[e2])]at fit k;rw[e1];exact⟨_,rfl,rfl,_,rfl,wJ TP P d fit k⟩
 .rw[e1];refine⟨_,rfl,rfl,_,rfl,?_⟩;refine wD (c:=decide (p<x.1)) (.op (.va rfl) (.ix (.va rfl) e rfl) (λ_ q=>⟨p,x.1,rfl,rfl,q⟩)) (λh=>?_) (λh=>?_)
  .rw[Tv (show Pz.iY S a p=true by unfold Pz.iY;rw[e2];exact h)]at fit k;exact wJ TP P d fit k
  .rw[TJ λz=>by unfold Pz.iY at z;rw[e2]at z;exact h z]at k;exact k _ H ⟨xp,kt,col,P⟩
def yD(TP:lu K CP)(d:u_ K CQ)(h:fC CP CQ vs H Q E):D0 K CQ {nx:=λ_ H'=>Q .bn H',rt:=Q} (cf ["self","arrow","price","number","mid","known"] vs) H:=by
 obtain⟨⟨xp,kt,col,P⟩,c,fit,k⟩:=h
 delta D0 dC lK xT
 exact P.rd TP.cl TP.nt (GW _) rfl ⟨_,rfl,.inr ⟨_,.inl P.po.td⟩,_,rfl,_,DGet.t (k:=ak _) P.po.td c,D7 TP P c fit λ_=>k⟩
def uJ(P:PAt CP CQ B H A rs S xs xl xr)(f:Pz.lG (Pz.bb au S a p n m))(h:Reads ta σ H (.ref A.o))(d:Makes te σ H (nU a))(e:∀H',Same H H'->ReadsA tr σ H' [.int p,vO n,vO m])(k:∀H',PAt CP CQ B H' A rs (Pz.bb au S a p n m) xs xl xr->D.nx σ H') :
 eB (fV CP "offer" (fC CP CQ) [] E0 ta (aA te tr)) D σ H:=by
 have g:=P;obtain⟨_,_,_,i⟩:=g;obtain⟨j,l⟩:=i.po.ins;exact h _ ⟨A.o,j,_,rfl,l,rfl,d _ λq c=>e _ (aK c) _ (.mk (P.more (aK c)) ag f k)⟩
end
section
variable{K:Xu}{CP CQ:Addr}{B H:Hp}{A:PA}{rs:Pz.RS}{S:Pz.PS}{xs xl xr:DX (List bm)}{xp:DX bm}{kt:List (List bm×V)}{col:Addr->Nat}
theorem bq.obj(P:bq CP CQ B H A rs S xs xl xr xp kt col)(hz:H z=none):¬cr A.ap xp z/\¬cr A.sa xs z/\¬cr A.la xl z/\¬cr A.ar xr z/\z≠A.ta/\z≠A.o/\z≠A.aq:=by
 refine⟨λi=>P.p1.d.obj i hz,λi=>P.p2.d.obj i hz,λi=>P.p3.d.obj i hz,λi=>P.p4.d.obj i hz,λe=>?_,λe=>?_,λe=>?_⟩
 .rw[e,P.po.td]at hz;cases hz
 .obtain⟨_,h⟩:=P.po.ins;rw[e,h]at hz;cases hz
 .obtain⟨_,h⟩:=P.po.Fv;rw[e,h]at hz;cases hz
def GX{α:Type}{it:Hp->α->V->Prop}(F:∀H H',KT H H'->∀x v,it H x v->it H' x v){a:Addr}{f:Str}{q:DX (List bm)}{d:Pz.MD (Int×Int) α}(P:bq CP CQ B H A rs S xs xl xr xp kt col)(r:DL .dT H a q)(G:RepM k2 it H d q)
 (cl:ve K CP) (I:NoAttr K CP f) (J:(pf A).lookup f=some (V.ref a)) {σ:L2.St} {j:Nat} {b:Addr} {k:Int×Int} (L:σ[0]?=some (some (.ref A.o))) (M:σ[j]?=some (some (.ref b))) (N:H b=some (.tup [.int k.1,.int k.2])) {Q:VK}
 (C:∀(l:Addr)(vs:List V)(g i:Hp),Same H i->Same B g->KT i g->bq CP CQ g i A rs S xs xl xr xp kt col->i l=some (.lst vs)->(∀h,Same g h->DL .dT h a q->h l=some (.lst vs)/\eh (it h) (d.get k) vs)->Q (.ref l) i) :
 lM (fO K (aI 0) f) (aI j) (vD bz) σ H Q:=by
 delta lM
 refine P.rd cl I J L ⟨a,rfl,.inr ⟨_,.inl r.root⟩,_,M,Ul _,λz hz=>?_⟩;have s1:Same H (aP H z (.lst [])):=aK hz;have s:aP H z (.lst []) b=some (.tup ((k2 k).map kV)):=s1 _ _ N;refine⟨_,DGet.t (s1 _ _ r.root) s,?_⟩;have D:=P.more s1;rcases G.find qN k with⟨m,O,u⟩|⟨p,m,O,u⟩
 .rw[iF,m];obtain⟨g,w,n,E,y⟩:=D.wide (λc=>c=z) λc e=>by subst e;exact P.obj hz
  refine C z [] g _ s1 w n y ag λh s2 _=>⟨s2 _ _ (E z _ rfl ag),?_⟩;rw[u];exact .nil
 .rw[iF,m];obtain⟨g,w,n,E,y⟩:=D.wide (λ_=>False) λ_ e=>e.elim;refine C p.1 p.2 g _ s1 w n y (s1 _ _ (r.pC _ (cq m))) λh s2 R=>⟨R.pC _ (cq m),u.mono (F _ _ λc ws e=>s2 _ _ (n _ _ (s1 _ _ e)))⟩
def Wk(J:L2.It)(g:TG)(tb:TS)(D:Ends)(σ:L2.St)(H:Hp):Prop:=∃W:Nat->Nat->L2.St->Hp->Prop,(∃m,W 0 m σ H)/\∀i m σ H,W i m σ H->
 (J.stop i H/\D.nx σ H)\/(J.go i H/\∃N:L2.St->Hp->Prop,(∀a H',N a H'->∃m',m'<m/\W (i+1) m' a H')/\∀x H',J.Ji i H x H'->g x σ H' λb c=>tb {D with nx:=N,ct:=N,bk:=D.nx} b c)
def nW{tb:TS}{D:Ends}{σ:L2.St}(h:tl σ H λx b=>∃a,x=.ref a/\(∃xs,SqL K b a xs)/\Wk (FE K a) g tb D σ b):nu (lz K tl) g tb D σ H:=h
def uK{α:Type}{it:Hp->α->V->Prop}{l:Addr}{vs:List V}{its:List α}{g:TG}{tb:TS}{D:Ends}{σ:L2.St}{h:Hp}(b:L2.St->Prop)(step:Pz.PS->α->Pz.PS)(S0:Pz.PS)(W:Pz.PS->Hp->Prop)(m:b σ)(h1:W S0 h)
 (d:∀S H,W S H->Rd H l (.lst vs)/\eh (it H) its vs)
 (n:∀(i:Nat)(x:α)(v:V)(σ:L2.St)(H:Hp)(j:Ends),its[i]?=some x->it H x v->b σ->W ((its.take i).foldl step S0) H->(∀c H',b c->W (step ((its.take i).foldl step S0) x) H'->j.nx c H')->g v σ H λf o=>tb j f o)
 (hd:∀σ H,b σ->W (its.foldl step S0) H->D.nx σ H):Wk (FE K l) g tb D σ h:=by
 have q:its.length=vs.length:=(d _ _ h1).2.len;refine vy (K:=K) (a:=l) (xs:=vs) (λi σ H=>b σ/\W ((its.take i).foldl step S0) H) ⟨m,h1⟩ (λi σ H _ ⟨_,w⟩=>Or.inl (d _ _ w).1) (λi v σ H p ⟨s,w⟩=>?_) λσ H ⟨s,w⟩=>?_
 .obtain⟨x,k,ix⟩:=(d _ _ w).2.get p;have e:(its.take (i+1)).foldl step S0=step ((its.take i).foldl step S0) x:=by rw[Ve,k,Vf];rfl
  rw[e];exact n i x v σ H _ k ix s w λ_ _=>And.intro
 .rw[UG (by lia)]at w;exact hd σ H s w
def uL{α:Type}{it:Hp->α->V->Prop}(E:∀H H',KT H H'->∀x v,it H x v->it H' x v){a:Addr}{f:Str}{y:DX (List bm)}{d:Pz.MD (Int×Int) α}(P:bq CP CQ B H A rs S xs xl xr xp kt col)(F:DL .dT H a y)(G:RepM k2 it H d y)
 (cl:ve K CP) (I:NoAttr K CP f) (J:(pf A).lookup f=some (V.ref a)) {σ:L2.St} {j:Nat} {b:Addr} {k:Int×Int} (L:σ[0]?=some (some (.ref A.o))) (M:σ[j]?=some (some (.ref b))) (N:H b=some (.tup [.int k.1,.int k.2])) {g:TG} {tb:TS} {D:Ends} (n:L2.St->Prop) (step:Pz.PS->α->Pz.PS) (W:Hp->Pz.PS->Hp->Prop) (hs:n σ)
 (O:∀h m,bq CP CQ h m A rs S xs xl xr xp kt col->W h S m) (p:∀h T m,W h T m->Same h m/\DL .dT m a y)
 (Q:∀h (i:Nat) x v σ c (u:Ends),KT H c->(d.get k)[i]?=some x->it c x v->n σ->W h (((d.get k).take i).foldl step S) c->(∀q H',n q->W h (step (((d.get k).take i).foldl step S) x) H'->u.nx q H')->g v σ c λz R=>tb u z R)
 (hd:∀h σ c,Same B h->KT H c->n σ->W h ((d.get k).foldl step S) c->D.nx σ c):nu (lz K (lM (fO K (aI 0) f) (aI j) (vD bz))) g tb D σ H:=by
 refine nW (GX E P F G cl I J L M N λl vs h m s1 U X Y C r=>?_);have t:∀T c,W h T c->KT H c:=λT c w a ws e=>(p h T c w).1 _ _ (X _ _ (s1 _ _ e));exact⟨l,rfl,⟨_,SqL.of C⟩,uK (it:=it) n step S (W h) hs (O h m Y) (λT c w=>⟨.inl (r c (p h T c w).1 (p h T c w).2).1,(r c (p h T c w).1 (p h T c w).2).2⟩)
  (λi x v σ c u e1 e2 e3 e4=>Q h i x v σ c u (t _ _ e4) e1 e2 e3 e4) λσ c s w=>hd h σ c U (t _ _ w) s w⟩
def S9(a:H b=some (.tup [x,y,z]))(k:Q (((σ.set i (some x)).set j (some y)).set l (some z)) H):ip K 3 (bc (aT i) (bc (aT j) (bc (aT l) io))) (.ref b) σ H Q:=⟨b,_,rfl,SqT.of a,rfl,_,_,rfl,_,_,rfl,_,_,rfl,rfl,k⟩
def i6{α:Type}{step:Pz.PS->α->Pz.PS}(a:∀S x,Pz.gu S (step S x)){its:List α}{S0:Pz.PS}(h:Pz.lG (its.foldl step S0)){i:Nat}{x:α}(b:its[i]?=some x):Pz.lG (step ((its.take i).foldl step S0) x):=by
 have e:(its.take (i+1)).foldl step S0=step ((its.take i).foldl step S0) x:=by rw[Ve,b,Vf];rfl
 rw[<- e];refine Pz.gu.fit (Pz.ci step a (its.drop (i+1)) _) ?_;rw[<- Vf,VG];exact h
def tG:R2:=AA λi j=>.int (i+j)
def Reads.add(h:Reads ta σ H (.int i))(h':Reads tb σ H (.int j)):Reads (lL tG ta tb) σ H (.int (i+j)):=h.op h' λ_ q=>⟨i,j,rfl,rfl,q⟩
inductive ng(CP CQ:Addr):Sp
 |mk {B H:Hp} {A:PA} {rs:Pz.RS} {S:Pz.PS} {xs xl xr:DX (List bm)} {c:Addr} {r:Pz.aX} {num mid price:Int} {Q:VK} {E:XK} (P:PAt CP CQ B H A rs S xs xl xr) (hr:IsRule H r (.ref c)) (h2:2<=r.2.2.2.length) (f:Pz.lG (Pz.first au S num r mid price))
  (k:∀H' xl',PAt CP CQ B H' A rs (Pz.first au S num r mid price) xs xl' xr->Q .bn H'):ng CP CQ [.ref A.o,.int num,.ref c,.int mid,.int price] H Q E
def Oy(K:Xu)(CP CQ:Addr):TS:=eB (fV CP "offer" (fC CP CQ) [] E0 (aI 0) (aA (jN (aA (lL (pN K) (aI 2) (tC (.int 0))) (aA (lL (pN K) (aI 2) (tC (.int 1))) (aA (aI 6) bz))))
 (aA (lL tG (lL tG (aI 4) (aI 7)) (tC (.int 1))) (aA (aI 1) (aA (aI 3) bz)))))
def RH(K:Xu)(CP CQ:Addr):TS:=nu (lz K (lM (fO K (aI 0) "settled") (aI 5) (vD bz))) (ip K 2 (bc (aT 6) (bc (aT 7) io))) (Oy K CP CQ)
def Oz(K:Xu)(CP CQ:Addr):TS:=dC (eB (oN K (fO K (aI 0) "lacking") (aI 5) (jN (aA (aI 1) (aA (aI 2) (aA (aI 4) bz)))))) (RH K CP CQ)
def D8(K:Xu)(CP CQ:Addr):TS:=dC (lK (jN (aA (aI 3) (aA (lL (pN K) (lL (pN K) (aI 2) (tC (.int 3))) (tC (.int 1))) bz))) (aT 5)) (Oz K CP CQ)
def wK(h:ng CP CQ vs H Q E):vs.length=5:=by cases h;rfl
def D9(A:PA):(pf A).lookup ("offer" : Str)=none:=rfl
def GY{l:List Int}(h:2<=l.length):(l.map V.int)[1]?=some (.int (Pz.nth1 l)):=by rcases l with _|⟨_,_|⟨_,_⟩⟩<;>first|rfl|(simp at h)
variable{D:Ends}{σ:L2.St}{b c q:Addr}{r:Pz.aX}{num mid price:Int}
abbrev QX(r:Pz.aX)(num mid price:Int)(S:Pz.PS)(x:Int×Int):Pz.PS:=Pz.bb au S (r.1,r.2.1,x.1) (price+x.2+1) (some num) (some mid)
def RI(A:PA)(num:Int)(c:Addr)(mid price:Int)(b:Addr)(σ:L2.St):Prop:=∃u v,σ=[some (.ref A.o),some (.int num),some (.ref c),some (.int mid),some (.int price),some (.ref b),u,v]
def K_(P:PAt CP CQ B H A rs S xs xl xr)(h:IsSet H x v)(hs:RI A num c mid price b σ)(e:H c=some (.tup [.int r.1,.int r.2.1,.int r.2.2.1,.ref q]))(f:Pz.lG (QX r num mid price S x))
 (k:∀a H',RI A num c mid price b a->PAt CP CQ B H' A rs (QX r num mid price S x) xs xl xr->D.nx a H'):ip K 2 (bc (aT 6) (bc (aT 7) io)) v σ H λd g=>Oy K CP CQ D d g:=by
 obtain⟨t,rfl,i⟩:=h;obtain⟨u,w,rfl⟩:=hs;exact IC i (uJ P f (.va rfl) (.t (.c (.ix (.va rfl) e rfl) (.c (.ix (.va rfl) e rfl) (.c (.va rfl) .ni))) rfl) (λ_ _=>.c (.add (.add (.va rfl) (.va rfl)) .k) (.c (.va rfl) (.c (.va rfl) .ni))) λH'=>k _ H' ⟨_,_,rfl⟩)
def La(TP:lu K CP)(P:bq CP CQ B H A rs S xs xl xr xp kt col)(C:H b=some (.tup [.int mid,.int (Pz.nth1 r.2.2.2)]))(E:H c=some (.tup [.int r.1,.int r.2.1,.int r.2.2.1,.ref q]))(J:H q=some (.tup (r.2.2.2.map .int)))(fit:Pz.lG (Pz.first au S num r mid price))(hs:σ=[some (.ref A.o),some (.int num),some (.ref c),some (.int mid),some (.int price),some (.ref b),none,none])
 (k:∀n H' u,PAt CP CQ B H' A rs (Pz.first au S num r mid price) xs u xr->D.nx n H'):Oz K CP CQ D σ H:=by
 subst hs;have f:Pz.lG (Pz.uF S num r mid price):=Pz.gu.fit (Pz.ci _ (λS x=>Pz.b6 S _ _ _ _) _ _) fit;have F:=f.l;have G:=f.lf;have al:=Pz.gb S.aH (mid,Pz.nth1 r.2.2.2) (num,r,price);have e5:(Pz.uF S num r mid price).aH=S.aH.app (mid,Pz.nth1 r.2.2.2) (num,r,price):=rfl;rw[e5]at F G;unfold Pz.L at F G;have g:RepM k2 IsLack H S.aH xl:=P.p3.r;refine uH (a:=A.la) (b:=b) (xs:=xl) (k:=k2 (mid,Pz.nth1 r.2.2.2)) (ws:=[.int num,.ref c,.int price]) P.p3.d (P.fld TP.cl TP.nl (Ov A) rfl) (.va rfl) C (λH' _=>.t (.c (.va rfl) (.c (.va rfl) (.c (.va rfl) .ni))) rfl) (by rw[<- g.len];lia) (g.low (by lia)) ?_;intro l p M N U O hd kp;have e:=P.p3.d.kt (λ_ _ z=>HO.noConfusion z) kp;have y:bq CP CQ B M A rs (Pz.uF S num r mid price) xs _ xr _ _ _:=P.uF hd (g.add (k:=(mid,Pz.nth1 r.2.2.2)) (v:=(num,r,price)) qN (IsLack.keep e) ⟨p,_,rfl,O,c,q,rfl,e _ _ E,e _ _ J⟩) (λc z=>(k7 z).imp id λz=>by rw[z];exact N) kp;exact uL (λH H' k=>IsSet.keep k) y y.p2.d y.p2.r TP.cl TP.ns (Ou A) (j:=5) (k:=(mid,Pz.nth1 r.2.2.2)) rfl rfl (e _ _ C) (RI A num c mid price b) (QX r num mid price) (λh T m=>PAt CP CQ h m A rs T xs _ xr) ⟨none,none,rfl⟩ (λh Q P=>⟨_,_,_,P⟩)
  (λh T Q ⟨_,_,_,P⟩=>⟨P.same,P.p2.d⟩) (λh i x v σ m V I e1 e2 e3 e4 k=>K_ e4 e2 e3 (I _ _ (e _ _ E)) (i6 (step:=QX r num mid price) (λS x=>Pz.b6 S _ _ _ _) fit e1) k) λh σ m R I s w=>k σ m _ (w.less R)
def yE{vs:List V}(TP:lu K CP)(h:ng CP CQ vs H Q E):D8 K CP CQ {nx:=λ_ H'=>Q .bn H',rt:=Q} (cf ["self","number","rule","mid","price","start","state","second"] vs) H:=by
 obtain⟨⟨xp,kt,col,P⟩,⟨_,q,f,d,e⟩,g,fit,k⟩:=h;cases f
 delta D8 dC lK
 exact KY (.c (.va rfl) (.c (.ix (.ix (.va rfl) d rfl) e (y_ (j:=1) (GY g))) .ni)) rfl λb a=>La TP (P.more (aK a)) ag (aK a _ _ d) (aK a _ _ e) fit rfl λ_=>k
end
section
variable{K:Xu}{CP CQ:Addr}{B H:Hp}{A:PA}{rs:Pz.RS}{S:Pz.PS}{xs xl xr:DX (List bm)}{xp:DX bm}{kt:List (List bm×V)}{col:Addr->Nat}
def wL(K:Xu):List V->Hp->VK->Prop:=λxs H Q=>∃p a,xs=[.ref p]/\(SqL K H p a\/SqT K H p a)/\Q (.int a.length) H
def nX:CallR X (.builtin "len") (wL X.K):=call_len_seq
abbrev tI(K:Xu)(i:Nat)(n:Int):TE:=lL (pN K) (aI i) (tC (.int n))
def uM(rs:Pz.RS):Prop:=∀k x,x∈rs.get k->1<=x.2.2.2.2.length
inductive kN(CP CQ:Addr):Sp
 |mk {B H:Hp} {A:PA} {rs:Pz.RS} {S:Pz.PS} {xs xl xr:DX (List bm)} {b:Addr} {a:Pz.ba} {price:Int} {Q:VK} {E:XK} (P:PAt CP CQ B H A rs S xs xl xr) (ha:H b=some (.tup (nU a))) (rok:uM rs) (f:Pz.lG (Pz.settle au rs S a price))
  (k:∀H' xs' xl',PAt CP CQ B H' A rs (Pz.settle au rs S a price) xs' xl' xr->Q .bn H'):kN CP CQ [.ref A.o,.ref b,.int price] H Q E
def OA(K:Xu)(CP CQ:Addr):TS:=xD (oq (lL Nk (FP (wL K) (aA (tI K 5 3) bz)) (tC (.int 1))))
 (eB (fV CP "offer" (fC CP CQ) [] E0 (aI 0) (aA (jN (aA (tI K 5 0) (aA (tI K 5 1) (aA (tI K 1 2) bz)))) (aA (lL tG (aI 2) (tC (.int 1))) (aA (aI 4) (aA (tC .bn) bz))))))
 (eB (fV CP "settle_first" (ng CP CQ) [] E0 (aI 0) (aA (aI 4) (aA (aI 5) (aA (tI K 1 2) (aA (aI 2) bz))))))
def RJ(K:Xu)(CP CQ:Addr):TS:=nu (lz K (lM (fO K (aI 0) "rules") (aI 3) (vD bz))) (ip K 2 (bc (aT 4) (bc (aT 5) io))) (OA K CP CQ)
def OB(K:Xu)(CP CQ:Addr):TS:=eB (fV CP "offer" (fC CP CQ) [] E0 (aI 0) (aA (jN (aA (tI K 5 0) (aA (tI K 5 1) (aA (tI K 1 2) bz)))) (aA (lL tG (lL tG (aI 6) (aI 2)) (tC (.int 1))) (aA (aI 4) (aA (tI K 1 0) bz)))))
def RK(K:Xu)(CP CQ:Addr):TS:=dC (nu (lz K (lM (fO K (aI 0) "lacking") (aI 3) (vD bz))) (ip K 3 (bc (aT 4) (bc (aT 5) (bc (aT 6) io)))) (OB K CP CQ)) (RJ K CP CQ)
def OC(K:Xu)(CP CQ:Addr):TS:=dC (eB (oN K (fO K (aI 0) "settled") (aI 3) (jN (aA (tI K 1 2) (aA (aI 2) bz))))) (RK K CP CQ)
def zQ(K:Xu)(CP CQ:Addr):TS:=dC (lK (jN (aA (tI K 1 0) (aA (tI K 1 1) bz))) (aT 3)) (OC K CP CQ)
def uN(h:kN CP CQ vs H Q E):vs.length=3:=by cases h;rfl
def D_(A:PA):(pf A).lookup ("settle_first" : Str)=none:=rfl
def Reads.len(h:Reads ta σ H (.ref q))(a:H q=some (.tup ws)):Reads (FP (wL K) (aA ta bz)) σ H (.int ws.length):=λ_ k=>h _ ⟨q,ws,rfl,.inr (SqT.of a),k⟩
def Reads.SD(h:Reads ta σ H (.int m))(h':Reads tb σ H (.int n)):Reads (lL Nk ta tb) σ H (.bl (decide (m=n))):=h.op h' λ_ q=>⟨rfl,by rw[show decide (V.int m=V.int n)=decide (m=n)from decide_eq_decide.mpr ⟨λe=>by injection e,λe=>by rw[e]⟩];exact q⟩
variable{D:Ends}{σ:L2.St}{b b0:Addr}{a:Pz.ba}{price:Int}
def Nr(A:PA)(b0:Addr)(price:Int)(b:Addr)(σ:L2.St):Prop:=∃u v w,σ=[some (.ref A.o),some (.ref b0),some (.int price),some (.ref b),u,v,w]
def RN(P:PAt CP CQ B H A rs S xs xl xr)(h:IsLack H x v)(hs:Nr A b0 price b σ)(ha:H b0=some (.tup (nU a)))(f:Pz.lG (Pz.oM au a price S x))
 (k:∀d H',Nr A b0 price b d->PAt CP CQ B H' A rs (Pz.oM au a price S x) xs xl xr->D.nx d H'):ip K 3 (bc (aT 4) (bc (aT 5) (bc (aT 6) io))) v σ H λe i=>OB K CP CQ D e i:=by
 obtain⟨t,_,rfl,j,c,q,rfl,g,l⟩:=h;obtain⟨u,w,z,rfl⟩:=hs;exact S9 j (uJ P f (.va rfl) (.t (.c (.ix (.va rfl) g rfl) (.c (.ix (.va rfl) g rfl) (.c (.ix (.va rfl) ha rfl) .ni))) rfl) (λ_ s=>.c (.add (.add (.va rfl) (.va rfl)) .k) (.c (.va rfl) (.c (.ix (.va rfl) (s _ _ ha) rfl) .ni))) λH'=>k _ H' ⟨_,_,_,rfl⟩)
def RO(P:PAt CP CQ B H A rs S xs xl xr)(h:IsNum H x v)(hs:Nr A b0 price b σ)(ha:H b0=some (.tup (nU a)))(p:1<=x.2.2.2.2.length)(f:Pz.lG (Pz.cD au a price S x))
 (k:∀e H',Nr A b0 price b e->(∃d,PAt CP CQ B H' A rs (Pz.cD au a price S x) xs d xr)->D.nx e H'):ip K 2 (bc (aT 4) (bc (aT 5) io)) v σ H λj m=>OA K CP CQ D j m:=by
 obtain⟨t,_,rfl,n,c,q,rfl,i,l⟩:=h;obtain⟨u,w,z,rfl⟩:=hs;unfold Pz.cD at f k;have e1:(((x.2.2.2.2.map V.int).length:Nat):Int)=1↔x.2.2.2.2.length=1:=by rw[TN];lia
 refine IC n (wD (.SD (.len (.ix (.va rfl) i rfl) l) .k) (λh=>?_) λh=>?_)
 .rw[Tv (e1.mp (UO h))]at f k;exact uJ P f (.va rfl) (.t (.c (.ix (.va rfl) i rfl) (.c (.ix (.va rfl) i rfl) (.c (.ix (.va rfl) ha rfl) .ni))) rfl) (λ_ s=>.c (.add (.va rfl) .k) (.c (.va rfl) (.c .k .ni))) λH' g=>k _ H' ⟨_,_,_,rfl⟩ ⟨_,g⟩
 .have h1:¬x.2.2.2.2.length=1:=λz=>h (T4 (e1.mpr z));have o:2<=x.2.2.2.2.length:=by lia
  rw[TJ h1]at f k;have g:=P;obtain⟨_,_,_,Q⟩:=g;exact wC (.va rfl) Q.po.ins (D_ A) (.c (.va rfl) (.c (.va rfl) (.c (.ix (.va rfl) ha rfl) (.c (.va rfl) .ni)))) (.mk P ⟨c,q,rfl,i,l⟩ o f λH' d g=>k _ H' ⟨_,_,_,rfl⟩ ⟨d,g⟩)
def RP(TP:lu K CP)(P:bq CP CQ B H A rs S xs xl xr xp kt col)(ha:H b0=some (.tup (nU a)))(F:H b=some (.tup [.int a.1,.int a.2.1]))(G:uM rs)(fit:Pz.lG (Pz.settle au rs S a price))(hs:σ=[some (.ref A.o),some (.ref b0),some (.int price),some (.ref b),none,none,none])
 (k:∀I H' J e,PAt CP CQ B H' A rs (Pz.settle au rs S a price) J e xr->D.nx I H'):OC K CP CQ D σ H:=by
 subst hs;have g2:Pz.gu ((S.aH.get (a.1,a.2.1)).foldl (Pz.oM au a price) (Pz.note S a price)) (Pz.settle au rs S a price):=Pz.ci _ (Pz.lV a price) _ _;have h:=g2.fit fit;have m:Pz.lG (Pz.note S a price):=Pz.gu.fit (Pz.ci _ (λS x=>Pz.b6 S _ _ _ _) _ _) h;have R:=m.s;have U:=m.sf;have al:=Pz.gb S.settled (a.1,a.2.1) (a.2.2,price);have e5:(Pz.note S a price).settled=S.settled.app (a.1,a.2.1) (a.2.2,price):=rfl;rw[e5]at R U;unfold Pz.L at R U;have n:RepM k2 IsSet H S.settled xs:=P.p2.r;refine uH (a:=A.sa) (b:=b) (xs:=xs) (k:=k2 (a.1,a.2.1)) (ws:=[.int a.2.2,.int price]) P.p2.d (P.fld TP.cl TP.ns (Ou A) rfl) (.va rfl) F (λH' kp=>.t (.c (.ix (.va rfl) (kp _ _ ha (λz=>by rw[z,P.p2.d.root]at ha;cases ha)) rfl) (.c (.va rfl) .ni)) rfl) (by rw[<- n.len];lia) (n.low (by lia)) ?_;intro l p W X hp Y hd kp;have f:=P.p2.d.kt (λ_ _ z=>HO.noConfusion z) kp;have y:bq CP CQ B W A rs (Pz.note S a price) _ xl xr _ _ _:=P.SC hd (n.add (k:=(a.1,a.2.1)) (v:=(a.2.2,price)) qN (IsSet.keep f) ⟨p,rfl,Y⟩) (λc z=>(k7 z).imp id λz=>by rw[z];exact X) kp;generalize mI xs (k2 (a.1,a.2.1)) l (.ref p)=q at y;refine uL (λH H' k=>IsLack.keep k) y y.p3.d y.p3.r TP.cl TP.nl (Ov A) (j:=3) (k:=(a.1,a.2.1)) rfl rfl (f _ _ F) (Nr A b0 price b) (Pz.oM au a price) (λg T M=>PAt CP CQ g M A rs T q xl xr) ⟨none,none,none,rfl⟩ (λg N P=>⟨_,_,_,P⟩)
  (λg T N ⟨_,_,_,P⟩=>⟨P.same,P.p3.d⟩) (λg i x v σ M Z C e1 e2 e3 e4 k=>RN e4 e2 e3 (C _ _ (f _ _ ha)) (i6 (step:=Pz.oM au a price) (λS x=>Pz.b6 S _ _ _ _) h e1) k) λg σ M b1 C s w=>?_
 obtain⟨u,v,z,rfl⟩:=s;obtain⟨_,_,_,O⟩:=w;have Q:=C _ _ (f _ _ ha);exact uL (λH H' k=>IsNum.keep k) O O.p4.d O.p4.r TP.cl TP.nr (RG A) (j:=3) (k:=(a.1,a.2.1)) rfl rfl (C _ _ (f _ _ F)) (Nr A b0 price b) (Pz.cD au a price) (λg T E=>∃e,PAt CP CQ g E A rs T q e xr) ⟨_,_,_,rfl⟩ (λg N P=>⟨_,_,_,_,P⟩)
  (λg T N ⟨_,_,_,_,P⟩=>⟨P.same,P.p4.d⟩) (λg i x v σ E Z V e1 e2 e3 ⟨_,e4⟩ k=>RO e4 e2 e3 (V _ _ Q) (G _ _ (UH e1)) (i6 (step:=Pz.cD au a price) (Pz.lV a price) fit e1) k) λB2 σ E b2 V s ⟨e,w⟩=>k σ E _ e (w.less (b1.trans b2))
def wM(TP:lu K CP)(h:kN CP CQ vs H Q E):zQ K CP CQ {nx:=λ_ H'=>Q .bn H',rt:=Q} (cf ["self","arrow","price","start","number","rule","first"] vs) H:=by
 obtain⟨⟨xp,kt,col,P⟩,ha,d,fit,k⟩:=h
 delta zQ dC lK
 exact KY (.c (.ix (.va rfl) ha rfl) (.c (.ix (.va rfl) ha rfl) .ni)) rfl λb e=>RP TP (P.more (aK e)) (aK e _ _ ha) ag d fit rfl λ_=>k
end
section
variable{K:Xu}{CP CQ:Addr}{B H H':Hp}{A:PA}{rs:Pz.RS}{S:Pz.PS}{xs xl xr:DX (List bm)}{xp:DX bm}{kt:List (List bm×V)}{col:Addr->Nat}
def bq.Bm(h:bq CP CQ B H A rs S xs xl xr xp kt col)(l:∃b,H' A.aq=some (.ins CQ b (qf A m)))(h1:DL .dK H' A.ap xp')(o:RepM k1 IsItem H' d' xp')(p:∀c,cr A.ap xp' c->cr A.ap xp c\/H c=none)
 (kp:∀c u,H c=some u->¬cr A.ap xp c->c≠A.aq->H' c=some u):bq CP CQ B H' A rs {S with last:=m,aE:=d'} xs xl xr xp' kt (uI col 1 H):=by
 obtain⟨t,f⟩:=h.po.Fv;have k:KT H H':=λc ws e=>kp c _ e (λi=>by
  rcases i with rfl|⟨x,q,rfl⟩
  .rw[h.p1.d.root]at e;cases e
  .rw[h.p1.d.pC x q]at e;cases e) λz=>by rw[z,f]at e;cases e
 have a:∀c u,H c=some u->col c≠1->col c≠7->H' c=some u:=λc u e n r=>kp c u e (λi=>n (h.p1.c c i).1) λz=>r (by rw[z];exact h.po.c7.1);obtain⟨⟨b,g⟩,_,j,s,c5,c6,c7⟩:=h.po;refine⟨(λc u e=>kp c u (h.same c u e) (λi=>by rw[(h.p1.c c i).2]at e;cases e) λz=>by rw[z,c7.2]at e;cases e),h.p1.new h.same h1 o p,h.p2.keep (IsSet.keep k) (λc u e z=>a c u e (by lia) (by lia)) λc=>bu,h.p3.keep (IsLack.keep k) (λc u e z=>a c u e (by lia) (by lia)) λc=>bu,h.p4.keep (IsNum.keep k) (λc u e z=>a c u e (by lia) (by lia)) λc=>bu,⟨b,a _ _ g (by lia) (by lia)⟩,l,a _ _ j (by lia) (by lia),s.keep k,?_,?_,?_⟩
 .rw[bu (by rw[j];simp)];exact c5
 .rw[bu (by rw[g];simp)];exact c6
 .rw[bu (by rw[f];simp)];exact c7
inductive xq(CP CQ:Addr):Sp
 |mk {B H:Hp} {A:PA} {rs:Pz.RS} {S T:Pz.PS} {xs xl xr:DX (List bm)} {n:Nat} {Q:VK} {E:XK} (P:PAt CP CQ B H A rs S xs xl xr) (rok:uM rs) (fit:Pz.lG S) (lp:Pz.Loop au rs n S T) (k:∀H' xs' xl',PAt CP CQ B H' A rs T xs' xl' xr->Q .bn H'):xq CP CQ [.ref A.o] H Q E
def OD(K:Xu)(CP CQ:Addr):TS:=xD (oq (lL Nk (lL (pN K) (Ii (fO K (aI 0) "told") (aI 2)) (tC (.int 0))) (aI 1))) (eB (fV CP "settle" (kN CP CQ) [] E0 (aI 0) (aA (aI 2) (aA (aI 1) bz)))) vx
def OE(K:Xu)(CP CQ:Addr):TS:=nu (lz K (fV CQ "take_lowest" (rC CQ) [] E0 (fO K (aI 0) "offers") bz)) (ip K 2 (bc (aT 1) (bc (aT 2) io))) (OD K CP CQ)
def RQ(K:Xu)(CP CQ:Addr):TS:=Cd (NA (tB (fV CQ "is_empty" (mZ CQ) [] E0 (fO K (aI 0) "offers") bz))) (OE K CP CQ)
def Bx(h:xq CP CQ vs H Q E):vs.length=1:=by cases h;rfl
def Lb(A:PA)(last:Int):(qf A last).lookup ("is_empty" : Str)=none:=rfl
def GZ(A:PA)(last:Int):(qf A last).lookup ("take_lowest" : Str)=none:=rfl
def By(A:PA):(pf A).lookup ("settle" : Str)=none:=rfl
variable{D:Ends}{σ:L2.St}{T:Pz.PS}{m:Nat}
def OF(A:PA)(σ:L2.St):Prop:=∃u v,σ=[some (.ref A.o),u,v]
def wA(CP CQ:Addr)(B:Hp)(A:PA)(rs:Pz.RS)(xr:DX (List bm))(T:Pz.PS)(m:Nat)(σ:L2.St)(H:Hp):Prop:=OF A σ/\∃S xs xl,PAt CP CQ B H A rs S xs xl xr/\Pz.lG S/\Pz.Loop au rs m S T
def S_(TP:lu K CP)(g:uM rs)(P:PAt CP CQ B H A rs S xs xl xr)(h:IsItem H x v)(hs:OF A σ)(n:Pz.bF S.told x.2≠none)(f:Pz.lG (Pz.turn au rs S x))
 (k:∀e H',OF A e->(∃a d,PAt CP CQ B H' A rs (Pz.turn au rs S x) a d xr)->D.nx e H'):ip K 2 (bc (aT 1) (bc (aT 2) io)) v σ H λi o=>OD K CP CQ D i o:=by
 obtain⟨t,_,rfl,p,b,rfl,l⟩:=h;obtain⟨u,w,rfl⟩:=hs;have j:=P;obtain⟨_,_,_,Q⟩:=j;rcases Q.po.tr.find x.2 with⟨_,e2⟩|⟨_,y,e1,e2,q,rfl,r⟩
 .exact(n e2).elim
 unfold Pz.turn Pz.Nq at f k;rw[e2]at f k;refine IC p (wD (.SD (.ix (λ_ z=>Q.fld TP.cl TP.nt (GW A) rfl _ ⟨_,rfl,A.ta,.ref q,rfl,by rw[<- e1];exact DGet.t Q.po.td l,z⟩) r rfl) (.va rfl)) (λh=>?_) λh=>?_)
 .rw[Tv h]at f k;exact wC (.va rfl) Q.po.ins (By A) (.c (.va rfl) (.c (.va rfl) .ni)) (.mk P l g f λH' a d j=>k _ H' ⟨_,_,rfl⟩ ⟨a,d,j⟩)
 .rw[TJ h]at k;exact k _ H ⟨_,_,rfl⟩ ⟨xs,xl,P⟩
def RT(TP:lu K CP)(q:uM rs)(P:bq CP CQ B H A rs S xs xl xr xp kt col)(fit:Pz.lG S)(hs:OF A σ)(t:S.aE≠[])(aS:Pz.xC au S.last S.aE)(y:∀x∈Pz.dL au S.aE,Pz.bF S.told x.2≠none)(g:Pz.lG (Pz.batch au rs (Pz.take au S) (Pz.dL au S.aE)))
 (lp:Pz.Loop au rs m (Pz.batch au rs (Pz.take au S) (Pz.dL au S.aE)) T) (k:∀j H',wA CP CQ B A rs xr T m j H'->D.nx j H'):OE K CP CQ D σ H:=by
 obtain⟨u,v,rfl⟩:=hs;have pr:RepM k1 IsItem H S.aE xp:=P.p1.r;have N:=fit.p;have O:=fit.pf;unfold Pz.L at N O;refine nW (wC (P.fld TP.cl TP.no (K6 A) rfl) P.po.Fv (GZ A _) .ni (.mk ⟨P.po.Fv,P.p1.d,by rw[<- pr.len];lia,pr.low (by lia)⟩ pr aS t (by lia) ?_));intro l vs' C Q I R n U nl il o E;have V:bq CP CQ B Q A rs (Pz.take au S) xs xl xr C kt _:=P.Bm (m:=Pz.lowP S.aE) (d':=Pz.left au S.aE) I.ins I.aE R o E;obtain⟨F,W,X,Y,Z⟩:=V.wide (λc=>c=l) λc e=>by
  subst e;rcases il with il|il
  .have G:=(P.p1.c c il).1;refine⟨nl,λi=>?_,λi=>?_,λi=>?_,λz=>?_,λz=>?_,λz=>?_⟩
   .have:=(P.p2.c c i).1;lia
   .have:=(P.p3.c c i).1;lia
   .have:=(P.p4.c c i).1;lia
   .have:=P.po.c5.1;rw[z]at G;lia
   .have:=P.po.c6.1;rw[z]at G;lia
   .have:=P.po.c7.1;rw[z]at G;lia
  .exact⟨nl,(P.obj il).2⟩
 have J:∀h a,(∃b f,PAt CP CQ F a A rs h b f xr)->Same F a:=λh a ⟨_,_,_,_,_,P⟩=>P.same;exact⟨l,rfl,⟨_,SqL.of n⟩,uK (it:=IsItem) (OF A) (Pz.turn au rs) (Pz.take au S) (λh a=>∃b f,PAt CP CQ F a A rs h b f xr) ⟨_,_,rfl⟩ ⟨xs,xl,_,_,_,Z⟩ (λh a w=>⟨.inl (J h a w _ _ (Y l _ rfl n)),U.mono (IsItem.keep λc ws e=>J h a w _ _ (X _ _ e))⟩)
  (λi x v σ a D' M ix s ⟨_,_,w⟩ k=>S_ TP q w ix s (Pz.kq _ (λS x k=>Pz.GO k) _ _ (y x (UH M))) (i6 (step:=Pz.turn au rs) Pz.Bo g M) k) λσ a s ⟨b,f,w⟩=>k σ a ⟨s,_,b,f,w.less W,g,lp⟩⟩
def Ea(TP:lu K CP)(h:xq CP CQ vs H Q E):RQ K CP CQ {nx:=λ_ H'=>Q .bn H',rt:=Q} (cf ["self","price","arrow"] vs) H:=by
 obtain @⟨B,H,A,rs,S,T,xs,xl,xr,n,Q,E,P,rok,fit,lp,k⟩:=h;refine⟨wA CP CQ B A rs xr T,⟨n,⟨none,none,rfl⟩,S,xs,xl,P,fit,lp⟩,?_⟩;clear P lp fit;rintro m σ H ⟨hs,S,xs,xl,⟨xp,kt,col,P⟩,fit,lp⟩;have g:σ[0]?=some (some (.ref A.o)):=by obtain⟨_,_,rfl⟩:=hs;rfl
 have el:xp.kv.length=S.aE.length:=by unfold DX.kv;rw[TN,<- P.p1.r.len]
 obtain⟨i,f⟩:=P.po.Fv;have j:=fit.p;unfold Pz.L at j;refine wC (P.fld TP.cl TP.no (K6 A) g) ⟨i,f⟩ (Lb A _) .ni (.mk f P.p1.d.root (by rw[el,Uj];lia) ⟨_,rfl,?_⟩);rw[el];cases lp with
 |done e=>rw[e];exact xU (k H xs xl ⟨xp,kt,col,P⟩)
 |@step m _ _ a aS c _ b lp=>rw[Uc λz=>a (UD.mp z)];exact vM ⟨wA CP CQ B A rs xr T m,λl H' h'=>⟨m,VB _,h'⟩,RT TP rok P fit hs a aS c b lp λ_ _=>id⟩
end
section
variable{K:Xu}{H:Hp}
def zR{tb:TS}{D:Ends}{σ:L2.St}{f:Hp}(b:L2.St->Prop)(W:Nat->Hp->Prop)(j:b σ)(h1:W 0 f)(k:∀i H,W i H->SqL K H l vs)
 (n:∀(i:Nat)(v:V)(p:Addr)(σ:L2.St)(H:Hp)(h:Ends),vs[i]?=some v->H p=none->b σ->W i H->(∀a H',b a->W (i+1) H'->h.nx a H')->g (.ref p) σ (aP H p (.tup [.int (i:Nat),v])) λd o=>tb h d o)
 (hd:∀σ H,b σ->W vs.length H->D.nx σ H):Wk (QT K l) g tb D σ f:=by
 refine⟨λi m σ H=>m=vs.length-i/\i<=vs.length/\b σ/\W i H,⟨vs.length,by simp,Ul _,j,h1⟩,?_⟩;rintro i m σ H ⟨rfl,u,s,w⟩;have q:=k i H w;by_cases c:i<vs.length
 .refine .inr ⟨⟨vs,vs[i],q,by simp[c]⟩,λa H'=>b a/\W (i+1) H',λa H' r=>⟨vs.length-(i+1),by lia,rfl,c,r⟩,λx H' y=>?_⟩;obtain⟨p,v,t,rfl,rfl,y⟩:=y;exact n i v p σ H _ (y vs q) t s w λ_ _=>And.intro
 .have e:i=vs.length:=by lia
  subst e;exact .inl ⟨⟨vs,q,Tt _⟩,hd σ H s w⟩
def tH{tb:TS}{D:Ends}{σ:L2.St}(h:ta σ H λvs b=>∃a xs,vs=[.ref a]/\SqL K b a xs/\Wk (QT K a) g tb D σ b):nu (zB K ta) g tb D σ H:=h
theorem yF:∀(l:List Pz.aX)(k i:Nat),(Pz.en l k)[i]?=(l[i]?).map λr=>(((k+i:Nat):Int),r)
 |[],k,i=>by simp[Pz.en]
 |r::l,k,0=>by simp[Pz.en]
 |r::l,k,i+1=>by show(Pz.en l (k+1))[i]?=(l[i]?).map _;rw[yF l];congr 1;funext r;congr 2;lia
def zS{a:Type}(f:a->Int×Pz.aX->a)(b:a){l:List Pz.aX}{i:Nat}{r:Pz.aX}(h:l[i]?=some r):((Pz.en l 0).take (i+1)).foldl f b=f (((Pz.en l 0).take i).foldl f b) ((i:Int),r):=by
 have e:(Pz.en l 0)[i]?=some ((i:Int),r):=by rw[yF,h];simp
 rw[Ve,e,Vf];rfl
structure ij(H:Hp) (RL:List Pz.aX) (p l:Addr) (vs:List V):Prop where
 tup:∃w0 w1,H p=some (.tup [w0,w1,.ref l])
 lst:Rd H l (.lst vs)
 its:eh (IsRule H) RL vs
def ji(s:Same H H')(h:Rd H a u):Rd H' a u:=h.imp (s a _) λ⟨o,e⟩=>⟨o,s a _ e⟩
def ij.same(h:ij H RL p l vs)(s:Same H H'):ij H' RL p l vs:=⟨let ⟨a,b,e⟩:=h.tup;⟨a,b,s _ _ e⟩,ji s h.lst,h.its.mono (IsRule.keep (pq s))⟩
inductive Fd:Sp
 |mk {RL:List Pz.aX} {p l:Addr} {ws:List V} {H:Hp} {Q:VK} {E:XK} (G:ij H RL p l ws) (bh:RL.length<16000000) (k:∀(ar:Addr)(xr:DX (List bm))(H':Hp),Same H H'->DL .dT H' ar xr->RepM k2 IsNum H' (Pz.bN RL) xr->(∀c,cr ar xr c->H c=none)->Q (.ref ar) H'):Fd [.ref p] H Q E
def Ta:R2:=AA λi j=>.bl (decide (j<i))
def OG(K:Xu):TS:=xD (oq (lL Ta (FP (wL K) (aA (tI K 3 3) bz)) (tC (.int 0)))) (eB (oN K (aI 1) (jN (aA (tI K 3 2) (aA (lL (pN K) (tI K 3 3) (tC (.int 0))) bz))) (jN (aA (aI 2) (aA (aI 3) bz))))) vx
def RU(K:Xu):TS:=dC (nu (zB K (aA (tI K 0 2) bz)) (ip K 2 (bc (aT 2) (bc (aT 3) io))) (OG K)) (tU (aI 1))
def Tc(K:Xu):TS:=dC (lK nA (aT 1)) (RU K)
def Eb(h:Fd vs H Q E):vs.length=1:=by cases h;rfl
def Bz(c:Reads to σ H (.ref a))(d:H a=some (.dT kvs))(e:Makes tk σ H ks)(h:∀b,H b=none->oN K (tC (.ref a)) (tC (.ref b)) te σ (aP H b (.tup ks)) Q):oN K to tk te σ H Q:=c _ ⟨.inr (.inr (.inl ⟨rfl,.inr ⟨_,d⟩⟩)),e _ λb f=>(h b f).2⟩
def Ec{m:Type}{it:Hp->m->V->Prop}(kp:∀{H H':Hp},KT H H'->∀a v,it H a v->it H' a v){to tk w:TE}{σ:L2.St}{ar:Addr}{g:DX (List bm)}{d:Pz.MD (Int×Int) m}{k:Int×Int}{v:m}{ws:List V}{C:Hp->Prop}(j:DL .dT H ar g)(R2:RepM k2 it H d g)(ok:d.Ok)(m_:d.flat.length<16000000)(x:Reads to σ H (.ref ar))(y:Makes tk σ H [.int k.1,.int k.2])(A:∀H',KT H H'->Makes w σ H' ws)(B:∀p H',KT H H'->H' p=some (.tup ws)->it H' v (.ref p))
 (D:∀H' f,DL .dT H' ar f->RepM k2 it H' (d.app k v) f->(∀c,cr ar f c->cr ar g c\/H c=none)->(∀c u,H c=some u->¬cr ar g c->H' c=some u)->C H'):oN K to tk w σ H λ_ H'=>C H':=by
 refine Bz x j.root y λb E=>?_;have l:=aK (o:=HO.tup [.int k.1,.int k.2]) E;refine uH (a:=ar) (b:=b) (xs:=g) (k:=k2 k) (ws:=ws) (j.keep λc u e _=>l c u e) .k .k ag (λH' kp=>A H' λc vs e=>kp c _ (l _ _ e) λz=>by rw[z,j.root]at e;cases e) (by rw[<- R2.len];have:=Pz.jf ok;lia) (R2.low m_) ?_;intro I F n q G r s t;have h:∀c u,H c=some u->¬cr ar g c->n c=some u:=λc u e=>t c u (l _ _ e);have i:=j.kt (λ_ _ z=>HO.noConfusion z) h;exact D n _ s (R2.add (k:=k) (v:=v) qN (kp i) (B F n i r)) (λc z=>(k7 z).imp id λz=>by rw[z];exact l.free q) h
variable{D:Ends}{σ:L2.St}{p ar pp c q:Addr}{r:Pz.aX}{n:Int}{xr:DX (List bm)}{d:Pz.RS}
def RV(p ar:Addr)(σ:L2.St):Prop:=∃u v,σ=[some (.ref p),some (.ref ar),u,v]
def Td(o:DL .dT H ar xr)(R2:RepM k2 IsNum H d xr)(ok:d.Ok)(m_:d.flat.length<16000000)(hs:RV p ar σ)(g:H pp=some (.tup [.int n,.ref c]))(f:H c=some (.tup [.int r.1,.int r.2.1,.int r.2.2.1,.ref q]))(i:H q=some (.tup (r.2.2.2.map .int)))
 (k:∀b H' a,RV p ar b->DL .dT H' ar a->RepM k2 IsNum H' (Pz.hZ d (n,r)) a->(∀c,cr ar a c->cr ar xr c\/H c=none)->(∀c u,H c=some u->¬cr ar xr c->H' c=some u)->D.nx b H'):ip K 2 (bc (aT 2) (bc (aT 3) io)) (.ref pp) σ H λl s=>OG K D l s:=by
 obtain⟨u,w,rfl⟩:=hs;have e2:(0:Int)<(((r.2.2.2.map V.int).length:Nat):Int)↔r.2.2.2.length>0:=by rw[TN];lia
 unfold Pz.hZ at k;refine IC g (wD (.op (.len (.ix (.va rfl) f rfl) i) .k λ_ q=>⟨_,_,rfl,rfl,q⟩) (λh=>?_) λh=>?_)
 .have h1:=e2.mp (UO h);rw[Tv h1]at k;have m:(r.2.2.2.map V.int)[0]?=some (.int (r.2.2.2[0]?.getD 0)):=by
   cases A:r.2.2.2 with
   |nil=>rw[A]at h1;simp at h1
   |cons x y=>rfl
  exact Ec (k:=(r.2.2.1,r.2.2.2[0]?.getD 0)) (v:=(n,r)) (λk=>IsNum.keep k) o R2 ok m_ (.va rfl) (.t (.c (.ix (.va rfl) f rfl) (.c (.ix (.ix (.va rfl) f rfl) i (y_ (j:=0) m)) .ni)) rfl) (λH' _=>.t (.c (.va rfl) (.c (.va rfl) .ni)) rfl) (λp H' kt B=>⟨p,_,rfl,B,c,q,rfl,kt _ _ f,kt _ _ i⟩) λH' a=>k _ H' a ⟨_,_,rfl⟩
 .rw[TJ λz=>h (T4 (e2.mpr z))]at k;exact k _ H _ ⟨_,_,rfl⟩ o R2 (λc=>.inl) λc u e _=>e
def G0{Q:VK}{E:XK}(h:Fd vs H Q E):Tc K {nx:=λ_ H'=>Q .bn H',rt:=Q} (cf ["house","rules","number","rule"] vs) H:=by
 obtain @⟨RL,p,l,ws,H,Q,E,G,bh,k⟩:=h;intro ar j;have s1:Same H (aP H ar (.dT [])):=aK j;obtain⟨S,T,F⟩:=(G.same s1).tup;have bl:∀i,(((Pz.en RL 0).take i).foldl Pz.hZ []).Ok/\(((Pz.en RL 0).take i).foldl Pz.hZ []).flat.length<16000000:=λi=>by obtain⟨a,b⟩:=Pz.yy ((Pz.en RL 0).take i) [] Pz.tF;have h1:=Wg i (Pz.en RL 0);rw[Pz.qL]at h1;have C:(Pz.MD.flat ([]:Pz.RS)).length=0:=rfl;exact⟨a,by lia⟩
 refine tH (ReadsA.c (.ix (.va (i:=0) rfl) F (v:=.ref l) rfl) .ni _ ⟨l,ws,rfl,.inl (ji s1 G.lst),?_⟩);refine zR (RV p ar) (λi g=>∃xr,Same H g/\DL .dT g ar xr/\RepM k2 IsNum g (((Pz.en RL 0).take i).foldl Pz.hZ []) xr/\∀c,cr ar xr c->H c=none) ⟨none,none,rfl⟩ ⟨[],s1,⟨ag,λ_ h=>(TU h).elim,Ub,Ub⟩,.nil,λc i=>?_⟩ (λi g ⟨xr,s2,_⟩=>.inl (ji s2 G.lst)) (λi v pp σ g U I s hs ⟨xr,s2,t,R2,m⟩ k=>?_) λσ g ⟨u,w,e⟩ ⟨xr,s2,t,R2,m⟩=>?_
 .rcases i with rfl|⟨x,J,_⟩
  .exact j
  .exact(TU J).elim
 .obtain⟨r,L,c,q,rfl,M,N⟩:=G.its.get I;have y:=aK (o:=HO.tup [.int (i:Nat),.ref c]) s;have f:=s2.trans y;rw[zS _ _ L]at k;exact Td (t.keep λc u e _=>y c u e) (R2.keep (IsNum.keep (pq y))) (bl i).1 (bl i).2 hs ag (f _ _ M) (f _ _ N) λA H' B h1 C O P R=>k A H' h1 ⟨B,(λc u e=>R c u (f _ _ e) λz=>by rw[m c z]at e;cases e),C,O,λc z=>(P c z).elim (m c) f.free⟩
 .subst e;rw[UG (by rw[Pz.qL,G.its.len];exact Tt _)]at R2;exact⟨_,rfl,k ar xr g s2 t R2 m⟩
end
section
variable{K:Xu}{CP CQ:Addr}{H:Hp}
inductive m6(CP CQ:Addr):Sp
 |mk {B H:Hp} {RL:List Pz.aX} {o dx p l:Addr} {ws:List V} {Q:VK} {E:XK} (ho:H o=some (.ins CP dx [])) (sb:Same B H) (nb:B o=none) (G:ij H RL p l ws) (bh:RL.length<16000000) (k:∀(A:PA)(xr:DX (List bm))(H':Hp),A.o=o->PAt CP CQ B H' A (Pz.bN RL) Pz.S0 [] [] xr->Q .bn H'):m6 CP CQ [.ref o,.ref p] H Q E
def Lc(K:Xu)(CQ:Addr):TS:=
 dC (tV K (aI 0) (yZ Fd [] E0 (aA (aI 1) bz)) "rules")
 (dC (tV K (aI 0) nA "told")
 (dC (tV K (aI 0) (y8 CQ (nc CQ) [] E0 bz) "offers")
 (dC (tV K (aI 0) nA "settled")
 (tV K (aI 0) nA "lacking"))))
def wN(h:m6 CP CQ vs H Q E):vs.length=2:=by cases h;rfl
def yG(TP:lu K CP)(h:m6 CP CQ vs H Q E):Lc K CQ {nx:=λ_ H'=>Q .bn H',rt:=Q} (cf N vs) H:=by
 obtain @⟨B,H,RL,o,dx,p,l,ws,Q,E,ho,sb,nb,G,bh,k⟩:=h;refine⟨_,rfl,.mk G bh λar xr t s1 D1 R1 n1=>?_⟩;have ho1:=s1 _ _ ho;have nor:∀c,cr ar xr c->c≠o:=λc i z=>by grind
 refine⟨_,rfl,o,CP,dx,_,rfl,ho1,TP.cl,TP.nr,(by grind),?_⟩;generalize hH2:aP t o (.ins CP dx (iL "rules" (.ref ar) []))=H2;have J:H2 o=some (.ins CP dx [("rules",.ref ar)]):=by rw[<- hH2,ag];rfl
 have L:∀c u,t c=some u->c≠o->H2 c=some u:=λc u e n=>by rw[<- hH2,af n];exact e
 intro ta g;have e3:aP H2 ta (.dT []) o=some (.ins CP dx [("rules",.ref ar)]):=by rw[af (ai J g)];exact J
 refine⟨_,rfl,o,CP,dx,_,rfl,e3,TP.cl,TP.nt,(by grind),?_⟩;generalize M:aP (aP H2 ta (.dT [])) o (.ins CP dx (iL "told" (.ref ta) [("rules",.ref ar)]))=v;have f:ta≠o:=(ai J g).symm;have ho4:v o=some (.ins CP dx [("rules",.ref ar),("told",.ref ta)]):=by rw[<- M,ag];rfl
 have ta4:v ta=some (.dT []):=by rw[<- M,af f,ag]
 have kp4:∀c u,H2 c=some u->c≠o->v c=some u:=λc u e n=>by rw[<- M,af n,af (ai e g)];exact e
 intro aq dq O hdq ndq;refine .mk ag λap P w hq5 hp5 kp5=>⟨rfl,?_⟩;have j:∀c u,v c=some u->P c=some u:=λc u e=>kp5 c u (by rw[af (ai e O),af (ai e hdq)];exact e) (ai e O);have ap4:v ap=none:=by
  have h1:ap≠aq:=λz=>by grind
  have h2:ap≠dq:=λz=>by rw[z,af ndq,ag]at w;cases w
  rw[af h1,af h2]at w;exact w
 have apq:ap≠aq:=λz=>by grind
 refine⟨_,rfl,o,CP,dx,_,rfl,j _ _ ho4,TP.cl,TP.no,(by grind),?_⟩;generalize hH6:aP P o (.ins CP dx (iL "offers" (.ref aq) [("rules",.ref ar),("told",.ref ta)]))=I;have noq:aq≠o:=λz=>by grind
 have nop:ap≠o:=λz=>by grind
 have y:I o=some (.ins CP dx [("rules",.ref ar),("told",.ref ta),("offers",.ref aq)]):=by rw[<- hH6,ag];rfl
 have kp6:∀c u,P c=some u->c≠o->I c=some u:=λc u e n=>by rw[<- hH6,af n];exact e
 intro sa A;have C:sa≠o:=(ai y A).symm;refine⟨_,rfl,o,CP,dx,_,rfl,(by rw[af (ai y A)];exact y),TP.cl,TP.ns,(by grind),?_⟩;generalize R:aP (aP I sa (.dT [])) o (.ins CP dx (iL "settled" (.ref sa) [("rules",.ref ar),("told",.ref ta),("offers",.ref aq)]))=Z;have D:Z o=some (.ins CP dx [("rules",.ref ar),("told",.ref ta),("offers",.ref aq),("settled",.ref sa)]):=by rw[<- R,ag];rfl
 have sa8:Z sa=some (.dT []):=by rw[<- R,af C,ag]
 have kp8:∀c u,I c=some u->c≠o->Z c=some u:=λc u e n=>by rw[<- R,af n,af (ai e A)];exact e
 intro la F;have S:la≠o:=(ai D F).symm;refine⟨_,rfl,o,CP,dx,_,rfl,(by rw[af (ai D F)];exact D),TP.cl,TP.nl,(by grind),?_⟩;generalize T:aP (aP Z la (.dT [])) o (.ins CP dx (iL "lacking" (.ref la) [("rules",.ref ar),("told",.ref ta),("offers",.ref aq),("settled",.ref sa)]))=s;have ho9:s o=some (.ins CP dx (pf ⟨o,ta,aq,ap,sa,la,ar⟩)):=by rw[<- T,ag];rfl
 have la9:s la=some (.dT []):=by rw[<- T,af S,ag]
 have kp9:∀c u,Z c=some u->c≠o->s c=some u:=λc u e n=>by rw[<- T,af n,af (ai e F)];exact e
 have sa9:=kp9 _ _ sa8 C;have k69:∀c u,I c=some u->c≠o->s c=some u:=λc u e n=>kp9 c u (kp8 c u e n) n;have U:∀c u,P c=some u->c≠o->s c=some u:=λc u e n=>k69 c u (kp6 c u e n) n;have k49:∀c u,v c=some u->c≠o->s c=some u:=λc u e n=>U c u (j c u e) n;have V:∀c u,t c=some u->c≠o->s c=some u:=λc u e n=>k49 c u (kp4 c u (L c u e n) n) n;have fr:∀c,s c≠none->H c=none->B c=none:=λc _ e=>sb.free e;have oldR:∀c,cr ar xr c->t c≠none:=λc i=>D1.obj i;have W:t ta=none:=by
  cases e:t ta with
  |none=>rfl
  |some u=>rw[L _ _ e f]at g;cases g
 have b:∀c,v c=none->c≠o->t c=none/\c≠ta:=λc e n=>by
  refine⟨?_,λz=>by grind⟩;cases X:t c with
  |none=>rfl
  |some u=>rw[kp4 _ _ (L _ _ X n) n]at e;cases e
 have m:∀c,P c=none->c≠o->v c=none/\c≠aq/\c≠ap:=λc e n=>by
  refine⟨?_,(λz=>by grind),λz=>by grind⟩;cases X:v c with
  |none=>rfl
  |some u=>rw[j _ _ X]at e;cases e
 have q:∀c,I c=none->P c=none:=λc e=>by
  cases X:P c with
  |none=>rfl
  |some u=>
   by_cases n:c=o
   .rw[n,y]at e;cases e
   .rw[kp6 _ _ X n]at e;cases e
 have Y:∀c,Z c=none->I c=none/\c≠sa:=λc e=>by
  refine⟨?_,λz=>by grind⟩;cases X:I c with
  |none=>rfl
  |some u=>
   by_cases n:c=o
   .rw[n,D]at e;cases e
   .rw[kp8 _ _ X n]at e;cases e
 obtain⟨la6,la_sa⟩:=Y la F;obtain⟨la4,la_aq,la_ap⟩:=m la (q la la6) S;obtain⟨la1,la_ta⟩:=b la la4 S;obtain⟨sa4,sa_aq,sa_ap⟩:=m sa (q sa A) C;obtain⟨sa1,sa_ta⟩:=b sa sa4 C;obtain⟨aq1,aq_ta⟩:=b aq O noq;obtain⟨ap1,ap_ta⟩:=b ap ap4 nop;have d:∀c,t c=none->H c=none:=λc e=>s1.free e;have same:Same B s:=λc u e=>V c u (s1 c u (sb c u e)) λz=>by grind
 have r:∀{a c:Addr},cr a ([]:DX (List bm)) c->c=a:=λi=>i.elim id λ⟨x,hx,_⟩=>(TU hx).elim
 classical
 refine k ⟨o,ta,aq,ap,sa,la,ar⟩ xr s rfl ⟨[],[],λc=>if c=o then 6 else if c=ta then 5 else if c=aq then 7 else if c=ap then 1 else if c=sa then 2 else if c=la then 3 else 4,same,⟨⟨?_,λ_ h=>(TU h).elim,Ub,Ub⟩,.nil,λc i=>?_⟩,⟨⟨sa9,λ_ h=>(TU h).elim,Ub,Ub⟩,.nil,λc i=>?_⟩,⟨⟨la9,λ_ h=>(TU h).elim,Ub,Ub⟩,.nil,λc i=>?_⟩,⟨D1.keep λc u e i=>V c u e (nor c i),R1.keep (IsNum.keep λc ws e=>V c _ e λz=>by grind),λc i=>?_⟩,⟨dx,ho9⟩,⟨dq,U _ _ hq5 noq⟩,k49 _ _ ta4 f,.nil,?_,?_,?_⟩
 .exact U _ _ hp5 nop
 .have:c=ap:=i.elim id λ⟨x,hx,_⟩=>(TU hx).elim;subst this;exact⟨by grind,sb.free (d _ ap1)⟩
 .have:=r i;dsimp only at this;subst this;exact⟨by grind,sb.free (d _ sa1)⟩
 .have:=r i;dsimp only at this;subst this;exact⟨by grind,sb.free (d _ la1)⟩
 .have hc:=oldR c i;refine⟨?_,sb.free (n1 c i)⟩;rw[TJ (nor c i),TJ (λz=>hc (by grind)),TJ (λz=>hc (by grind)),TJ (λz=>hc (by grind)),TJ (λz=>hc (by grind)),TJ (λz=>hc (by grind))]
 .exact⟨by grind,sb.free (d _ W)⟩
 .exact⟨Tv rfl,nb⟩
 .exact⟨by grind,sb.free (d _ aq1)⟩
end
noncomputable def b7(a:Pz.ba):D:=.tup [.int a.1,.int a.2.1,.int a.2.2]
noncomputable def dM(r:Pz.aX):D:=.tup [.int r.1,.int r.2.1,.int r.2.2.1,.tup (r.2.2.2.map .int)]
noncomputable def oD:Option Int->D
 |none=>.bn
 |some i=>.int i
def yH(x:Pz.nh):D:=.tup [.int x.1,oD x.2.1,oD x.2.2]
def fI(t:Pz.TD):D:=.cU (t.map λx=>.inr (ak x.1)) (t.map λx=>yH x.2)
def qO(ds:List D)(t:Pz.TD):Prop:=∃(RL:List Pz.aX)(M:List Pz.ba)(a h1 m0 b:D)(n:Nat)(T:Pz.PS),ds=[.tup [a,h1,.lst (RL.map dM)],.tup [m0,.lst (M.map b7),b]]/\RL.length<16000000/\Pz.lG (Pz.ku au RL M)/\Pz.Loop au (Pz.bN RL) n (Pz.ku au RL M) T/\t=T.told
open Classical in
def OH(Fr:List D->Res R)(ds:List D):Res R:=match Fr ds with
 |.ok _=>if h:∃t,qO ds t then .ok (.g8 (fI (Classical.choose h)))else .stuck
 |.exc c=>.exc c
 |.stuck=>.stuck
theorem Ed:∀{ns:List Int}{vs:List V},IsAll H m (ns.map .int) vs->vs=ns.map .int
 |[],vs,h=>h
 |n::ns,vs,h=>by obtain⟨v,r,rfl,h1,a⟩:=h;rw[Ed a,show v=.int n from h1];rfl
def Ld(h:Is H m (dM r) v):IsRule H r v:=by obtain⟨a,vs,rfl,ha,b,f,rfl,e0,c,g,rfl,e1,v2,i,rfl,e2,j,k,rfl,⟨q,ws,rfl,d,e⟩,rfl⟩:=h;obtain rfl:b=.int r.1:=e0;obtain rfl:c=.int r.2.1:=e1;obtain rfl:v2=.int r.2.2.1:=e2;exact⟨a,q,rfl,ha,by rw[d,Ed e]⟩
def OI(h:Is H m (b7 r) v):IsArr H r v:=by obtain⟨a,vs,rfl,ha,b,d,rfl,e0,c,e,rfl,e1,v2,f,rfl,e2,rfl⟩:=h;obtain rfl:b=.int r.1:=e0;obtain rfl:c=.int r.2.1:=e1;obtain rfl:v2=.int r.2.2:=e2;exact⟨a,rfl,ha⟩
theorem Ee{α:Type}{H:Hp}{m:Addr->Prop}{f:α->D}{it:α->V->Prop}(a:∀x v,Is H m (f x) v->it x v):∀{xs:List α}{vs:List V},IsAll H m (xs.map f) vs->eh it xs vs
 |[],vs,h=>by cases(show vs=[]from h);exact .nil
 |x::xs,vs,h=>by obtain⟨v,r,rfl,h1,b⟩:=h;exact .cons (a x v h1) (Ee a b)
def IJ(h:Is H m (.lst ds) v):∃a vs,v=.ref a/\Rd H a (.lst vs)/\IsAll H m ds vs:=by obtain⟨a,vs,rfl,h1,b⟩:=h;exact⟨a,vs,rfl,h1.imp And.left λ⟨o,e,_⟩=>⟨o,e⟩,b⟩
def RX(RL:List Pz.aX):uM (Pz.bN RL):=λk x a=>by
 rcases(Pz.uG _ _ _ _).mp a with h|⟨_,y,l,e,_⟩
 .exact(TU h).elim
 .rw[e];simp
section
variable{K:Xu}{CP CQ:Addr}{H:Hp}
def OJ(K:Xu)(CP CQ:Addr):TS:=dC (eB (fV CP "settle_all" (xq CP CQ) [] E0 (aI 2) bz)) (tU (fO K (aI 2) "told"))
def OK(K:Xu)(CP CQ:Addr):TS:=xD (oq (lL Nk (FP (wL K) (aA (tI K 5 3) bz)) (tC (.int 0))))
 (eB (fV CP "offer" (fC CP CQ) [] E0 (aI 2) (aA (jN (aA (tI K 5 0) (aA (tI K 5 1) (aA (tI K 5 2) bz)))) (aA (tC (.int 1)) (aA (aI 4) (aA (tC .bn) bz)))))) vx
def OL(K:Xu)(CP CQ:Addr):TS:=dC (nu (zB K (aA (tI K 0 2) bz)) (ip K 2 (bc (aT 4) (bc (aT 5) io))) (OK K CP CQ)) (OJ K CP CQ)
def OM(CP CQ:Addr):TS:=eB (fV CP "offer" (fC CP CQ) [] E0 (aI 2) (aA (aI 3) (aA (tC (.int 0)) (aA (tC .bn) (aA (tC .bn) bz)))))
def ON(K:Xu)(CP CQ:Addr):TS:=dC (nu (lz K (tI K 1 1)) (aT 3) (OM CP CQ)) (OL K CP CQ)
def G2(K:Xu)(mg:Str->Option Xw)(Fr:List D->Res R)(CP CQ:Addr)(E:XK):TS:=dC (eB (yZ (mw mg 2 Fr) [] E (aA (aI 0) (aA (aI 1) bz)))) (dC (lK (y8 CP (m6 CP CQ) [] E0 (aA (aI 0) bz)) (aT 2)) (ON K CP CQ))
def Le(A:PA):(pf A).lookup ("settle_all" : Str)=none:=rfl
def Lf(h:RepT H t kt):(t.map λx=>(Sum.inr (ak x.1):DK))=kt.map (λp=>.inr p.1)/\IsAll H m (t.map λx=>yH x.2) (kt.map Prod.snd):=by
 have a:∀o:Option Int,Is H m (oD o) (vO o):=λo=>by cases o<;>rfl
 induction h with
 |nil=>exact⟨rfl,rfl⟩
 |@cons x y _ _ q _ b=>obtain⟨e,p,c,d⟩:=q;exact⟨by rw[Tw,Tw,e,b.1],y.2,_,rfl,⟨p,_,c,d,_,_,rfl,rfl,_,_,rfl,a _,_,_,rfl,a _,rfl⟩,b.2⟩
section
variable{D:Ends}{σ:L2.St}{B:Hp}{A:PA}{rs:Pz.RS}{S T:Pz.PS}{xs xl xr:DX (List bm)}{p0 p1 l lm:Addr}{RL:List Pz.aX}{M:List Pz.ba}{ws wm:List V}{n:Nat}
def G3(p0 p1:Addr)(A:PA)(σ:L2.St):Prop:=∃u v w,σ=[some (.ref p0),some (.ref p1),some (.ref A.o),u,v,w]
def pr2(P:PAt CP CQ B H A rs S xs xl xr)(h:IsArr H a v)(hs:G3 p0 p1 A σ)(f:Pz.lG (Pz.jK au S a))(k:∀d H',G3 p0 p1 A d->PAt CP CQ B H' A rs (Pz.jK au S a) xs xl xr->D.nx d H'):aT 3 v σ H λe g=>OM CP CQ D e g:=by obtain⟨b,rfl,i⟩:=h;obtain⟨u,w,z,rfl⟩:=hs;have j:=P;obtain⟨_,_,_,Q⟩:=j;exact wC (.va rfl) Q.po.ins (D9 A) (.c (.va rfl) (.c .k (.c .k (.c .k .ni)))) (.mk (n:=none) (m:=none) P i f λH'=>k _ H' ⟨_,_,_,rfl⟩)
def Te(P:PAt CP CQ B H A rs S xs xl xr)(e:H pp=some (.tup [.int i,.ref c]))(b:H c=some (.tup [.int r.1,.int r.2.1,.int r.2.2.1,.ref q]))(g:H q=some (.tup (r.2.2.2.map .int)))(hs:G3 p0 p1 A σ)(f:Pz.lG (Pz.fX au S (i,r)))
 (k:∀a H',G3 p0 p1 A a->PAt CP CQ B H' A rs (Pz.fX au S (i,r)) xs xl xr->D.nx a H'):ip K 2 (bc (aT 4) (bc (aT 5) io)) (.ref pp) σ H λd j=>OK K CP CQ D d j:=by
 obtain⟨u,w,z,rfl⟩:=hs;have e2:(((r.2.2.2.map V.int).length:Nat):Int)=0↔r.2.2.2.length=0:=by rw[TN];lia
 unfold Pz.fX at f k;refine IC e (wD (.SD (.len (.ix (.va rfl) b rfl) g) .k) (λh=>?_) λh=>?_)
 .rw[Tv (e2.mp (UO h))]at f k;exact uJ P f (.va rfl) (.t (.c (.ix (.va rfl) b rfl) (.c (.ix (.va rfl) b rfl) (.c (.ix (.va rfl) b rfl) .ni))) rfl) (λ_ _=>.c .k (.c (.va rfl) (.c .k .ni))) λH'=>k _ H' ⟨_,_,_,rfl⟩
 .rw[TJ λz=>h (T4 (e2.mpr z))]at k;exact k _ H ⟨_,_,_,rfl⟩ P
def Tf(TP:lu K CP)(P:PAt CP CQ B H A rs S xs xl xr)(d:uM rs)(fit:Pz.lG S)(lp:Pz.Loop au rs n S T)(hs:G3 p0 p1 A σ)(k:∀H' a b,PAt CP CQ B H' A rs T a b xr->D.rt (.ref A.ta) H'):OJ K CP CQ D σ H:=by obtain⟨u,w,z,rfl⟩:=hs;have c:=P;obtain⟨_,_,_,Q⟩:=c;exact wC (.va rfl) Q.po.ins (Le A) .ni (.mk P d fit lp λH' a b c=>by have e:=c;obtain⟨_,_,_,Q⟩:=e;exact Q.fld TP.cl TP.nt (GW A) rfl _ (k H' a b c))
def Tg(TP:lu K CP)(G:ij B RL p0 l ws)(P:PAt CP CQ B H A (Pz.bN RL) (M.foldl (Pz.jK au) Pz.S0) xs xl xr)(fit:Pz.lG (Pz.ku au RL M))(d:uM (Pz.bN RL))(lp:Pz.Loop au (Pz.bN RL) n (Pz.ku au RL M) T)(hs:G3 p0 p1 A σ)
 (k:∀H' e f,PAt CP CQ B H' A (Pz.bN RL) T e f xr->D.rt (.ref A.ta) H'):OL K CP CQ D σ H:=by
 obtain⟨w,y,g⟩:=(G.same P.same).tup;have p:σ[0]?=some (some (.ref p0)):=by obtain⟨_,_,_,rfl⟩:=hs;rfl
 refine tH (ReadsA.c (.ix (.va p) g (v:=.ref l) rfl) .ni _ ⟨l,ws,rfl,.inl (ji P.same G.lst),?_⟩);refine zR (G3 p0 p1 A) (λi b=>PAt CP CQ B b A (Pz.bN RL) (((Pz.en RL 0).take i).foldl (Pz.fX au) (M.foldl (Pz.jK au) Pz.S0)) xs xl xr) hs P (λi b a=>.inl (ji a.same G.lst)) (λi v z σ b C s h hs a k=>?_) λσ b hs a=>?_
 .obtain⟨r,m,c,q,rfl,t,u⟩:=G.its.get s;have j:=a.more (aK (o:=.tup [.int (i:Nat),.ref c]) h);rw[zS (Pz.fX au) (M.foldl (Pz.jK au) Pz.S0) m]at k;exact Te j ag (j.same _ _ t) (j.same _ _ u) hs (i6 (step:=Pz.fX au) (λS x=>by unfold Pz.fX;split;exact Pz.b6 _ _ _ _ _;exact .refl _) (its:=Pz.en RL 0) fit (by rw[yF,m];simp)) k
 .rw[UG (by rw[Pz.qL,G.its.len];exact Tt _)]at a;exact Tf TP a d fit lp hs k
def Th(TP:lu K CP)(G:ij B RL p0 l ws)(e:B p1=some (.tup [y0,.ref lm,y2]))(c:Rd B lm (.lst wm))(j:eh (IsArr B) M wm)(P:PAt CP CQ B H A (Pz.bN RL) Pz.S0 xs xl xr)(fit:Pz.lG (Pz.ku au RL M))(f:uM (Pz.bN RL))(lp:Pz.Loop au (Pz.bN RL) n (Pz.ku au RL M) T)(hs:G3 p0 p1 A σ)
 (k:∀H' g h,PAt CP CQ B H' A (Pz.bN RL) T g h xr->D.rt (.ref A.ta) H'):ON K CP CQ D σ H:=by
 have g2:Pz.gu (M.foldl (Pz.jK au) Pz.S0) (Pz.ku au RL M):=Pz.ci _ (λS x=>by unfold Pz.fX;split;exact Pz.b6 _ _ _ _ _;exact .refl _) _ _;have h1:σ[1]?=some (some (.ref p1)):=by obtain⟨_,_,_,rfl⟩:=hs;rfl
 exact nW (Reads.ix (.va h1) (P.same _ _ e) (v:=.ref lm) rfl _ ⟨lm,rfl,⟨wm,.inl (ji P.same c)⟩,uK (it:=IsArr) (G3 p0 p1 A) (Pz.jK au) Pz.S0 (λT d=>PAt CP CQ B d A (Pz.bN RL) T xs xl xr) hs P (λp d b=>⟨ji b.same c,j.mono (IsArr.keep (pq b.same))⟩)
  (λi a v σ d q m o hs b k=>pr2 b o hs (i6 (step:=Pz.jK au) (λS x=>Pz.b6 S _ _ _ _) (g2.fit fit) m) k) λσ d hs b=>Tg TP G b fit f lp hs k⟩)
end
def wO{mg:Str->Option Xw}{Fr:List D->Res R}(TP:lu K CP)(h:mw mg 2 (OH Fr) vs H Q E):G2 K mg Fr CP CQ E {nx:=λ_ H'=>Q .bn H',rt:=Q} (cf ["house","machine","pricing","arrow","number","rule"] vs) H:=by
 obtain⟨i,ds,Ma,is,a⟩:=h;obtain⟨j,k,rfl⟩ : ∃j k,vs=[j,k]:=by rcases vs with _|⟨j,_|⟨k,_|⟨_,_⟩⟩⟩<;>first|(cases i;done)|exact⟨_,_,rfl⟩
 refine⟨_,rfl,_,rfl,rfl,ds,Ma,is,?_⟩;unfold OH at a;cases p:Fr ds with
 |stuck=>rw[p]at a;exact a
 |exc c=>rw[p]at a;exact a
 |ok r=>
  rw[p]at a;dsimp only at a;by_cases hex:∃t,qO ds t
  case neg=>rw[dif_neg hex]at a;exact a.elim
  case pos=>
  rw[dif_pos hex]at a;have d:=V7 hex;generalize Classical.choose hex=t at a d;obtain⟨RL,M,d0,d1,m0,m2,n,T,rfl,L,fit,lp,rfl⟩:=d;intro v N s1 _;obtain⟨_,_,O,⟨S,_,rfl,q,w0,_,rfl,_,w1,_,rfl,_,w2,_,rfl,s,rfl⟩,_,_,w,⟨p1,_,rfl,y,y0,_,rfl,_,y1,_,rfl,z,y2,_,rfl,_,rfl⟩,rfl⟩:=is;cases O;cases w;obtain⟨l,ws,rfl,i,U⟩:=IJ s;obtain⟨lm,wm,rfl,B,V⟩:=IJ z;have G:ij H RL S l ws:=⟨⟨_,_,q⟩,i,Ee (λx v=>Ld) U⟩;refine⟨_,rfl,λo F I C W=>?_⟩;have s2:Same H (aP (aP N F (.own o)) o (.ins CP F [])):=s1.trans λb u e=>by rw[af (ai e I),af (ai e C)];exact e
  refine .mk ag s2 (s1.free I) (G.same s2) L λA xr H3 eA P=>⟨rfl,?_⟩;subst eA;refine Th TP G y B (Ee (λx v=>OI) V) P fit (RX RL) lp ⟨none,none,none,rfl⟩ λJ X Y ⟨_,f,_,g⟩=>?_;obtain⟨Z,t2⟩:=Lf (m:=nl H J) g.po.tr;exact a _ J g.same ⟨A.ta,f.map Prod.snd,rfl,⟨.inr ⟨f,.inl g.po.td,Z,rfl⟩,g.po.c5.2,⟨_,g.po.td,True.intro⟩⟩,t2⟩
end
def Ef:∀{n:Nat}{S T:Pz.PS},Pz.Loop pile rs n S T->∀{m:Nat}{b:Pz.PS},Pz.Loop pile rs m S b->T=b:=by
 intro n S T h;induction h with
 |done e=>
  intro m b h';cases h' with
  |done _=>rfl
  |step a=>exact(a e).elim
 |step a _ _ _ _ _ c=>
  intro m b h';cases h' with
  |done e=>exact(a e).elim
  |step _ _ _ _ _ h'=>exact c h'
def BA(h:dM r=dM s):r=s:=by
 have a:∀{l m:List Int},l.map D.int=m.map D.int->l=m:=λ{l m} e=>by
  induction l generalizing m with
  |nil=>cases m with
   |nil=>rfl
   |cons _ _=>cases e
  |cons x l b=>cases m with
   |nil=>cases e
   |cons y m=>rw[Tw,Tw]at e;injection e with e1 e2;injection e1 with e1;rw[e1,b e2]
 unfold dM at h;injection h with h;injection h with h0 h;injection h with h1 h;injection h with h2 h;injection h with h3 h;injection h0 with h0;injection h1 with h1;injection h2 with h2;injection h3 with h3;exact W2 h0 (W2 h1 (W2 h2 (a h3)))
def Eg(h:b7 r=b7 s):r=s:=by unfold b7 at h;injection h with h;injection h with h0 h;injection h with h1 h;injection h with h2 h;injection h0 with h0;injection h1 with h1;injection h2 with h2;exact W2 h0 (W2 h1 h2)
theorem uO{α:Type}{f:α->D}(a:∀{x y},f x=f y->x=y):∀{l m:List α},l.map f=m.map f->l=m
 |[],[],_=>rfl
 |[],_::_,e=>nomatch e
 |_::_,[],e=>nomatch e
 |x::l,y::m,e=>by rw[Tw,Tw]at e;injection e with e1 e2;rw[a e1,uO a e2]
def Lg{Fr:List D->Res R}{b h1 m0 c:D}{r:R}(hs:Pz.Set RL M U)(d:Fr [.tup [b,h1,.lst (RL.map dM)],.tup [m0,.lst (M.map b7),c]]=.ok r) :
 ∃t,OH Fr [.tup [b,h1,.lst (RL.map dM)],.tup [m0,.lst (M.map b7),c]]=.ok (.g8 (fI t))/\Pz.Good RL M U t:=by
 obtain⟨fit,n,T,lp,good⟩:=hs.run zN;have f:RL.length<16000000:=by have:=hs.big;unfold Pz.L at this;lia
 have hex:∃t,qO [.tup [b,h1,.lst (RL.map dM)],.tup [m0,.lst (M.map b7),c]] t:=⟨T.told,RL,M,b,h1,m0,c,n,T,rfl,f,fit,lp,rfl⟩;refine⟨Classical.choose hex,?_,?_⟩
 .unfold OH;rw[d];dsimp only;rw[dif_pos hex]
 .obtain⟨g,i,j,k,l,m,o,p,e,_,_,a,e2⟩:=V7 hex;rw[e2];injection e with e3 e;injection e3 with e3;injection e3 with _ e3;injection e3 with _ e3;injection e3 with e3 _;injection e3 with e3;injection e with e _;injection e with e;injection e with _ e;injection e with e _;injection e with e;rw[<- uO (λh=>BA h) e3,<- uO (λh=>Eg h) e]at a;rw[<- Ef lp a];exact good
structure Mt(K:Xu) (C:Addr) (x q:Str) (st:Stmt) (ps:List Str) (f:Addr) (fd:FuncData):Prop where
 fu:Ft K x q st f fd
 bi:Binds K fd ps []
 me:Meth K C x f
def OO{K:Xu}{C:Addr}{x q:Str}{st:Stmt}{ps:List Str}{f:Addr}{oc:Xw}{od an:Option Addr}{osl:Array (Option Xw)}{kV doc pm cdv ct:Xw}
 (l:K.lookup f=some ⟨oc,od,.func (fnOf x q (dE st) (cL st) (ay st) .none kV doc pm an cdv ct),osl⟩) (c:codeIn K cdv q=true) (k:keepIn K (.ref f)=true) (a:findIn K (.ref C) x=some (some (.ref f))) (i:isFn K (.ref f)=true)
 (h:∀(kV doc pm:Xw)(an:Option Addr)(cdv ct:Xw)(us:List Xw),us.length=ps.length->bindArgs (fnOf x q (dE st) (cL st) (ay st) .none kV doc pm an cdv ct) ⟨us,[]⟩=pure (ps.zip us)) :
 Mt K C x q st ps f (fnOf x q (dE st) (cL st) (ay st) .none kV doc pm an cdv ct):=
 have F:Ft K x q st f _:=CC l c k
 ⟨F,F.binds h,a,i,k⟩
def Ti{α:Type}{l:List α}(h:l.length=2):∃a b,l=[a,b]:=by rcases l with _|⟨a,_|⟨b,_|_⟩⟩<;>first|(cases h;done)|exact⟨_,_,rfl⟩
def Eh(a:X.calm=true)(S:cz X scope tN capN caps)(b:PI X tg iter wi)(hs:autoParam (∀x,foldedSetIterable iter X.env x=pure x) ab) :
 PE X (.ListComp elt [⟨tg,iter,ifs,0⟩] scope pos) (we X scope tg tN capN caps elt ifs wi):=λaa s σ H Q I h=>wd a S I b h hs
def IK(K:Xu):List V->Hp->VK->Prop:=λxs H Q=>∃p ns,xs=[.ref p]/\SqL K H p (ns.map V.int)/\ns≠[]/\Q (.int (p9 ns)) H
def BB(a:X.calm=true):CallR X (.builtin "min") (IK X.K):=sV a
def BC(z:tN.length=2)(E:∀cl C g h fp,PG (cB X scope (tN++[]) cl C g h fp) tg (ip X.K 2 (bc (aT 0) (bc (aT 1) io))))(F:∀cl C g h fp,PE (cB X scope (tN++[]) cl C g h fp) elt (aI 0)) :
 K5 (FP (IK X.K) (aA (we X scope tg tN [] [] elt [] (lz X.K (aI 1))) bz)):=by
 intro σ H a vs its Q h1 l A n O k;refine⟨_,h1,a,rfl,⟨_,SqL.of l⟩,?_⟩;intro q r cl C g fp;have G:a≠q:=ai l r;have I:=A.len;refine⟨_,_,_,λi m d H'=>m=its.length-i/\i<=its.length/\d=((its.take i).map λx=>V.int x.1)/\Same H H'/\H' q=some (.lst d),E cl C g _ fp,zA,F cl C g _ fp,⟨its.length,by simp,Ul _,by simp,aK r,ag⟩,?_⟩;rintro i m d H' ⟨rfl,P,rfl,s,b⟩;have f:=s _ _ l;refine⟨b,?_⟩;by_cases t:i<its.length
 .right;have v:i<vs.length:=by lia
  refine⟨⟨vs,vs[i],SqL.of f,by simp[v]⟩,λR J o y B=>?_⟩;obtain⟨rfl,y⟩:=y;have L:=y vs (SqL.of f);obtain⟨x,ex,p,w,rfl,M,_⟩:=A.get L;rw[z]at B;obtain⟨S,u1,rfl⟩:=Ti B;refine IC (s _ _ M) ⟨λj D=>?_,?_⟩
  .rw[z]at D;obtain⟨j,rfl⟩:=Nat.exists_eq_add_of_le' D;rfl
  .refine vM ?_;refine⟨_,rfl,b,?_,its.length-(i+1),by lia,rfl,t,?_,λc u e=>?_,ag⟩
   .rw[TN,Uj];have:=Wg i its;lia
   .rw[Ve,ex,UB];rfl
   .rw[af (ai e r)];exact s _ _ e
 .left;have N:i=its.length:=by lia
  subst N;refine⟨⟨vs,SqL.of f,by lia⟩,q,its.map (·.1),rfl,?_,by simpa using n,?_⟩
  .rw[List.take_length]at b;rw[T7];exact SqL.of b
  .rw[zO];exact k H' s
section
variable{β:Type}(eD:β->D)(el:Pz.ba×Pz.nh->β)
def jj(t:Pz.TD):Pz.MD (Int×Int) β:=t.foldl (λd x=>d.app (x.1.1,x.1.2.1) (el x)) []
def rF(d:Pz.MD (Int×Int) β):D:=.cU (d.map λe=>.inr (k2 e.1)) (d.map λe=>.lst (e.2.map eD))
open Classical in
def Nt(ds:List D):Res R:=match ds with
 |[d]=>if h:∃t:Pz.TD,d=fI t/\t.length<16000000 then .ok (.g8 (rF eD (jj el (Classical.choose h))))else .stuck
 |_=>.stuck
end
def Ei(h:yH a=yH b):a=b:=by
 have c:∀{x y:Option Int},oD x=oD y->x=y:=λ{x y} e=>by
  cases x<;>cases y
  .rfl
  .cases e
  .cases e
  .injection e with e;rw[e]
 unfold yH at h;injection h with h;injection h with h0 h;injection h with h1 h;injection h with h2 h;injection h0 with h0;exact W2 h0 (W2 (c h1) (c h2))
def BD:∀{t s:Pz.TD},fI t=fI s->t=s:=by
 intro t s h;unfold fI at h;injection h with h1 h2;induction t generalizing s with
 |nil=>cases s with
  |nil=>rfl
  |cons _ _=>cases h1
 |cons x t a=>cases s with
  |nil=>cases h1
  |cons y s=>rw[Tw,Tw]at h1 h2;injection h1 with a1 b1;injection h2 with a2 b2;rw[a b1 b2,W2 (yz _ _ (Xg a1)) (Ei a2)]
def Ej{a:Type}{eD:a->D}{el:Pz.ba×Pz.nh->a}{t:Pz.TD}(h:t.length<16000000):Nt eD el [fI t]=.ok (.g8 (rF eD (jj el t))):=by have hex:∃s:Pz.TD,fI t=fI s/\s.length<16000000:=⟨t,rfl,h⟩;unfold Nt;dsimp only;rw[dif_pos hex,<- BD (V7 hex).1]
theorem zT{c:Type}(el:Pz.ba×Pz.nh->c):∀(t:Pz.TD)(d:Pz.MD (Int×Int) c),d.Ok->(t.foldl (λd x=>d.app (x.1.1,x.1.2.1) (el x)) d).Ok/\(t.foldl (λd x=>d.app (x.1.1,x.1.2.1) (el x)) d).flat.length=d.flat.length+t.length
 |[],d,h=>⟨h,rfl⟩
 |x::t,d,h=>by rw[Vo,T2];obtain⟨a,b⟩:=zT el t _ (Pz.nQ h (x.1.1,x.1.2.1) (el x));have:=(Pz.fH h.nk (x.1.1,x.1.2.1) (el x)).length_eq;rw[T2]at this;exact⟨a,by lia⟩
section
variable{X:Cx}{K:Xu}{H:Hp}{β:Type}{it:Hp->β->V->Prop}{eD:β->D}{el:Pz.ba×Pz.nh->β}{ws:Pz.ba×Pz.nh->Addr->List V}{te:TE}
def Lh(K:Xu)(te:TE):TS:=eB (oN K (aI 1) (jN (aA (tI K 2 0) (aA (tI K 2 1) bz))) te)
def Tj(X:Cx)(K:Xu)(te:TE):TS:=
 dC (lK nA (aT 1))
 (dC (λD σ H=>nu (NW X (aI 0)) (ip K 2 (bc (aT 2) (bc (aT 3) io))) (Lh K te) (Nn X D) σ H)
 (tU (aI 1)))
structure BZ(it:Hp->β->V->Prop) (eD:β->D) (el:Pz.ba×Pz.nh->β) (ws:Pz.ba×Pz.nh->Addr->List V) (te:TE):Prop where
 ma:∀(H:Hp)(x:Pz.ba×Pz.nh)(b q:Addr)(v0 v1:Option V),H b=some (.tup (nU x.1))->H q=some (.tup [.int x.2.1,vO x.2.2.1,vO x.2.2.2])->Makes te [v0,v1,some (.ref b),some (.ref q)] H (ws x b)
 is:∀(H:Hp)(x:Pz.ba×Pz.nh)(b p:Addr),H b=some (.tup (nU x.1))->H p=some (.tup (ws x b))->it H (el x) (.ref p)
 kp:∀{H H':Hp},KT H H'->∀a v,it H a v->it H' a v
 d:∀(H:Hp)(m:Addr->Prop) a v,it H a v->Is H m (eD a) v
def OP(h:Is H m (yH x) v):∃q,v=.ref q/\H q=some (.tup [.int x.1,vO x.2.1,vO x.2.2]):=by
 obtain⟨a,vs,rfl,ha,c,d,rfl,e0,f,g,rfl,e1,v2,i,rfl,e2,rfl⟩:=h;have b:∀(o:Option Int)(v:V),Is H m (oD o) v->v=vO o:=λo v e=>by cases o<;>exact e
 obtain rfl:c=.int x.1:=e0;rw[b _ _ e1,b _ _ e2]at ha;exact⟨a,rfl,ha⟩
def OQ(c:V)(ar:Addr)(σ:L2.St):Prop:=∃a b,σ=[some c,some (.ref ar),a,b]
def Tl(O:BZ it eD el ws te){ar p b q:Addr}{σ:L2.St}{x:Pz.ba×Pz.nh}{e:DX (List bm)}{f:Pz.MD (Int×Int) β}{D:Ends}{i:V}(j:DL .dT H ar e)(R2:RepM k2 it H f e)(ok:f.Ok)(m_:f.flat.length<16000000)(hs:OQ i ar σ)(l:H p=some (.tup [.ref b,.ref q]))(g:H b=some (.tup (nU x.1)))(m:H q=some (.tup [.int x.2.1,vO x.2.2.1,vO x.2.2.2]))
 (k:∀d H' a,OQ i ar d->DL .dT H' ar a->RepM k2 it H' (f.app (x.1.1,x.1.2.1) (el x)) a->(∀c,cr ar a c->cr ar e c\/H c=none)->(∀c u,H c=some u->¬cr ar e c->H' c=some u)->D.nx d H'):ip K 2 (bc (aT 2) (bc (aT 3) io)) (.ref p) σ H λh n=>Lh K te D h n:=by
 obtain⟨_,_,rfl⟩:=hs;exact IC l (Ec (k:=(x.1.1,x.1.2.1)) (v:=el x) O.kp j R2 ok m_ (.va rfl) (.t (.c (.ix (.va rfl) g rfl) (.c (.ix (.va rfl) g rfl) .ni)) rfl) (λH' kt=>O.ma H' x b q _ _ (kt _ _ g) (kt _ _ m)) (λp H' kt=>O.is H' x b p (kt _ _ g)) λH' a=>k _ H' a ⟨_,_,rfl⟩)
def zU(O:BZ it eD el ws te){t:Pz.TD}{B:Hp}{E:Hp}{D:Ends}(bh:t.length<16000000)(hd:B d=some (.aZ o u))(M:(t.map λx=>(Sum.inr (ak x.1):DK))=kvs.map λp=>.inr p.1)(r:∀(i:Nat)(x:Pz.ba×Pz.nh)(p:List bm×V),t[i]?=some x->kvs[i]?=some p->∃q,p.2=.ref q/\B q=some (.tup [.int x.2.1,vO x.2.2.1,vO x.2.2.2]))
 (F:B ar=none) (s1:Same B E) (h1:E ar=some (.dT [])) {A:V} (s:∀σ j a,OQ A ar σ->Same B j->DL .dT j ar a->RepM k2 it j (jj el t) a->(∀c,cr ar a c->B c=none)->D.nx σ j) :
 Wk (NV d o u kvs) (ip K 2 (bc (aT 2) (bc (aT 3) io))) (Lh K te) D [some A,some (.ref ar),none,none] E:=by
 have hl:t.length=kvs.length:=by have:=Vv List.length M;simpa using this
 refine⟨λi m σ G=>m=t.length-i/\i<=t.length/\OQ A ar σ/\∃a,Same B G/\DL .dT G ar a/\RepM k2 it G (jj el (t.take i)) a/\∀c,cr ar a c->B c=none,⟨t.length,by simp,Ul _,⟨_,_,rfl⟩,[],s1,⟨h1,λ_ h=>(TU h).elim,Ub,Ub⟩,.nil,λc i=>?_⟩,?_⟩
 .rcases i with rfl|⟨x,n,_⟩
  .exact F
  .exact(TU n).elim
 rintro i m σ j ⟨rfl,hi,hs,a,s2,N,R2,I⟩;by_cases w:i<t.length
 .refine .inr ⟨⟨s2 _ _ hd,by lia⟩,λf H'=>OQ A ar f/\∃a,Same B H'/\DL .dT H' ar a/\RepM k2 it H' (jj el (t.take (i+1))) a/\∀c,cr ar a c->B c=none,λf H' Q=>⟨t.length-(i+1),by lia,rfl,w,Q⟩,λy H' z=>?_⟩;obtain⟨p,b,k,v,R,rfl,S,rfl,P⟩:=z;have n:t[i]?=some t[i]:=by simp[w]
  generalize t[i]=x at n;have J:k=ak x.1:=by have:=Vv (λl=>l[i]?) M;simp only[T3,n,P,Option.map_some,Option.some.injEq,Sum.inr.injEq]at this;exact this.symm
  subst J;obtain⟨q,e,T⟩:=r i x _ n P;cases e;have e1:jj el (t.take (i+1))=(jj el (t.take i)).app (x.1.1,x.1.2.1) (el x):=by unfold jj;rw[Ve,n,Vf];rfl
  have bl:=zT el (t.take i) [] Pz.tF;have hf:(Pz.MD.flat ([]:Pz.MD (Int×Int) β)).length=0:=rfl;have U:=Wg i t;have C:=aK (o:=.tup [.ref b,.ref q]) R;have g:=s2.trans C;rw[e1];exact Tl O (N.keep λc u e _=>C c u e) (R2.keep (O.kp (pq C))) bl.1 (by have:=bl.2;unfold jj;lia) hs ag (C _ _ S) (g _ _ T) λf H' L h1 W Y Z h5=>⟨h1,L,(λc u e=>h5 c u (g _ _ e) λz=>by rw[I c z]at e;cases e),W,Y,λc z=>(Z c z).elim (I c) g.free⟩
 .refine .inl ⟨⟨s2 _ _ hd,by lia⟩,s _ j a hs s2 N ?_ I⟩;rw[UG (by lia)]at R2;exact R2
def RY(O:BZ it eD el ws te)(i:DL .dT H' ar b)(R2:RepM k2 it H' f b)(n:∀c,cr ar b c->H0 c=none):Is H' (nl H0 H') (rF eD f) (.ref ar):=by
 have e:(f.map λe=>(Sum.inr (k2 e.1):DK))=(DX.kv b).map (λp=>.inr p.1):=by
  have h:∀{f:Pz.MD (Int×Int) β}{b:DX (List bm)},RepM k2 it H' f b->(f.map λe=>(Sum.inr (k2 e.1):DK))=(DX.kv b).map (λp=>.inr p.1):=λ{f b} R=>by
   induction R with
   |nil=>rfl
   |cons r _ g=>unfold DX.kv at g ⊢;rw[Tw,Tw,Tw,g,r.1]
  exact h R2
 refine⟨ar,(DX.kv b).map Prod.snd,rfl,⟨.inr ⟨_,.inl i.root,e,rfl⟩,n ar (.inl rfl),⟨_,i.root,True.intro⟩⟩,?_⟩;have pC:=i.pC;have k:∀x∈b,H0 x.2.1=none:=λx l=>n _ (.inr ⟨x,l,rfl⟩);clear e i n;induction R2 with
 |nil=>exact rfl
 |@cons x y f b r _ g=>
  refine⟨.ref y.2.1,_,rfl,?_,g (λz hz=>pC z (TB _ hz)) λz hz=>k z (TB _ hz)⟩;have j:=pC y TF;refine⟨y.2.1,y.2.2,rfl,.inl ⟨j,k y TF,⟨_,j,True.intro⟩⟩,?_⟩;have a:=r.2;generalize x.2=m at a;generalize y.2.2=o at a;clear r j g;induction a with
  |nil=>exact rfl
  |cons h _ g=>exact⟨_,_,rfl,O.d _ _ _ _ h,g⟩
def zV(O:BZ it eD el ws te){mg:Str->Option Xw}{vs:List V}{Q:VK}(hN:N.length=4)(h:mw mg 1 (Nt eD el) vs H Q E):Tj X K te {nx:=λ_ H'=>Q .bn H',rt:=Q} (L2.cf N vs) H:=by
 obtain⟨hl,ds,Ma,is,f⟩:=h;obtain⟨v0,rfl⟩:=List.length_eq_one_iff.mp hl;have S:L2.cf N [v0]=[some v0,none,none,none]:=by unfold L2.cf;rw[hN];rfl
 rw[S];rcases ds with _|⟨d0,ds⟩
 .cases is
 obtain⟨v,r,C,T,e0⟩:=is;obtain rfl:ds=[]:=by
  cases ds with
  |nil=>rfl
  |cons _ _=>obtain⟨_,_,e1,_⟩:=e0;cases C;cases e1
 cases e0;cases C;unfold Nt at f;dsimp only at f;by_cases hex:∃t:Pz.TD,d0=fI t/\t.length<16000000
 case neg=>rw[dif_neg hex]at f;exact f.elim
 case pos=>
 rw[dif_pos hex]at f;have F:=V7 hex;generalize Classical.choose hex=t at f F;obtain⟨rfl,bh⟩:=F;obtain⟨d,kvs,u,rfl,md,U,g,P,G⟩:=yr T (λk P=>by obtain⟨x,_,rfl⟩:=TV.mp P;exact⟨_,rfl⟩);have lr:iz u:=by rcases U with rfl|⟨rfl,_⟩<;>exact True.intro
 have j:∀(i:Nat)(x:Pz.ba×Pz.nh)(p:List bm×V),t[i]?=some x->kvs[i]?=some p->∃q,p.2=.ref q/\H q=some (.tup [.int x.2.1,vO x.2.2.1,vO x.2.2.2]):=λi x p W Y=>by obtain⟨v',C,iv⟩:=G.get (i:=i) (d:=yH x.2) (by rw[T3,W];rfl);rw[T3,Y]at C;cases C;exact OP iv
 have I:∀(ar:Addr)(H':Hp)(l:DX (List bm)),Same H H'->DL .dT H' ar l->RepM k2 it H' (jj el t) l->(∀c,cr ar l c->H c=none)->Q (.ref ar) H':=λar H' l s J R2 n=>f _ H' s (RY O J R2 n);clear f;intro ar m;have s1:Same H (aP H ar (.dT [])):=aK m;refine⟨_,rfl,d,kvs,u,rfl,U,?_⟩;rcases g with g|⟨o,g⟩
 .right;have L:d≠ar:=ai g m;refine⟨by rw[af L];exact g,λo Z=>?_⟩;have cm:aP (aP H ar (.dT [])) d (.aZ o u)=aP (aP H d (.aZ o u)) ar (.dT []):=by funext c;unfold aP;by_cases a:c=d<;>by_cases b:c=ar<;>simp_all
  have y:aP H d (.aZ o u) ar=none:=by rw[af (UM L)];exact m
  rw[cm];refine zU (K:=K) (D:=Nn X {nx:=λA H'=>(tU (aI 1)) {nx:=λ_ H'=>Q .bn H',rt:=Q} A H',rt:=Q}) O bh (B:=aP H d (.aZ o u)) ag P (λi x p W Y=>?_) y (aK y) ag ?_
  .obtain⟨q,e,hq⟩:=j i x p W Y;refine⟨q,e,?_⟩;rw[af λz=>by rw[z,g]at hq;cases hq;rcases U with z|⟨z,_⟩<;>cases z];exact hq
  .rintro σ H2 l ⟨a,b,rfl⟩ s2 J R2 R;refine .inr ⟨d,o,u,s2 _ _ ag,lr,Z,?_⟩;have M:∀c,cr ar l c->c≠d:=λc hc z=>by have:=R c hc;rw[z,ag]at this;cases this
   refine⟨_,rfl,I ar _ l (λc w e=>?_) (J.keep λc w e i=>by rw[af (M c i)];exact e) (R2.keep (O.kp λc ws e=>?_)) λc i=>?_⟩
   .by_cases z:c=d
    .rw[z]at e ⊢;rw[ag,<- e,g]
    .rw[af z];exact s2 c w (by rw[af z];exact e)
   .rw[af λz=>by rw[z,s2 _ _ ag]at e;cases e];exact e
   .have:=R c i;rw[af (M c i)]at this;exact this
 .left;refine⟨o,s1 _ _ g,?_⟩;refine zU (K:=K) (D:=Nn X {nx:=λA H'=>(tU (aI 1)) {nx:=λ_ H'=>Q .bn H',rt:=Q} A H',rt:=Q}) O bh (B:=H) g P j m s1 ag ?_;rintro σ H2 l ⟨a,b,rfl⟩ s2 J R2 R;exact .inl ⟨_,rfl,I ar H2 l s2 J R2 R⟩
def RZ(H:Hp)(x:Pz.ba×Int)(v:V):Prop:=∃p w,v=.ref p/\H p=some (.tup [w,.int x.2])/\IsArr H x.1 w
noncomputable def yI(x:Int×Int):D:=.tup [.int x.1,.int x.2]
def G4(x:Pz.ba×Int):D:=.tup [b7 x.1,.int x.2]
noncomputable def qP(x:Pz.ba×Pz.nh):Int×Int:=(x.1.2.2,x.2.1)
noncomputable def G5(x:Pz.ba×Pz.nh):Pz.ba×Int:=(x.1,x.2.1)
def Li(h:IsArr H a v):Is H m (b7 a) v:=by obtain⟨p,rfl,h⟩:=h;exact⟨p,_,rfl,h,_,_,rfl,rfl,_,_,rfl,rfl,_,_,rfl,rfl,rfl⟩
def G6:BZ IsSet yI qP (λx _=>[.int x.1.2.2,.int x.2.1]) (jN (aA (tI K 2 2) (aA (tI K 3 0) bz))) where
 ma:=λH x b q v0 v1 hb hq=>.t (.c (.ix (.va rfl) hb rfl) (.c (.ix (.va rfl) hq rfl) .ni)) rfl
 is:=λH x b p _ hp=>⟨p,rfl,hp⟩
 kp:=λk a v=>IsSet.keep k a v
 d:=λH m a v ⟨p,e,h⟩=>⟨p,_,e,h,_,_,rfl,rfl,_,_,rfl,rfl,rfl⟩
def OR:BZ RZ G4 G5 (λx b=>[.ref b,.int x.2.1]) (jN (aA (aI 2) (aA (tI K 3 0) bz))) where
 ma:=λH x b q v0 v1 hb hq=>.t (.c (.va rfl) (.c (.ix (.va rfl) hq rfl) .ni)) rfl
 is:=λH x b p hb hp=>⟨p,_,rfl,hp,b,rfl,hb⟩
 kp:=λk a v ⟨p,w,e,h,g⟩=>⟨p,w,e,k _ _ h,IsArr.keep k _ _ g⟩
 d:=λH m a v ⟨p,w,e,h,g⟩=>⟨p,_,e,h,_,_,rfl,Li g,_,_,rfl,rfl,rfl⟩
end
def bS{N P:List Str}{h:Scope}(a:autoParam (h.kind=.function) ae)(b:autoParam (h.isCoroutine=false) ae)(c:autoParam (h.isGenerator=false) ae)(d:N.Nodup:=by decide +kernel)(e:autoParam (N.take P.length=P) ae)
 (f:∀x∈P,h.names.lookup x=some .local\/h.names.lookup x=some .cell:=by decide +kernel) (g:∀y∈h.names,y.2≠.free:=by decide +kernel):aR N P h:=⟨a,b,c,d,e,f,g⟩
abbrev Nu(x q:Str)(st:Stmt)(kV doc pm:Xw)(an:Option Addr)(cdv ct:Xw):FuncData:=fnOf x q (dE st) (cL st) (ay st) .none kV doc pm an cdv ct
structure Df(K:Xu) (mg:Str->Option Xw) (x:Str) (st:Stmt) (ps:List Str) where
 f:Addr
 fd:FuncData
 h:Fn K mg x st ps f fd
structure Mf(K:Xu) (C:Addr) (x q:Str) (st:Stmt) (ps:List Str) where
 f:Addr
 fd:FuncData
 h:Mt K C x q st ps f fd
section
variable{K KK:Xu}{x q:Str}{st:Stmt}{f C:Addr}{oc:Xw}{od an:Option Addr}{osl:Array (Option Xw)}{kV doc pm cdv ct:Xw}
def Lk(K:Xu)(x q:Str)(st:Stmt)(f:Addr):Prop:=∃oc od an osl kV doc pm cdv ct,K.lookup f=some ⟨oc,od,.func (Nu x q st kV doc pm an cdv ct),osl⟩/\codeIn K cdv q=true
def lk(l:K.lookup f=some ⟨oc,od,.func (Nu x q st kV doc pm an cdv ct),osl⟩)(c:codeIn K cdv q=true):Lk K x q st f:=⟨_,_,_,_,_,_,_,_,_,l,c⟩
def FK(K:Xu)(x:Str)(st:Stmt):Prop:=∃f,nsIn K mainGlobals x=some (some (.ref f))/\Lk K x x st f
def fk(a:nsIn K mainGlobals x=some (some (.ref f)))(l:K.lookup f=some ⟨oc,od,.func (Nu x x st kV doc pm an cdv ct),osl⟩)(c:codeIn K cdv x=true):FK K x st:=⟨_,a,lk l c⟩
structure MK(K:Xu) (C:Addr) (x q:Str) (st:Stmt) (f:Addr):Prop where
 a:findIn K (.ref C) x=some (some (.ref f))
 i:isFn K (.ref f)=true
 l:Lk K x q st f
 k:keepIn K (.ref f)=true
def mk(a:findIn K (.ref C) x=some (some (.ref f)))(i:isFn K (.ref f)=true)(l:K.lookup f=some ⟨oc,od,.func (Nu x q st kV doc pm an cdv ct),osl⟩)(c:codeIn K cdv q=true)(k:keepIn K (.ref f)=true):MK K C x q st f:=⟨a,i,lk l c,k⟩
structure CK(K KK:Xu) (x:Str) (C:Addr):Prop where
 b:nsIn K mainGlobals x=some (some (.ref C))
 pg:plainGet KK C Str.empty=true
 hd:hasDictIn KK C=true
 po:PySem.W.plainOver KK C=true
 sa:findIn KK (.ref C) "__setattr__"=some (some (.builtin "object.__setattr__"))
 m:PySem.W.makesIn KK C=true
 k:keepIn KK (.ref C)=true
def CK.cl(c:CK K KK x C):ve KK C:=⟨c.pg,c.hd,c.po,c.sa⟩
variable{mg:Str->Option Xw}{ps:List Str}{h:Heap}
def df(X:K.In h)(G:h.Ns mainGlobals mg)(U:xw K KK)(k:FK K x st)
 (b:∀(kV doc pm:Xw)(an:Option Addr)(cdv ct:Xw)(us:List Xw),us.length=ps.length->bindArgs (Nu x x st kV doc pm an cdv ct) ⟨us,[]⟩=pure (ps.zip us):=by intro _ _ _ _ _ _ us d;rcases us with _|⟨_,_|⟨_,_|⟨_,_|⟨_,_|⟨_,_|⟨_,us⟩⟩⟩⟩⟩⟩<;>first|(cases d;done)|rfl):Nonempty (Df KK mg x st ps):=by
 obtain⟨f,a,oc,od,an,osl,kV,doc,pm,cdv,ct,l,c⟩:=k;exact⟨f,_,KS U l c (PySem.W.mg_of X G a) b⟩
def mf(k:MK K C x q st f)
 (b:∀(kV doc pm:Xw)(an:Option Addr)(cdv ct:Xw)(us:List Xw),us.length=ps.length->bindArgs (Nu x q st kV doc pm an cdv ct) ⟨us,[]⟩=pure (ps.zip us):=by intro _ _ _ _ _ _ us d;rcases us with _|⟨_,_|⟨_,_|⟨_,_|⟨_,_|⟨_,_|⟨_,us⟩⟩⟩⟩⟩⟩<;>first|(cases d;done)|rfl):∃m:Mf K C x q st ps,m.f=f:=by
 obtain⟨a,i,⟨oc,od,an,osl,kV,doc,pm,cdv,ct,l,c⟩,kp⟩:=k;exact⟨⟨f,_,OO l c kp a i b⟩,rfl⟩
def OS(c:CK K KK x C)(k:MK KK C "__init__" q st f):Mk KK C f:=⟨c.m,k.a,k.i,c.k⟩
end
end L4
namespace L2
open PySem PySem.Spec PySem.Calls PyProof.Rows
section
variable{prog:Xv}{w:World}{A:Xx}{R:Result->Xt->Prop}{I:Addr}{fp wr:List Addr}{G:Array GenState->Array GenState->Prop}{n:Nat}{P:Nat->Xw->Prop}{St:Nat->Xt->Prop}
def qQ(h h':Heap):Prop:=∀b o,h.get? b=some o->h'.get? b=some o
def Ek(prog:Xv)(w:World)(A:Xx)(a:Heap)(P:Nat->Xw->Prop)(b:Nat->Nat->Bool):Prop:=∀i j u v (s:Xt) (Q:Xw->Xt->Prop) (E:Xw->Xt->Prop),qQ a s.heap->P i u->P j v->Q (.bool (b i j)) s->wpAny (model prog w) A (richCompare .Lt u v) Q E s
def k9:(toString "min"++toString ".loop" : String)="min.loop":=by decide
def BE(W:WalksS prog w A.in1 I fp wr G n P St)(x:Ek prog w A.in1 h0 P bt)(E:∀b∈wr,h0.get? b=none)(N:S∉fp)(H:h0.get? S=none) :
 ∀(k j:Nat)(s:Xt)(l:Xw)(c:Nat),n-(j+1)=k->j+1<=n->St (j+1) s->qQ h0 s.heap->P (argBest bt j) l->s.heap.get? S=some { cls:=.type "list",dict:=none,data:=.seq #[l,l] c,slots:=#[] }->
  (∀v g,P (argBest bt (n-1)) v->Moved (S::wr) G s g->R (.ok (.ret v)) g)->codeAny (model prog w) A (.builtin "min.loop" ⟨[.ref I,.none,.ref S],kw⟩) R s:=by
 have O:S∉wr:=λh=>N (W.sub _ h);have sub:∀b∈wr,b∈S::wr:=λb i=>TB _ i;have Q:∀{b:Addr},b∉S::wr->S≠b:=λi h=>i (h▸TF);have J:∀{s g:Xt},qQ h0 s.heap->Moved wr G s g->qQ h0 g.heap:=λK m b o e=>m.heap b o (λz=>by rw[E b z]at e;cases e) (K b o e);intro k;induction k with
 |zero=>
  intro j s l c K V q kp C y D;have T:j+1=n:=by lia
  refine Vl F.entry_min_loop ?_;rw[Vt VC _];refine KE (WG y rfl (KE (W7 (W.done s _ _ (T▸q) λg m=>?_))));have a:=m.heap S _ O y;refine KE (Wv a rfl (KE (Xe (Tu ?_))));exact D l _ (by rw[<- T];exact C) ((m.mono sub).then_heap (tk:=g.toks) (Tt _) λb o i e=>(Ud _ _ (Q i)).trans e)
 |succ k U=>
  intro j s l c K V q kp C y D;have r:j+1<n:=by lia
  refine Vl F.entry_min_loop ?_;rw[Vt VC _];refine KE (WG y rfl (KE (W7 (W.item (j+1) s _ _ r q λv g B p m=>?_))));have a:=m.heap S _ O y;have t:=J kp m;show wpAny _ A.in1 (tryCatch (holding [v,v] (richCompare .Lt v l >>= _)) _ >>= _) _ _ _;refine KE (W7 (UJ (KE (x (j+1) (argBest bt j) v l _ _ _ t B C (KE (UJ (Vb (KE (Xe (Tu ?_))))))))));cases i:bt (j+1) (argBest bt j)with
  |true=>
   simp only[Vd];refine KE (Wv a rfl (KE (Xe ?_)));rw[k9];refine Tu ⟨VW VC _,U (j+1) _ v _ (by lia) r (W.frame _ g _ g.toks p (Tt _) λb L o e=>?_) (λb o e=>?_) (by simp only[argBest,i,Vd];exact B) (UR _ a rfl) λM u d f=>?_⟩
   .exact(Ud _ _ (λh:S=b=>N (h▸L))).trans e
   .exact(Ud _ _ (λh:S=b=>by rw[<- h,H]at e;cases e)).trans (t b o e)
   .exact D M u d (Xd W.gtrans ((m.mono sub).then_heap (Tt _) λb o i e=>(Ud _ _ (Q i)).trans e) f)
  |false=>simp only[TY,UI];refine KE (Xe ?_);rw[k9];refine Tu ⟨VW VC _,U (j+1) _ l c (by lia) r p t (by simp only[argBest,i,TY,UI];exact C) a λM u d f=>?_⟩;exact D M u d (Xd W.gtrans (m.mono sub) f)
def BF(d:Xw):Builtin.Builtins.bindParams "min" ["key","default"] 0 ⟨[],[(("default" : Str),d)]⟩=pure [none,some d]:=by rfl
def BH(a d:Xw):argsOk "min" ⟨[a],[(("default" : Str),d)]⟩:=by unfold argsOk;kernel_rfl
def BI
 (h:wpAny (model prog w) A.in1 (pyIter x) (λit a=>∃I fp wr G n P St y i,it=.ref I/\WalksS prog w A.in1 I fp wr G n P St/\St 0 a/\(∀b∈fp,b<a.heap.objs.size)/\Ek prog w A.in1 i P y/\qQ i a.heap/\(∀b∈wr,i.get? b=none)/\
   (n=0->∀c,Moved wr G a c->Q d c)/\(0<n->∀v c,P (argBest y (n-1)) v->Moved wr G a c->Q v c)) E s) :
 wpAny (model prog w) A (call (.builtin "min") [x] [(("default" : Str),d)]) Q E s:=by
 refine PyProof.Rows.kmk_tree PySem.F.kind_min PySem.F.plain_min PySem.F.entry_min (BH _ _) ?_;show wpAny _ A.in1 (Builtin.Builtins.bindParams "min" ["key","default"] 0 ⟨[],[(("default" : Str),d)]⟩ >>= _) _ _ s;refine KE (wpAny_of_eq (BF d) ?_);refine KE (Tu ?_);refine KE (U9 h (λit a j=>?_) λ_ _ e=>e);obtain⟨I,fp,wr,G,n,P,St,y,i,rfl,W,B,C,k,kp,l,M,q1⟩:=j;have f:a.heap.objs.size∉fp:=λg=>Vu _ (C _ g);have D:a.heap.objs.size∉wr:=λh=>f (W.sub _ h);have m:i.get? a.heap.objs.size=none:=by
  cases e:i.get? a.heap.objs.size with
  |none=>rfl
  |some o=>exact absurd (TC (kp _ _ e)) (Vu _)
 refine KE (Ux ?_);rw[k9];have p:=W.frame 0 a (a.heap.push { cls:=.type "list",data:=.seq #[] }) a.toks B (Tt _) λb _ o e=>RW _ e;have L:(a.heap.push { cls:=.type "list",data:=.seq #[] }).get? a.heap.objs.size=_:=Tz _ rfl;have N:∀{b:Addr},b∉a.heap.objs.size::wr->a.heap.objs.size≠b:=λq h=>q (h▸TF);have sub:∀b∈wr,b∈a.heap.objs.size::wr:=λb q=>TB _ q;refine Tu ⟨VW VC _,Vl F.entry_min_loop ?_⟩;rw[Vt VC _];refine KE (WG L rfl (KE (W7 ?_)));by_cases O:n=0
 .subst O;refine W.done _ _ _ p λc g=>?_;refine KE (WU (Tu ?_));exact M rfl c (Moved.drop_new (tk:=a.toks) (g.mono sub) (Tt _))
 .refine W.item 0 _ _ _ (by lia) p λv c S r g=>?_;have t:=g.heap _ _ D L;show wpAny _ A.in1 (updateSeq a.heap.objs.size (λ_=>#[v,v]) >>= _) _ _ _;refine KE (Wv t rfl ?_);rw[k9];refine Tu ⟨VW VC _,BE W k l f m _ 0 _ v _ rfl (by lia) (W.frame _ c _ c.toks r (Tt _) λb H o e=>?_) (λb o e=>?_) S (UR _ t rfl) λT J K u=>?_⟩
  .exact(Ud _ _ (λh:a.heap.objs.size=b=>f (h▸H))).trans e
  .exact(Ud _ _ (λh:a.heap.objs.size=b=>by rw[<- h,m]at e;cases e)).trans (g.heap b o (λz=>by rw[l b z]at e;cases e) (RW _ (kp b o e)))
  .exact q1 (by lia) T J K (Moved.drop_new (tk:=a.toks) (Xd W.gtrans ((g.mono sub).then_heap (Tt _) λb o q e=>(Ud _ _ (N q)).trans e) u) (Tt _))
end
def yJ(K:Xu)(H:Hp)(vs:List V)(ks:List (List Int)):Prop:=ks.length=vs.length/\∀(i:Nat) v k,vs[i]?=some v->ks[i]?=some k->∃a,v=.ref a/\SqT K H a (k.map .int)
def yK(vs:List V)(ks:List (List Int)):Prop:=ks.length=vs.length/\∀(i:Nat) v k,vs[i]?=some v->ks[i]?=some k->∃n,k=[n]/\v=.int n
def vi(ks:List (List Int))(i j:Nat):Bool:=HT.lexLt (ks[i]?.getD []) (ks[j]?.getD [])
def OT(K:Xu)(b:TE):TE:=λσ H Q=>b σ H λx a=>∃p vs ks,x=.ref p/\SqL K a p vs/\(yJ K a vs ks\/yK vs ks)/\(vs=[]->Q .bn a)/\∀v,vs[argBest (vi ks) (vs.length-1)]?=some v->Q v a
section
variable{X:Cx}
theorem zW(a:Nat->Nat->Bool):∀n,argBest a n<=n
 |0=>Tt _
 |n+1=>by unfold argBest;split;exact Tt _;exact Nat.le_succ_of_le (zW a n)
def G7(hc:X.calm=true)(hu:X.A.units+64<cLine)(I:Inv X aa σ H s)(hl:SqL X.K H p vs)(hk:yJ X.K H vs ks\/yK vs ks)(q0:vs=[]->Q .bn H)(q1:∀v,vs[argBest (vi ks) (vs.length-1)]?=some v->Q v H) :
 wpAny (model X.prog X.w) X.A (call (.builtin "min") [.ref p] [(("default" : Str),.none)]) (EP X aa σ Q) X.xe s:=by
 obtain⟨its,rv,pl,hz⟩:=I.list hl;have hh:X.A.in1.handled=none:=I.ok.hd hc;obtain⟨o,ho,_⟩:=pl.isList;have hlt:p<s.heap.objs.size:=TC ho;have bh:=rv.length;have hkl:ks.length=vs.length:=hk.elim And.left And.left;have cmp:Ek X.prog X.w X.A.in1 s.heap (λi v=>its[i]?=some v) (vi ks):=by
  intro i j u v s' Q' E' kp hu' hv' hQ;have hi:i<its.length:=(TL.mp hu').1;have hj:j<its.length:=(TL.mp hv').1;have eki:ks[i]?=some ks[i]:=by simp[show i<ks.length by lia]
  have ekj:ks[j]?=some ks[j]:=by simp[show j<ks.length by lia]
  have evi:vs[i]?=some vs[i]:=by simp[show i<vs.length by lia]
  have evj:vs[j]?=some vs[j]:=by simp[show j<vs.length by lia]
  obtain⟨u',e1,r1⟩:=rv.get evi;obtain⟨v',e2,r2⟩:=rv.get evj;rw[hu']at e1;cases e1;rw[hv']at e2;cases e2;unfold vi at hQ;rw[eki,ekj]at hQ;simp only[Option.getD_some]at hQ;generalize ks[i]=ki at eki hQ;generalize ks[j]=kj at ekj hQ;generalize vs[i]=wi at evi r1;generalize vs[j]=wj at evj r2;rcases hk with hk|hk
  .obtain⟨a,rfl,ha⟩:=hk.2 i _ _ evi eki;obtain⟨b,rfl,hb⟩:=hk.2 j _ _ evj ekj;cases r1;cases r2;obtain⟨ia,ra,pa,_⟩:=I.tuple ha;obtain⟨ib,rb,pb,_⟩:=I.tuple hb;obtain⟨oa,ea,pa⟩:=pa;obtain⟨ob,eb,pb⟩:=pb;refine HT.lt_tupInts (s:=s') ⟨oa,kp _ _ ea,pa⟩ ⟨ob,kp _ _ eb,pb⟩ (pM ra) (pM rb) ?_ hQ;show X.A.units+1<cLine;lia
  .obtain⟨m,rfl,rfl⟩:=hk.2 i _ _ evi eki;obtain⟨n,rfl,rfl⟩:=hk.2 j _ _ evj ekj;obtain⟨t1,rfl⟩:=r1;obtain⟨t2,rfl⟩:=r2;refine HT.rcLt_int _ _ _ _ _ _ _ _ _ _ ?_;have:HT.lexLt [m] [n]=decide (m<n):=by
    show(if m=n then false else decide (m<n))=_;split
    .rename_i e;rw[Uc (by lia)]
    .rfl
   rw[<- this];exact hQ
 refine BI (V9 pl.isList ?_);refine⟨s.heap.objs.size,_,_,_,_,_,_,vi ks,s.heap,rfl,(Walks.list hh s.heap.objs.size p (T5 hlt) its.toArray).toS,⟨⟨_,Tz _ rfl,rfl,rfl⟩,?_⟩,?_,?_,?_,?_,?_,?_⟩
 .exact pl.isList.at λo e=>RW _ e
 .intro b hb;rw[VI];rcases TH.mp hb with e|hb
  .rw[e];exact VB _
  .rcases TH.mp hb with e|hb
   .rw[e];exact VP hlt
   .cases hb
 .intro i j u v s' Q' E' kp hu' hv' hQ;exact cmp i j u v s' Q' E' kp (by simpa using hu') (by simpa using hv') hQ
 .exact λb o e=>RW _ e
 .intro b hb;obtain rfl:=T8.mp hb;cases e:s.heap.get? s.heap.objs.size with
  |none=>rfl
  |some o=>exact absurd (TC e) (Vu _)
 .intro hn s' hm;have e0:vs=[]:=UD.mp (by rw[bh];simpa using hn);exact⟨.bn,H,back I hm,rfl,q0 e0⟩
 .intro hn v s' hv hm;have hv:its[argBest (vi ks) (its.length-1)]?=some v:=by simpa using hv
  have hb:=zW (vi ks) (vs.length-1);have hpos:0<its.length:=by simpa using hn
  have ev:vs[argBest (vi ks) (vs.length-1)]?=some (vs[argBest (vi ks) (vs.length-1)]'(by lia)):=by simp
  obtain⟨u',e1,r1⟩:=rv.get ev;rw[bh,hv]at e1;cases e1;exact⟨_,H,back I hm,r1,q1 _ ev⟩
where
 back {X:Cx} {aa:List (Addr×Obj)} {s s':Xt} {σ:St} {H:Hp} {p:Addr} (I:Inv X aa σ H s) (hm:Moved [s.heap.objs.size] (λa b=>b=a) { s with heap:=s.heap.push { cls:=.type "list_iterator",data:=.fields #[.ref p,.int 0 0] } } s'):Inv X aa σ H s':=by obtain⟨h',g',d',tk',os'⟩:=s';obtain rfl:g'=s.gens:=hm.gens;obtain rfl:d'=s.drawn:=hm.drawn;obtain rfl:os'=s.os:=hm.os;have I1:Inv X aa σ H { s with heap:=s.heap.push { cls:=.type "list_iterator",data:=.fields #[.ref p,.int 0 0] } }:=I.kept (t':=s.toks) λb o e=>RW _ e;have fo:=I.rB (H':=H) (Tt s.heap.objs.size) (I.aS.fresh (Tt _));have I2:=I1.turned (h':=h') (t':=tk') (it:=s.heap.objs.size) (λb o hb e=>hm.heap b o (by simpa using hb) e) fo.1 fo.2.1 fo.2.2.2.1 fo.2.2.2.2.1 fo.2.2.2.2.2;exact I2
def G8(i:X.calm=true)(k:X.A.units+64<cLine)(l:Gl X "min") (m:X.mg "min"=none) (n:PE X e te) (b:autoParam (starEach [e] X.env=(false,eval e X.env)::starEach [] X.env) ae)
 (c:autoParam (((backTo pos (starEach [e] X.env)).any (·.1) ||(backToKw pos (keywordEach [⟨some "default",.Constant .none j kp,kpos⟩] X.env)).any (·.1.isNone))=false) ae) :
 PE X (.Call (.Name "min" p) [e] [⟨some "default",.Constant .none j kp,kpos⟩] pos) (OT X.K te):=by
 intro aa s σ H Q I h;refine VD (jS I l m (by decide +kernel:bootBuiltins "min"=some (.builtin "min")) ?_ (by decide) (by decide));have o:PA X [e] (aA te bz):=ah n aC (hs:=b);have d:PK X [⟨some "default",.Constant .none j kp,kpos⟩] (aA (tC .bn) bz):=FO lI J4;refine PySem.W.callWith_of (P:=λ_=>True) c (λh _=>⟨Keeper.machine,.inr (.inl rfl),PySem.W.Looks.now⟩) (PyProof.Rows.evalArgs_kw2 rfl (bR (o pos aa s σ H (λws a=>match ws with|[x]=>(∃p vs ks,x=.ref p/\SqL X.K a p vs/\(yJ X.K a vs ks\/yK vs ks)/\(vs=[]->Q .bn a)/\∀v,vs[argBest (vi ks) (vs.length-1)]?=some v->Q v a)|_=>False) I h) λus s1 ⟨vs,a,t,r,q⟩=>?_) b);obtain⟨x,rfl⟩ : ∃x,vs=[x]:=by
  match vs,q with
  |[x],_=>exact⟨x,rfl⟩
 obtain⟨p,vs,ks,rfl,w,y,z,q1⟩:=q;obtain⟨u,rfl,f⟩:=eF r;cases f;refine bR (d pos aa s1 σ a (λvs g=>vs=[.bn]/\g=a) t ⟨rfl,rfl⟩) λws s2 ⟨D,g,B,C,e1,e2⟩=>⟨True.intro,?_⟩;subst e1 e2;obtain⟨u,rfl,f⟩:=eF C;cases f;exact G7 i k B w y z q1
end
end L2
namespace L3
open PySem PySem.Spec PyProof.Rows L2
def qR(b x:List Int):List Int:=if HT.lexLt x b then x else b
def rX:List (List Int)->List Int
 |[]=>[]
 |k::r=>r.foldl qR k
def qS(r:R):Res R:=match r.d with
 |.lst []=>.ok (.val .bn true [])
 |.lst ds=>match dH ds with
  |some ks=>.ok (.val (iV (rX ks)) true [])
  |none=>match fG ds with
   |some ns=>.ok (.val (.int ((rX (ns.map λn=>[n])).headD 0)) true [])
   |none=>.stuck
 |_=>.stuck
def tJ(f:En->Res R):En->Res R:=λenv=>(f env).bind qS
theorem oP:∀k:List Int,(iV k).flat=true
 |[]=>rfl
 |_::k=>oP k
theorem iQ:∀(k:List Int)(r:List (List Int))(j:Nat),j<=r.length->(k::r)[argBest (vi (k::r)) j]?=some ((r.take j).foldl qR k)
 |k,r,0,_=>by simp[argBest]
 |k,r,j+1,h=>by
  have a:=iQ k r j (by lia);have c:j<r.length:=h;have e:(k::r)[j+1]?=some r[j]:=by simp[c]
  have e2:r.take (j+1)=r.take j++[r[j]]:=by rw[List.take_append_getElem]
  show(k::r)[if vi (k::r) (j+1) (argBest (vi (k::r)) j)then j+1 else argBest (vi (k::r)) j]?=_;rw[e2,Vf];generalize argBest (vi (k::r)) j=b at a;generalize(r.take j).foldl qR k=m at a;have q:vi (k::r) (j+1) b=HT.lexLt r[j] m:=by show HT.lexLt ((k::r)[j+1]?.getD []) ((k::r)[b]?.getD [])=_;rw[e,a];rfl
  rw[q];show _=some (if HT.lexLt r[j] m=true then r[j]else m);by_cases z:HT.lexLt r[j] m=true
  .rw[Tv z,Tv z];exact e
  .rw[TJ z,TJ z];exact a
def tL(h:ks≠[]):ks[argBest (vi ks) (ks.length-1)]?=some (rX ks):=by
 cases ks with
 |nil=>exact(h rfl).elim
 |cons k r=>have:=iQ k r r.length (Tt _);rw[List.take_length]at this;exact this
theorem zX:∀{ds:List D}{vs:List V}{ks:List (List Int)},IsAll H m ds vs->L3.dH ds=some ks->ks.length=vs.length/\∀(i:Nat) v k,vs[i]?=some v->ks[i]?=some k->(∃a,v=.ref a/\H a=some (.tup (k.map .int)))/\Is H m (iV k) v
 |[],vs,ks,h,e=>by cases(show vs=[]from h);cases(show(some []:Option (List (List Int)))=some ks from e);exact⟨rfl,λi v k e=>by simp at e⟩
 |d::ds,vs,ks,h,e=>by
  obtain⟨v,r,rfl,h1,h2⟩:=h;unfold L3.dH at e;cases q1:GG d with
  |none=>simp only[q1]at e;cases e
  |some k0=>
   cases q2:L3.dH ds with
   |none=>simp only[q1,q2]at e;cases e
   |some kr=>
    simp only[q1,q2]at e;cases e;obtain⟨l,f⟩:=zX h2 q2;refine⟨by simp[l],λi w k ew ek=>?_⟩;cases i with
    |zero=>
     simp at ew ek;subst ew ek;cases d with
     |tup xs=>
      have h1':=h1;obtain⟨a,us,rfl,ha,hu⟩:=h1;have qi:fG xs=some k0:=q1;have eu:us=k0.map V.int:=by rw[hu.ints qi];unfold iK;rw[T7];rfl
      have ex:xs=k0.map D.int:=ints_eq qi;rw[eu]at ha;exact⟨⟨a,rfl,ha⟩,by show Is H m (.tup (k0.map .int)) _;rw[<- ex];exact h1'⟩
     |_=>cases q1
    |succ i=>exact f i w k (by simpa using ew) (by simpa using ek)
where
 ints_eq:∀{xs:List D}{k:List Int},fG xs=some k->xs=k.map D.int
 |[],_,e=>by cases e;rfl
 |.int i::r,k,e=>by
  unfold fG at e;cases q:fG r with
  |none=>rw[q]at e;cases e
  |some kr=>rw[q]at e;cases e;rw[Tw,ints_eq q]
 |.bn::_,_,e=>by cases e
 |.bl _::_,_,e=>by cases e
 |.str _::_,_,e=>by cases e
 |.tup _::_,_,e=>by cases e
 |.lst _::_,_,e=>by cases e
 |.cU _ _::_,_,e=>by cases e
section
variable{X:Cx}{E:XK}
def zY(R:X.calm=true)(S:X.A.units+64<cLine)(T:Gl X "min") (U:X.mg "min"=none) (W:PD X E e f) (B:autoParam (starEach [e] X.env=(false,eval e X.env)::starEach [] X.env) ae)
 (C:autoParam (((backTo pos (starEach [e] X.env)).any (·.1) ||(backToKw pos (keywordEach [⟨some "default",.Constant .none j kp,kpos⟩] X.env)).any (·.1.isNone))=false) ae) :
 PD X E (.Call (.Name "min" p) [e] [⟨some "default",.Constant .none j kp,kpos⟩] pos) (tJ f):=by
 obtain⟨t,p1,s1⟩:=W;refine⟨_,G8 R S T U p1 B C,λg M Y env σ H Q F p=>s1.fL F p λr v M1 x e1 u N q1=>?_⟩;unfold qS at q1;have fl:∀{d:D}{w:V}{m:Addr->Prop},d.flat=true->Is x m d w->PostE X.mg E g M1 Y env σ x Q (.ok (.val d true []))->Q w x:=λ{d w m} y Z hp=>hp w M1 x (Ext.refl _ _) u (Is.flat y Z);cases q:r.d with
 |lst ds=>
  rw[q]at q1 N;obtain⟨a,ws,rfl,h1,G⟩:=N.rd;have I:=G.length;cases ds with
  |nil=>cases(show ws=[]from UD.mp (by rw[I];rfl));exact⟨a,[],[],rfl,.inl h1,.inr ⟨rfl,λi v k e=>by simp at e⟩,λ_=>fl (d:=.bn) (m:=λ_=>False) rfl rfl q1,λv e=>by simp at e⟩
  |cons O P=>
   dsimp only at q1;have o:ws≠[]:=λz=>by rw[z]at I;cases I
   cases J:dH (O::P)with
   |some ks=>
    rw[J]at q1;dsimp only at q1;obtain⟨K,y⟩:=zX G J;have s:ks≠[]:=λz=>o (UD.mp (by rw[<- K,z];rfl));refine⟨a,ws,ks,rfl,.inl h1,.inl ⟨K,λi v k l ek=>?_⟩,λz=>(o z).elim,λv l=>?_⟩
    .obtain⟨⟨b,rfl,c⟩,_⟩:=y i v k l ek;exact⟨b,rfl,SqT.of c⟩
    .have c:=tL s;rw[K]at c;exact fl (d:=iV (rX ks)) (oP _) (y _ _ _ l c).2 q1
   |none=>
    rw[J]at q1;dsimp only at q1;cases L:fG (O::P)with
    |none=>rw[L]at q1;exact q1.elim
    |some ns=>
     rw[L]at q1;dsimp only at q1;have ew:ws=ns.map V.int:=by rw[G.ints L];unfold iK;rw[T7];rfl
     subst ew;have s:(ns.map λn=>[n])≠[]:=λz=>o (by cases ns with|nil=>rfl|cons _ _=>cases z);refine⟨a,_,ns.map λn=>[n],rfl,.inl h1,.inr ⟨by simp,λi v k e1 e2=>?_⟩,λz=>(o z).elim,λv l=>?_⟩
     .rw[T3]at e1 e2;cases h:ns[i]? with
      |none=>rw[h]at e1;cases e1
      |some n=>rw[h]at e1 e2;cases e1;cases e2;exact⟨n,rfl,rfl⟩
     .have c:=tL s;rw[TN]at c l;rw[T3]at c l;cases h:ns[argBest (vi (ns.map λn=>[n])) (ns.length-1)]? with
      |none=>rw[h]at l;cases l
      |some n=>rw[h]at c l;cases l;injection c with c;rw[<- c]at q1;exact fl (d:=.int n) (m:=λ_=>False) rfl rfl q1
 |_=>rw[q]at q1;exact q1.elim
end
end L3
namespace L2
open PySem PySem.Spec PySem.Calls PyProof.Rows
section
variable{X:Cx}{aa:List (Addr×Obj)}{σ:St}{H:Hp}{s:Xt}{a:Addr}{y:V}{u:Xw}{o:Option V}{A:Xx}{E:Xw->Xt->Prop}
def G9(d:A.units+1<cLine)(I:Inv X aa σ H s)(g:oB H a y o)(c:RelV y u)(h:∀f i,Inv X aa σ H i->RelV (o.getD .bn) f->Q f i):wpAny (model X.prog X.w) A (call (.builtin "dict.get") [.ref a,u]) Q E s:=by
 rcases g with g|⟨e,⟨k,rfl⟩,rfl⟩|⟨e,⟨b,k,rfl,j⟩,rfl⟩
 .exact Cz d I g c h
 .obtain⟨y,dd⟩:=nE (e.ok I.aS);exact Vk Uo dd.typeIs UU (VT _ _) (meets_dict_get (aF X.prog X.w) a (jH c) y) ⟨_,dd.mapOf,h _ _ (I.tok _) rfl⟩
 .obtain rfl:u=Value.ref b:=c;obtain⟨y,dd⟩:=xV (e.ok I.aS);exact Vk Uo dd.typeIs UU (VT _ _) (meetsH_dict_get (tupleKind (aF X.prog X.w)) a b y) ⟨U7 d,k,[],eV I.aS j,dd,h _ _ (I.tok _) rfl⟩
end
def G_(td ty:TE):TE:=λσ H Q=>td σ H λx b=>∃a,x=.ref a/\Ij b a/\ty σ b λy c=>∃o,oB c a y o/\Q (o.getD .bn) c
def BJ(f:X.A.units+1<cLine)(i:PE X o td)(j:PE X e ty)(m:M1 X o "get" apos e cpos):PE X (.Call (.Attribute o "get" apos) [e] [] cpos) (G_ td ty):=by intro aa s σ H Q I h;refine Wa m.base m.m_ m.line T9 Uo V4 (bR (i aa s σ H _ I h) λu s1 ⟨x,k,c,l,a,ex,d,q1⟩=>?_);subst ex;obtain rfl:u=Value.ref a:=l;obtain⟨n,p,_⟩:=nC c d;refine⟨n,p,?_⟩;rw[m.trees];exact UE rfl (Vr (U2 (bR (j aa s1 σ k _ c q1) λw s2 ⟨y,q,r,t,z,g,q2⟩=>Vz (G9 f r g t λB C v b=>⟨_,q,v,b,q2⟩))))
end L2
namespace L3
open PySem PySem.Spec PyProof.Rows L2
def QY(ra:R)(ks:List DK)(ds:List D)(rk:R):Res R:=match ga rk.d with
 |some x=>if ks.all (lT x)then(match getD ks ds x with
  |some d=>.ok (jJ d ra.fr ra.al)
  |none=>.ok (.val .bn true []))else .stuck
 |none=>.stuck
def OU(fk:En->Res R)(env:En)(ra:R):Res R:=match ra.d with
 |.cU ks ds=>(fk env).bind (QY ra ks ds)
 |_=>.stuck
def zZ(fa fk:En->Res R):En->Res R:=λenv=>(fa env).bind (OU fk env)
section
variable{X:Cx}{E:XK}
def Hb(D:X.A.units+64<cLine)(u:PD X E o fa)(w:PD X E k fk)(m:M1 X o "get" apos k cpos):PD X E (.Call (.Attribute o "get" apos) [k] [] cpos) (zZ fa fk):=by
 obtain⟨ta,p1,s1⟩:=u;obtain⟨tk,p2,s2⟩:=w;refine⟨_,BJ (by lia) p1 p2 m,λg M F env σ H Q j p=>s1.fL j p λra v M1 G e1 c q q1=>?_⟩;unfold OU at q1;cases r:ra.d with
 |cU ks ds=>
  rw[r]at q1 q;dsimp only at q1;obtain⟨a,vs,rfl,⟨f,ma⟩,i⟩:=q;refine⟨a,rfl,f.SQ,s2.fL c q1 λrk y M2 x e2 b z q2=>?_⟩;unfold QY at q2;cases l:ga rk.d with
  |none=>rw[l]at q2;exact q2.elim
  |some s=>
   rw[l]at q2;dsimp only at q2;by_cases n:ks.all (lT s)=true
   .rw[Tv n]at q2;obtain⟨B,g1,g2⟩:=wl (f.keep λo e=>e2.h _ _ e) (i.ext e2) z l n;refine⟨B,g1,?_⟩;cases t:getD ks ds s with
    |some d=>rw[t]at q2 g2;obtain⟨v,rfl,C⟩:=g2;exact q2.val b C
    |none=>rw[t]at q2 g2;cases g2;exact q2 _ M2 x (Ext.refl _ _) b rfl
   .rw[TJ n]at q2;exact q2.elim
 |_=>rw[r]at q1;exact q1.elim
end
end L3
namespace L2
open PySem PySem.Spec PySem.Calls PyProof.Rows
abbrev Ts:=List (List bm×Addr×Xw)
end L2
namespace L3
open PySem L2
section
variable{env bQ:En}{i j:Nat}{d:D}{ds es:List D}{f g:Bool}{al bl:List Nat}{x y:Int}
noncomputable def kS(k:En->Res Fl):Fl->Res Fl
 |.nx bQ=>k bQ
 |r=>.ok r
def OV(f k:En->Res Fl)(env:En):bB f k env=(f env).bind (kS k):=by rfl
def R0(k:En->Res Fl)(e:En):kS k (.nx e)=k e:=(rfl)
def R3(k:En->Res Fl)(r:R):kS k (.rt r)=.ok (.rt r):=(rfl)
noncomputable def R4(a b:En->Res Fl)(env:En)(k:Bool):Res Fl:=if k then a env else b env
def R5(c:En->Res Bool)(a b:En->Res Fl)(env:En):Fo c a b env=(c env).bind (R4 a b env):=(rfl)
def OW(a b:En->Res Fl)(env:En):R4 a b env true=a env:=(rfl)
def OX(a b:En->Res Fl)(env:En):R4 a b env false=b env:=(rfl)
def OY(env:En):rQ env=.ok (.nx env):=(rfl)
def OZ(r:R):Res Fl:=.ok (.rt r)
def O0(a:En->Res R)(env:En):gG a env=(a env).bind OZ:=(rfl)
def Lj(r:R):OZ r=.ok (.rt r):=(rfl)
def O1(i:Nat)(env:En)(r:R):Res Fl:=if i<env.length then .ok (.nx (put env i r))else .stuck
def O2(i:Nat)(a:En->Res R)(env:En):cX i a env=(a env).bind (O1 i env):=(rfl)
def Ll(r:R)(h:i<env.length):O1 i env r=.ok (.nx (put env i r)):=Tv h
def Lm:put env i (.val d f [])=env.set i (some (.val d f)):=(rfl)
def Ln:put env i (.new ds f)=env.set i (some (.own ds f)):=(rfl)
def Lo:put env i (.g8 d)=env.set i (some (.g9 d)):=(rfl)
def nY(i:Nat):Option (Option Sl)->Res R
 |some (some (.val d fr))=>.ok (jJ d fr [])
 |some (some (.own ds fr))=>.ok (.val (.lst ds) fr [i])
 |some (some (.g9 d))=>.ok (.val d true [i])
 |_=>.stuck
def O3(i:Nat)(env:En):ao i env=nY i env[i]?:=by unfold ao nY;rfl
def O4:nY i (some (some (.val d f)))=.ok (jJ d f []):=(rfl)
def O5:nY i (some (some (.own ds f)))=.ok (.val (.lst ds) f [i]):=(rfl)
def O6:nY i (some (some (.g9 d)))=.ok (.val d true [i]):=(rfl)
def Tn(d:D)(env:En):vC d env=.ok (.val d true []):=(rfl)
def yL(h:d.flat=true):jJ d f al=.val d true []:=by unfold jJ;rw[Tv h]
def qT(h:d.flat=false):jJ d f al=.val d f al:=by unfold jJ;rw[TJ (by rw[h];simp)]
def iG(h:D.bw ds=true):oE ds f al=.new ds true:=by unfold oE;rw[Tv h]
def Hd:oE ds true []=.new ds true:=by unfold oE;split<;>rfl
def SL(op:R->R->Res R)(a:En->Res R)(env:En)(ra:R):Res R:=(a env).bind (op ra)
def R7(op:R->R->Res R)(fa a:En->Res R)(env:En):v2 op fa a env=(fa env).bind (SL op a env):=(rfl)
def O7(op:R->R->Res R)(a:En->Res R)(env:En)(ra:R):SL op a env ra=(a env).bind (op ra):=(rfl)
def O8:fE (.val (.int x) f al) (.val (.int y) g bl)=.ok (.val (.int (x+y)) true []):=(rfl)
def Lp(h1:-18446744073709551616<y)(a:y<18446744073709551616):qo (.val (.int x) f al) (.val (.int y) g bl)=.ok (.val (.int (x*y)) true []):=by
 have:A1 x y=true:=by unfold A1;rw[Bool.or_eq_true,Um,Um];exact .inr ⟨T4 (by lia),T4 (by lia)⟩
 show(if A1 x y=true then _ else _)=_;rw[Tv this]
def O9(h:0<y):dF (.val (.int x) f al) (.val (.int y) g bl)=.ok (.val (.int (x%y)) true []):=by show(if decide (0<y)=true then _ else _)=_;rw[Tv (T4 h)]
def O_(h:0<y)(a:y<1073741824):nJ (.val (.int x) f al) (.val (.int y) g bl)=.ok (.val (.int (x/y)) true []):=by show(if(decide (0<y)&&decide (y<1073741824))=true then _ else _)=_;rw[Tv (by rw[T4 h,T4 a];rfl)]
def R8:QQ (.val (.int x) f al) (.val (.int y) g bl)=.ok (.val (.bl (decide (x<y))) true []):=(rfl)
def R9:Rr (.val (.int x) f al) (.val (.int y) g bl)=.ok (.val (.bl (decide (y<x))) true []):=(rfl)
def R_:Rt (.val (.int x) f al) (.val (.int y) g bl)=.ok (.val (.bl (decide (y<=x))) true []):=(rfl)
def rY(h:a.d.dep<=50)(c:b.d.dep<=50):B7 a b=.ok (.val (.bl (gE a.d b.d)) true []):=by unfold B7;rw[Tv ⟨h,c⟩]
def Lq(h:a.d.dep<=50)(c:b.d.dep<=50):Fm a b=.ok (.val (.bl (!gE a.d b.d)) true []):=by unfold Fm;rw[Tv ⟨h,c⟩]
def Pa:gE (.int x) (.int y)=(x==y):=(rfl)
def Pb(xs a:List D)(f:Bool)(al:List Nat):Res R:=if xs.length+a.length<=lim then .ok (oE (xs++a) f al)else .stuck
def He:fE (.new ds f) (.new es g)=Pb ds es (f&&g) []:=(rfl)
def Lr(h:ds.length+es.length<=1000000):Pb ds es f al=.ok (oE (ds++es) f al):=Tv h
def IL(fs:En->Res (List R))(env:En)(r:R):Res (List R):=(fs env).bind (λrs=>.ok (r::rs))
def El(r:R)(rs:List R):Res (List R):=.ok (r::rs)
def Ls(env:En):aV env=.ok []:=(rfl)
def Hf(a:En->Res R)(fs:En->Res (List R))(env:En):aj a fs env=(a env).bind (IL fs env):=(rfl)
def Hg(fs:En->Res (List R))(env:En)(r:R):IL fs env r=(fs env).bind (El r):=(rfl)
def Em(r:R)(rs:List R):El r rs=.ok (r::rs):=(rfl)
def Pc(rs:List R):Res R:=if rs.length<=lim then .ok (jJ (.tup (rs.map R.d)) (bM rs) (cn rs))else .stuck
def Pd(fs:En->Res (List R))(env:En):iB fs env=(fs env).bind Pc:=(rfl)
def Lu(rs:List R)(h:rs.length<=1000000):Pc rs=.ok (jJ (.tup (rs.map R.d)) (bM rs) (cn rs)):=Tv h
def Pe(rs:List R):Res R:=if rs.length<=lim then .ok (oE (rs.map R.d) (bM rs) (cn rs))else .stuck
def Pf(fs:En->Res (List R))(env:En):lj fs env=(fs env).bind Pe:=(rfl)
def Lx(rs:List R)(h:rs.length<=1000000):Pe rs=.ok (oE (rs.map R.d) (bM rs) (cn rs)):=Tv h
def Eo:bM []=true:=(rfl)
def BK(r:R)(rs:List R):bM (r::rs)=(r.fr&&bM rs):=(rfl)
def Ep:cn []=[]:=(rfl)
def BL(r:R)(rs:List R):cn (r::rs)=r.al++cn rs:=(rfl)
def IM(F:List D->Res R)(rs:List R):Res R:=(F (rs.map R.d)).bind (λr=>.ok (iS rs r))
def Er(rs:List R)(r:R):Res R:=.ok (iS rs r)
def Ly(F:List D->Res R)(fs:En->Res (List R))(env:En):b9 F fs env=(fs env).bind (IM F):=(rfl)
def Hh(F:List D->Res R)(rs:List R):IM F rs=(F (rs.map R.d)).bind (Er rs):=(rfl)
def Es(rs:List R)(r:R):Er rs r=.ok (iS rs r):=(rfl)
def Et(rs:List R)(h:d.flat=true):iS rs (.val d f al)=.val d true []:=Tv h
def qU(rs:List R)(h:d.flat=false):iS rs (.val d true al)=.g8 d:=by show Iy d true rs=_;unfold Iy;rw[TJ (by rw[h];simp),Tv rfl]
def tM(rs:List R)(h:D.bw ds=false):iS rs (.new ds true)=.g8 (.lst ds):=by show(if D.bw ds=true then _ else _)=_;rw[TJ (by rw[h];simp),Tv rfl]
def Sa(k:List R->Res R)(fs:En->Res (List R))(env:En):qp k fs env=(fs env).bind k:=(rfl)
def Lz:D->Res R
 |.lst ds=>.ok (.val (.int ds.length) true [])
 |.tup ds=>.ok (.val (.int ds.length) true [])
 |.str z=>if z.length<=lim then .ok (.val (.int z.length) true [])else .stuck
 |_=>.stuck
def Pg(r:R):Dm [r]=Lz r.d:=by unfold Dm Lz;rfl
def LA:Lz (.lst ds)=.ok (.val (.int ds.length) true []):=(rfl)
def Eu(f:Bool)(al:List Nat):D->Res R
 |.lst ds=>.ok (oE ds f al)
 |.tup ds=>.ok (oE ds f al)
 |_=>.stuck
def LB(r:R):oG [r]=Eu r.fr r.al r.d:=by unfold oG Eu;rfl
def Hi:Eu f al (.lst ds)=.ok (oE ds f al):=(rfl)
def kB(ra:R):Res Bool:=match ra.d with
 |.bl b=>.ok b
 |_=>.stuck
def Sb(a:En->Res R)(env:En):vB a env=(a env).bind kB:=(rfl)
def Se(b:Bool):kB (.val (.bl b) f al)=.ok b:=(rfl)
def Ph(ra:R):Res Bool:=Iu ra.d
def LC(a:En->Res R)(env:En):Kv a env=(a env).bind Ph:=(rfl)
def LD(b:Bool):Ph (.val (.bl b) f al)=.ok b:=(rfl)
noncomputable def IN(b:Bool):Res Bool:=.ok (!b)
def LF(a:En->Res Bool)(env:En):Kx a env=(a env).bind IN:=(rfl)
def Hj(b:Bool):IN b=.ok (!b):=(rfl)
noncomputable def Ew(b:En->Res Bool)(env:En)(k:Bool):Res Bool:=if k then b env else .ok false
noncomputable def LG(b:En->Res Bool)(env:En)(k:Bool):Res Bool:=if k then .ok true else b env
def LH(a b:En->Res Bool)(env:En):Ky a b env=(a env).bind (Ew b env):=(rfl)
def Pi(a b:En->Res Bool)(env:En):QR a b env=(a env).bind (LG b env):=(rfl)
def LI(b:En->Res Bool)(env:En):Ew b env true=b env:=(rfl)
def LJ(b:En->Res Bool)(env:En):Ew b env false=.ok false:=(rfl)
def Pj(b:En->Res Bool)(env:En):LG b env true=.ok true:=(rfl)
def Pk(b:En->Res Bool)(env:En):LG b env false=b env:=(rfl)
def IQ(b:En->Res R)(env:En)(ra:R):Res R:=match ra.d with
 |.bl true=>b env
 |.bl false=>.ok (.val (.bl false) true [])
 |_=>.stuck
def LK(a b:En->Res R)(env:En):A2 a b env=(a env).bind (IQ b env):=(rfl)
def Hk(b:En->Res R)(env:En):IQ b env (.val (.bl true) f al)=b env:=(rfl)
def IR(ra:R):Res R:=match ra.d with
 |.bl b=>.ok (.val (.bl (!b)) true [])
 |_=>.stuck
def LL(a:En->Res R)(env:En):Gn a env=(a env).bind IR:=(rfl)
def LM(b:Bool):IR (.val (.bl b) f al)=.ok (.val (.bl (!b)) true []):=(rfl)
def Fq(f:Bool)(al:List Nat):Option D->Res R
 |some d=>.ok (jJ d f al)
 |none=>.stuck
def uP(a b:D)(f:Bool)(al:List Nat):Res R:=match a,b with
 |.lst xs,.int i=>Fq f al (fP xs i)
 |.tup xs,.int i=>Fq f al (fP xs i)
 |.str z,.int i=>if z.length<=lim then(match fP z.cps.toList i with
  |some c=>.ok (.val (.str ⟨#[c]⟩) true [])
  |none=>.stuck)else .stuck
 |_,_=>.stuck
def Sf(a b:R):Di a b=uP a.d b.d a.fr a.al:=by unfold Di uP Fq;rfl
def Pl:uP (.lst ds) (.int k) f al=Fq f al (fP ds k):=(rfl)
def Pn:uP (.tup ds) (.int k) f al=Fq f al (fP ds k):=(rfl)
def Po:Fq f al (some d)=.ok (jJ d f al):=(rfl)
def Hl(ds:List D)(fr:Bool)(a:R):Res R:=match a.d with
 |.int k=>match fP ds k with
  |some d=>.ok (jJ d fr [])
  |none=>.stuck
 |_=>.stuck
def Hm(i:Nat)(a:En->Res R)(env:En):Option (Option Sl)->Res R
 |some (some (.own ds fr))=>(a env).bind (Hl ds fr)
 |_=>v2 Di (ao i) a env
def Pp(i:Nat)(a:En->Res R)(env:En):bI i a env=Hm i a env env[i]?:=by unfold bI Hm;rfl
def LN(a:En->Res R):Hm i a env (some (some (.own ds f)))=(a env).bind (Hl ds f):=(rfl)
def LO(a:En->Res R):Hm i a env (some (some (.val d f)))=v2 Di (ao i) a env:=(rfl)
def LP:Hl ds f (.val (.int k) g al)=Fq f [] (fP ds k):=by unfold Hl Fq;rfl
def cF{α:Type}(a:α)(l:List α):fP (a::l) 0=some a:=by unfold fP B6;rw[Tv (by lia),Tv (by simp)];rfl
def To{α:Type}(a b:α)(l:List α):fP (a::b::l) 1=some b:=by unfold fP B6;rw[Tv (by lia),Tv (by simp;lia)];rfl
def Tp{α:Type}(a b c:α)(l:List α):fP (a::b::c::l) 2=some c:=by unfold fP B6;rw[Tv (by lia),Tv (by simp;lia)];rfl
def Pq(fl a:En->Res (Option Int))(env:En)(r:R):Res R:=(fl env).bind λlo=>(a env).bind λb=>uv r lo b
def Ps(a:En->Res (Option Int))(env:En)(r:R)(lo:Option Int):Res R:=(a env).bind λb=>uv r lo b
def Ho(fa:En->Res R)(fl a:En->Res (Option Int))(env:En):qB fa fl a env=(fa env).bind (Pq fl a env):=(rfl)
def LQ(fl a:En->Res (Option Int))(env:En)(r:R):Pq fl a env r=(fl env).bind (Ps a env r):=(rfl)
def LR(a:En->Res (Option Int))(env:En)(r:R)(lo:Option Int):Ps a env r lo=(a env).bind (uv r lo):=(rfl)
def kO(r:R):Res (Option Int):=match r.d with
 |.int i=>.ok (some i)
 |_=>.stuck
def Hq(env:En):Dt env=.ok none:=(rfl)
def Hr(a:En->Res R)(env:En):qA a env=(a env).bind kO:=(rfl)
def Sg:kO (.val (.int x) f al)=.ok (some x):=(rfl)
def LS(f:Bool)(al:List Nat)(lo a:Option Int):D->Res R
 |.lst xs=>.ok (oE (dG xs lo a) f al)
 |.tup xs=>.ok (jJ (.tup (dG xs lo a)) f al)
 |_=>.stuck
def Pt(r:R)(lo a:Option Int):uv r lo a=LS r.fr r.al lo a r.d:=by unfold uv LS;rfl
def LU(lo a:Option Int):LS f al lo a (.lst ds)=.ok (oE (dG ds lo a) f al):=(rfl)
def Pu(T:String)(r:R):Res R:=.ok (.val (.bl (Nl T r.d)) true [])
def Pw(T:String)(a:En->Res R)(env:En):GA T a env=(a env).bind (Pu T):=(rfl)
def LV(T:String)(r:R):Pu T r=.ok (.val (.bl (Nl T r.d)) true []):=(rfl)
def LW:Nl "int" (.int x)=true:=(rfl)
def LX:Nl "bool" (.int x)=false:=(rfl)
def Px(asg:D->Bool->En->Option En)(body:En->Res Fl)(env:En)(s:Src):Res Fl:=j7 asg s.fr body s.xs (aZ env s.al)
def Py(a:En->Res Src)(asg:D->Bool->En->Option En)(body:En->Res Fl)(env:En):ut a asg body env=(a env).bind (Px asg body env):=(rfl)
def LY(asg:D->Bool->En->Option En)(body:En->Res Fl)(env:En)(xs:List D):Px asg body env ⟨xs,f,al⟩=j7 asg f body xs (aZ env al):=(rfl)
def LZ(r:R):Res Src:=match r.d with
 |.lst ds=>.ok ⟨ds,r.fr,r.al⟩
 |.tup ds=>.ok ⟨ds,r.fr,r.al⟩
 |_=>.stuck
def Ex(a:En->Res R)(env:En):iU a env=(a env).bind LZ:=(rfl)
def Ey:LZ (.val (.lst ds) f al)=.ok ⟨ds,f,al⟩:=(rfl)
def Hu:LZ (.new ds f)=.ok ⟨ds,f,[]⟩:=(rfl)
def SM(rs:List R):Res Src:=match rs.map R.d with
 |[.int j]=>if cR j then .ok ⟨fW 0 j.toNat,true,[]⟩else .stuck
 |_=>.stuck
def PB(fs:En->Res (List R))(env:En):N9 fs env=(fs env).bind SM:=(rfl)
def PF(h1:-4611686018427387904<=x)(a:x<4611686018427387904):cR x=true:=by unfold cR;rw[Um];exact⟨T4 (by lia),T4 (by lia)⟩
def z4(h1:-4611686018427387904<=x)(a:x<4611686018427387904):SM [.val (.int x) f al]=.ok ⟨fW 0 x.toNat,true,[]⟩:=Tv (PF h1 a)
def L0:aZ env []=env:=(rfl)
def Hv(h:i<env.length):gN i d f env=some (env.set i (some (.val d f))):=Tv h
def lE(n:Nat)(caps:List Nat)(asg:D->Bool->En->Option En)(test:En->Res Bool)(elt:En->Res R)(env:En)(s:Src):Res R:=if s.xs.length<=lim then
 (gH (λd=>asg d s.fr (gY env n caps)) test elt s.xs).SO.bind λrs=>.ok (oE (rs.map R.d) (bM rs) (s.al++caps.filter (hJ env)))else .stuck
def lX(n:Nat)(caps:List Nat)(a:En->Res Src)(asg:D->Bool->En->Option En)(test:En->Res Bool)(elt:En->Res R)(env:En) :
 dv n caps a asg test elt env=(a env).bind (lE n caps asg test elt env):=(rfl)
def gc(a:xs.length<=1000000)
 (h:gH (λd=>asg d f (gY env n caps)) test elt xs=.ok rs):lE n caps asg test elt env ⟨xs,f,al⟩=.ok (oE (rs.map R.d) (bM rs) (al++caps.filter (hJ env))):=by
 unfold lE;dsimp only;rw[Tv (show xs.length<=lim from a),h];rfl
theorem i7{α:Type}{mk:D->Option En}{test:En->Res Bool}{elt:En->Res R}(g:α->D)(k:α->R):∀(xs:List α),(∀a∈xs,∃e,mk (g a)=some e/\test e=.ok true/\elt e=.ok (k a))->gH mk test elt (xs.map g)=.ok (xs.map k)
 |[],_=>rfl
 |a::r,h=>by obtain⟨e,h1,c,l⟩:=h a (by simp);rw[Tw,Tw];unfold gH;rw[h1];dsimp only;rw[c];dsimp only[Res.bind];rw[Tv rfl,l,i7 g k r λb m=>h b (by simp[m])]
theorem cN{α:Type}{mk:D->Option En}{test:En->Res Bool}{elt:En->Res R}(g:α->D)(p:α->Bool)(k:α->R):∀(xs:List α),(∀a∈xs,∃e,mk (g a)=some e/\test e=.ok (p a)/\(p a=true->elt e=.ok (k a)))->gH mk test elt (xs.map g)=.ok ((xs.filter p).map k)
 |[],_=>rfl
 |a::r,h=>by
  obtain⟨e,h1,m,n⟩:=h a (by simp);rw[Tw];unfold gH;rw[h1];dsimp only;rw[m];dsimp only[Res.bind];have l:=cN g p k r λb o=>h b (by simp[o]);cases c:p a with
  |true=>rw[Tv rfl,n c,VY,Tv c,l];rfl
  |false=>rw[TJ (by simp),VY,TJ (by rw[c];simp),l]
def Ez(i:Nat)(env:En)(ds:List D)(fr:Bool)(r:R):Res Fl:=if ds.length<lim/\¬i∈r.al then .ok (.nx ((aZ env r.al).set i (some (.own (ds++[r.d]) (fr&&r.fr)))))else .stuck
def EA(i:Nat)(a:En->Res R)(env:En):Option (Option Sl)->Res Fl
 |some (some (.own ds fr))=>(a env).bind (Ez i env ds fr)
 |some (some (.g9 (.lst ds)))=>(a env).bind (Ez i env ds true)
 |_=>.stuck
def PH(a:En->Res R)(env:En):A4 i a env=EA i a env env[i]?:=by
 unfold A4 qw EA;cases env[i]? with
 |none=>rfl
 |some o=>cases o with
  |none=>rfl
  |some s=>cases s with
   |g9 d=>cases d<;>rfl
   |_=>rfl
def L1(a:En->Res R):EA i a env (some (some (.own ds f)))=(a env).bind (Ez i env ds f):=(rfl)
def EB(h:ds.length<1000000)(a:r.al=[]):Ez i env ds f r=.ok (.nx (env.set i (some (.own (ds++[r.d]) (f&&r.fr))))):=by unfold Ez;rw[a];rw[Tv ⟨h,by simp⟩];rfl
end
def qV(x:Int):(D.int x).flat=true:=(rfl)
def Hw(x:Bool):(D.bl x).flat=true:=(rfl)
def EC:D.bn.flat=true:=(rfl)
def wQ(ds:List D):(D.tup ds).flat=D.bw ds:=(rfl)
def mK(ds:List D):(D.lst ds).flat=false:=(rfl)
def tO:D.bw []=true:=(rfl)
def jk(d:D)(ds:List D):D.bw (d::ds)=(d.flat&&D.bw ds):=(rfl)
def mL(x:Int):(D.int x).dep=0:=(rfl)
def L5(x:Bool):(D.bl x).dep=0:=(rfl)
def mM(ds:List D):(D.tup ds).dep=D.gZ ds+1:=(rfl)
def k_(ds:List D):(D.lst ds).dep=D.gZ ds+1:=(rfl)
def gM:D.gZ []=0:=(rfl)
def eY(d:D)(ds:List D):D.gZ (d::ds)=max d.dep (D.gZ ds):=(rfl)
def L6(r:R):Ds (.ok (.rt r))=.ok r:=(rfl)
def L7(e:En):Ds (.ok (.nx e))=.ok (.val .bn true []):=(rfl)
def lb(d:D)(f:Bool)(al:List Nat):(R.val d f al).d=d:=(rfl)
def mN(ds:List D)(f:Bool):(R.new ds f).d=.lst ds:=(rfl)
def Hx(d:D):(R.g8 d).d=d:=(rfl)
def ED(d:D)(f:Bool)(al:List Nat):(R.val d f al).fr=f:=(rfl)
def EE(ds:List D)(f:Bool):(R.new ds f).fr=f:=(rfl)
def EF(d:D):(R.g8 d).fr=true:=(rfl)
def EG(d:D)(f:Bool)(al:List Nat):(R.val d f al).al=al:=(rfl)
def EH(ds:List D)(f:Bool):(R.new ds f).al=[]:=(rfl)
def EI(d:D):(R.g8 d).al=[]:=(rfl)
def qW{α b:Type}(a:α)(k:α->Res b):(Res.ok a).bind k=k a:=(rfl)
def PJ:D->Res R
 |.lst ds=>match gI ds with
  |some bs=>.ok (.val (.bl (bs.all id)) true [])
  |none=>.stuck
 |_=>.stuck
def PN(r:R):GB [r]=PJ r.d:=by rcases r with⟨d,f,al⟩|⟨ds,f⟩|⟨d⟩<;>first|rfl|(cases d<;>rfl)
def BM{α:Type}(xs:List α):PJ (.lst (xs.map λ_=>D.bl true))=.ok (.val (.bl true) true []):=by
 have:∀xs:List α,gI (xs.map λ_=>D.bl true)=some (xs.map λ_=>true):=by
  intro xs;induction xs with
  |nil=>rfl
  |cons a r b=>rw[Tw];unfold gI;rw[b];rfl
 show(match gI (xs.map λ_=>D.bl true)with|some bs=>Res.ok (R.val (D.bl (bs.all id)) true [])|none=>Res.stuck)=_;rw[this];dsimp only;congr 3;rw[UK];intro x c;obtain⟨_,_,rfl⟩:=TV.mp c;rfl
noncomputable def Si:D->Res R
 |.int i=>.ok (.val (.int (-i)) true [])
 |_=>.stuck
def PP(r:R):Res R:=Si r.d
def PQ(fa:En->Res R)(env:En):Dy fa env=(fa env).bind PP:=by unfold Dy;congr 1
def L8:PP (.val (.int x) f al)=.ok (.val (.int (-x)) true []):=(rfl)
def EJ(asg:D->Bool->En->Option En)(env:En)(r:R):Res Fl:=match asg r.d r.fr (aZ env r.al)with
 |some a=>.ok (.nx a)
 |none=>.stuck
def PR(f:En->Res R)(asg:D->Bool->En->Option En)(env:En):qx f asg env=(f env).bind (EJ asg env):=(rfl)
def EK(h:asg r.d r.fr (aZ env r.al)=some bQ):EJ asg env r=.ok (.nx bQ):=by unfold EJ;rw[h]
def z5{α:Type}(l:List α)(a:α):fP (l++[a]) (-1)=some a:=by
 unfold fP B6;rw[TJ (by lia),Tv (by simp;lia)];have:((-1:Int)+((l++[a]).length:Nat)).toNat=l.length:=by simp;lia
 show(l++[a])[((-1:Int)+((l++[a]).length:Nat)).toNat]?=some a;rw[this];simp
def PU(r:R):Res Bool:=.ok r.d.kR
def L9(a:En->Res R)(env:En):DA a env=(a env).bind PU:=(rfl)
def L_(r:R):PU r=.ok r.d.kR:=(rfl)
def Hy:D.bn.kR=true:=(rfl)
def Hz(x:Int):(D.int x).kR=false:=(rfl)
def HA(x:List D):(D.tup x).kR=false:=(rfl)
def BN(neg:Bool)(a b:D):Res R:=match b with
 |.cU ks _=>DC neg a ks
 |.lst ds=>Nm neg a ds
 |.tup ds=>Nm neg a ds
 |_=>.stuck
def PX(neg:Bool)(a b:R):DD neg a b=BN neg a.d b.d:=by unfold DD Be BN;cases b.d<;>rfl
def Sj(a b:R):Bf a b=BN false a.d b.d:=PX false a b
def PY(h:D.gZ ds<=50)(b:a.dep<=50):BN neg a (.lst ds)=.ok (.val (.bl (if neg then !(ds.any λe=>gE e a)else ds.any λe=>gE e a)) true []):=Tv ⟨h,b⟩
def kz(ks:List DK)(ds:List D):(D.cU ks ds).flat=false:=(rfl)
def putAt(i:Nat)(fk a:En->Res R)(env:En):Option (Option Sl)->Res Fl
 |some (some (.g9 (.cU ks ds)))=>(a env).bind (wg i fk env ks ds)
 |_=>.stuck
def Mb(i:Nat)(fk a:En->Res R)(env:En):tp i fk a env=putAt i fk a env env[i]?:=by unfold tp putAt;rfl
def uQ(h:r.d.flat=true):wg i fk env ks ds r=(fk env).bind (tj i env ks ds r.d):=Tv h
def z9(h:ga k.d=some x)(a:ks.all (lT x)=true)(b:ks.length<1000000):tj i env ks ds d k=.ok (.nx (env.set i (some (.g9 (ke ks ds x d))))):=by unfold tj;rw[h];exact Tv ⟨a,b⟩
def BO(h:d.flat=false):iS rs (.g8 d)=.g8 d:=by show Iy d true rs=_;unfold Iy;rw[TJ (by rw[h];simp),Tv rfl]
def nZ(fa fk fx:En->Res R)(env:En):mC fa fk fx env=(fa env).bind (Oh fk fx env):=(rfl)
def IS(h:ra.d=.cU ks ds):Oh fk fx env ra=(fk env).bind (Rz fx env ra ks ds):=by unfold Oh;rw[h]
def EL(fx:En->Res R)(env:En)(ra:R)(ks:List DK)(ds:List D)(rk:R):Rz fx env ra ks ds rk=(fx env).bind (KQ ra ks ds rk):=(rfl)
def PZ(h:0<=y):KO (.val (.int x) f al) (.val (.int y) g bl)=.ok (.val (.int (x/2^y.toNat)) true []):=by show(if decide (0<=y)=true then _ else _)=_;rw[Tv (T4 h)]
def Md:DH (.val (.int x) f al) (.val (.int y) g bl)=.ok (.val (.int (Builtin.bitAnd x y)) true []):=(rfl)
def Sk(f:En->Res R)(env:En):RA f env=(f env).bind IA:=(rfl)
theorem lc:∀k:List Int,fG (k.map .int)=some k
 |[]=>rfl
 |a::r=>by rw[Tw];unfold fG;rw[lc r];rfl
theorem lg:∀ks:List (List Int),dH (ks.map iV)=some ks
 |[]=>rfl
 |k::r=>by rw[Tw];unfold dH;rw[lg r,show GG (iV k)=some k from lc k]
def P3(f:En->Res R)(env:En):KR f env=(f env).bind DQ:=(rfl)
def Me(a:r.d=.lst (is.map .int))(h:is.length<=63):DQ r=.ok (.new ((iX is).map .int) true):=by unfold DQ;rw[a];dsimp only;rw[lc];dsimp only;rw[Tv h]
def IT(i:Nat)(env:En)(r:R):Res Fl:=if i<env.length then .ok (.nx ((aZ env r.al).set i (some (.val r.d r.fr))))else .stuck
def Mg(i:Nat)(a:En->Res R)(env:En):kg i a env=(a env).bind (IT i env):=(rfl)
def HB(h:i<env.length):IT i env r=.ok (.nx ((aZ env r.al).set i (some (.val r.d r.fr)))):=Tv h
def EM(a:0<=j)(h1:j<=1000):ph [.val (.int j) f al]=.ok (.new (fW 0 j.toNat) true):=Tv ⟨a,h1⟩
def P7(a b:En->Res R)(env:En)(c:R):Res R:=(a env).bind λd=>(b env).bind λe=>yp c d e
def P8(a:En->Res R)(env:En)(b c:R):Res R:=(a env).bind (yp b c)
def Sm(a b c:En->Res R)(env:En):RB a b c env=(a env).bind (P7 b c env):=(rfl)
def Mh(a b:En->Res R)(env:En)(c:R):P7 a b env c=(a env).bind (P8 b env c):=(rfl)
def Mi(a:En->Res R)(env:En)(b c:R):P8 a env b c=(a env).bind (yp b c):=(rfl)
def Mj{a b:List D}{g1 g2:Bool}(c:r0.d.flat=true)(h1:D.bw a=true)(e:D.bw b=true):yp r0 (.new a g1) (.new b g2)=.ok (.g8 (.tup [r0.d,.lst a,.lst b])):=Tv ⟨c,h1,e⟩
def uR(f:En->Res R)(asg:D->Bool->En->Option En)(a:En->Res Fl)(env:En):zI f asg a env=(f env).bind (wt asg a env):=(rfl)
def qX(e:En):iE (.ok (.nx e))=.ok (.nx e):=(rfl)
def Ml(h:ra.d=.cU ks ds)(a:ga rk.d=some x)(ha:ks.all (lT x)=true)(b:getD ks ds x=some d):qE ra rk=.ok (jJ d ra.fr ra.al):=by unfold qE;rw[h];dsimp only;rw[a];dsimp only;rw[Tv ha,b]
end L3
local macro_rules|`(tactic| simp_arith[$as,*] $[$l:location]?)=>do
 let ls←("L3.iC L3.lR L3.P3 L3.Mg L3.HB L3.Sm L3.Mh L3.Mi L3.uR decide_true decide_false List.map_cons List.map_nil List.length_cons List.length_nil List.replicate List.cons_append List.nil_append List.append_nil Nat.reduceAdd Nat.max_self Nat.zero_max Nat.max_zero Nat.zero_add Nat.reduceSub L3.OV L3.O2 L3.R7 L3.O7 L3.O3 L3.O4 L3.O5 L3.O6 L3.yL L3.qT L3.qV L3.Hw L3.EC L3.wQ L3.mK L3.tO L3.jk L3.mL L3.L5 L3.mM L3.k_ L3.gM L3.eY L3.Tn L3.qW List.getElem?_cons_zero List.getElem?_cons_succ L3.O9 L3.O_ L3.O8 L3.Lp Int.reduceLT Int.reduceLE Int.reduceNeg L3.Ll L3.Lm L3.Ln L3.Lo L3.R0 L3.R3 List.set_cons_zero List.set_cons_succ Nat.reduceLT Nat.reduceLeDiff L3.R5 L3.OW L3.OX L3.OY L3.O0 L3.Lj L3.R8 L3.R9 L3.R_ L3.Pa L3.He L3.Ls L3.Hf L3.Hg L3.Em L3.Pd L3.Lu L3.Pf L3.Lx L3.Eo L3.BK L3.Ep L3.BL L3.Ly L3.Hh L3.Es L3.Et L3.qU L3.tM L3.Sa L3.Pg L3.LA L3.LB L3.Hi L3.Sb L3.Se L3.LC L3.LD L3.LF L3.Hj L3.LH L3.Pi L3.LI L3.LJ L3.Pj L3.Pk L3.LK L3.Hk L3.LL L3.LM L3.Sf L3.Pl L3.Pn L3.Po L3.Pp L3.LN L3.LO L3.LP L3.cF L3.To L3.Tp L3.Ho L3.LQ L3.LR L3.Hq L3.Hr L3.Sg L3.Pt L3.LU L3.Pw L3.LV L3.LW L3.LX L3.Py L3.LY L3.Ex L3.Ey L3.Hu L3.PB L3.L0 L3.L9 L3.L_ L3.Hy L3.Hz L3.HA L3.PQ L3.L8 L3.PR Int.reduceBEq L3.PN Bool.not_not Nat.reduceEqDiff L3.lX L3.PH L3.L1 L3.lb L3.mN L3.Hx L3.ED L3.EE L3.EF L3.EG L3.EH L3.EI Bool.and_true Bool.true_and Bool.and_false Bool.false_and Bool.and_self Bool.not_true Bool.not_false L3.L6 L3.L7 L3.iG L3.Hd L3.Sj L3.kz L3.Mb L3.PZ L3.Md L3.Sk L3.nZ L3.EL L3.BO".splitOn " ").toArray.mapM λs=>`(Lean.Parser.Tactic.simpLemma| $(Lean.mkIdent s.toName):ident)
 `(tactic| simp only[$[$ls:simpLemma],*,$as,*] $[$l]?)
local macro_rules|`(tactic| simp_arith $[$l:location]?)=>`(tactic| simp_arith[L3.qW] $[$l]?)
namespace L3
open PySem L2
def wR{α b:Type}(g:α->b)(xs:List α)(lo a:Option Int):dG (xs.map g) lo a=(dG xs lo a).map g:=by unfold dG;rw[TN,List.map_take,List.map_drop]
def EN{α:Type}(xs:List α)(lo a:Option Int):(dG xs lo a).length<=xs.length:=by unfold dG;rw[Vp,Xj];lia
def EO{α:Type}(xs:List α)(lo b:Option Int):∀a∈dG xs lo b,a∈xs:=by unfold dG;intro a h;exact List.mem_of_mem_drop (Vs h)
def EQ:(∀d∈ds,d.flat=true)->D.bw ds=true:=by
 induction ds with
 |nil=>intro _;rfl
 |cons d r a=>intro h;rw[jk,h d (by simp),a λx b=>h x (by simp[b])];rfl
def bD{α:Type}(g:α->D)(xs:List α)(h:∀a,(g a).flat=true):D.bw (xs.map g)=true:=EQ λd hd=>by obtain⟨a,_,rfl⟩:=TV.mp hd;exact h a
def cj(xs:List Int):D.bw (xs.map D.int)=true:=bD _ _ qV
def jl(h:d.flat=false):D.bw (d::ds)=false:=by rw[jk,h];rfl
def HC:(∀d∈ds,d.dep<=n)->D.gZ ds<=n:=by
 induction ds with
 |nil=>intro _;rw[gM];lia
 |cons d r a=>intro h;have h1:=h d (by simp);have c:=a λx b=>h x (by simp[b]);rw[eY];lia
def qY{α:Type}{g:α->D}{xs:List α}{n:Nat}(h:∀a,(g a).dep<=n):D.gZ (xs.map g)<=n:=HC λd hd=>by obtain⟨a,_,rfl⟩:=TV.mp hd;exact h a
def i8(xs:List Int):D.gZ (xs.map D.int)<=0:=qY λ_=>Tt 0
def dN{α:Type}(g:α->D)(xs:List α):bM (xs.map λa=>.val (g a) true [])=true:=by unfold bM;rw[UK];intro r h;obtain⟨a,_,rfl⟩:=TV.mp h;rfl
def mP{α:Type}(g:α->D)(fr:Bool)(al:List Nat)(xs:List α):(xs.map λa=>R.val (g a) fr al).map R.d=xs.map g:=by rw[T7];rfl
def px(n:Nat):fW 0 n=(List.range n).map λk=>.int (k:Nat):=by unfold fW;congr 1;funext k;simp
theorem gd{α:Type}(g:α->D){asg:D->Bool->En->Option En}{fr:Bool}{body:En->Res Fl}(all:List α)(P:List α->En->Prop):∀(xs pre:List α)(env:En),all=pre++xs->P pre env->
 (∀(pre c:List α)(a:α)(env:En),all=pre++a::c->P pre env->∃f b,asg (g a) fr env=some f/\body f=.ok (.nx b)/\P (pre++[a]) b)->
 ∃d,j7 asg fr body (xs.map g) env=.ok (.nx d)/\P all d
 |[],pre,env,e,h,_=>⟨env,rfl,by rw[e,V3];exact h⟩
 |a::r,pre,env,e,h,st=>by obtain⟨f,b,h1,i,j⟩:=st pre r a env e h;obtain⟨d,e1,e2⟩:=gd g all P r (pre++[a]) b (by rw[e];simp) j st;refine⟨d,?_,e2⟩;rw[Tw];unfold j7;rw[h1];dsimp only;rw[i];exact e1
def pz(f:D->Bool->En->Option En)(fs:List D->Bool->En->Option En)(d:D)(ds:List D)(fr:Bool)(env:En):aJ f fs (d::ds) fr env=(f d fr env).bind λe=>fs ds fr e:=(rfl)
def HD(c:i<env.length)(d:j<env.length):EJ (gT 2 (aJ (gN i) (aJ (gN j) cb))) env (.g8 (.tup [a,b]))=.ok (.nx ((env.set i (some (.val a true))).set j (some (.val b true)))):=by refine EK ?_;show(aJ (gN i) (aJ (gN j) cb)) [a,b] true env=_;rw[pz,Hv c];show(aJ (gN j) cb) [b] true _=_;rw[pz,Hv (by rw[V5];exact d)];rfl
def HE{α a:Type}(g:α->a)(xs:List α)(k:Int):fP (xs.map g) k=(fP xs k).map g:=by
 unfold fP;rw[TN];cases B6 xs.length k with
 |none=>rfl
 |some j=>simp
def Mm{α:Type}{xs:List α}{k:Int}(b:0<=k)(h:k<xs.length):∃a,fP xs k=some a/\xs[k.toNat]?=some a:=by
 unfold fP B6;rw[Tv b,Tv h];have:k.toNat<xs.length:=by lia
 exact⟨xs[k.toNat],by simp[this],by simp[this]⟩
structure Rl where
 room:Int
 sign:Int
 to:Int
 put:List Int
def Rl.d(r:Rl):D:=.tup [.int r.room,.int r.sign,.int r.to,.tup (r.put.map .int)]
end L3
namespace W
open PySem PySem.Spec PyProof.Rows L2 L3 L4
def top(i:Nat):Stmt:=PySem.Challenge.pw_callwalk_k24_least_by_prices.main.body.getD i (.Pass ⟨0,0,0,0⟩)
abbrev gO:Stmt:=top 19
noncomputable abbrev N__law_seed_at:List Str:=["_law_script","_law_k","_law_cell"]
abbrev dP:List Str:=N__law_seed_at.take 2
def sc__law_seed_at:aR N__law_seed_at dP (ay gO):=bS
def gR:En->Res Fl:=
 (bB (cX 2 (vC (.int 0)))
 (bB (Fo (vB (v2 QQ (ao 1) (qp Dm (aj (ao 0) aV)))) (cX 2 (bI 0 (ao 1))) rQ)
 (gG (v2 dF (v2 qo (v2 qo (v2 fE (v2 dF (ao 2) (vC (.int 2147483647))) (vC (.int 11))) (vC (.int 48271))) (vC (.int 69621))) (vC (.int 2147483629))))))
def bT:List D->Res R:=iC N__law_seed_at gR
abbrev fS:Stmt:=top 22
noncomputable abbrev N__law_arrow_by:List Str:=["_law_cell","_law_rooms","_law_own","_law_signs","_law_number","_law_state","_law_sign"]
abbrev c_:List Str:=N__law_arrow_by.take 4
def sc__law_arrow_by:aR N__law_arrow_by c_ (ay fS):=bS
def jL:En->Res Fl:=
 (bB (cX 4 (v2 dF (v2 qo (ao 0) (vC (.int 69621))) (vC (.int 2147483629))))
 (bB (qx (qp dJ (aj (ao 4) (aj (vC (.int 60)) aV))) (gT 2 (aJ (gN 4) (aJ (gN 5) cb))))
 (bB (qx (qp dJ (aj (ao 4) (aj (vC (.int 60)) aV))) (gT 2 (aJ (gN 4) (aJ (gN 6) cb))))
 (gG (iB (aj (v2 dF (ao 5) (v2 fE (ao 1) (ao 2))) (aj (v2 dF (ao 6) (ao 3)) (aj (v2 fE (ao 1) (v2 dF (ao 4) (ao 2))) aV))))))))
def db:List D->Res R:=iC N__law_arrow_by jL
abbrev bH:Stmt:=top 25
noncomputable abbrev N__law_machine_by:List Str:=["_law_cell","_law_cells","_law_rooms","_law_own","_law_signs","_law_form","_law_head","_law_arrows","_law_ends"]
abbrev cE:List Str:=N__law_machine_by.take 5
def sc__law_machine_by:aR N__law_machine_by cE (ay bH):=bS
def jO:((["_law_sign"]:List Str)++(["_law_rooms"]:List Str)).Nodup:=by decide +kernel
def jP:((["_law_one"]:List Str)++(["_law_rooms","_law_own","_law_signs"]:List Str)).Nodup:=by decide +kernel
def jQ:((["_law_state"]:List Str)++(["_law_cell"]:List Str)).Nodup:=by decide +kernel
def bJ:En->Res R:=λenv=>(iB (aj (ao 1) (aj (ao 0) (aj (ao 1) aV)))) env
def bx:En->Res R:=λenv=>(b9 db (aj (ao 0) (aj (ao 1) (aj (ao 2) (aj (ao 3) aV))))) env
def bK:En->Res Bool:=λenv=>(vB (v2 B7 (v2 DH (v2 KO (v2 dF (v2 nJ (ao 1) (vC (.int 10))) (vC (.int 32))) (ao 0)) (vC (.int 1))) (vC (.int 1)))) env
def bL:En->Res R:=λenv=>(ao 0) env
def b5:En->Res Fl:=
 (bB (cX 5 (v2 dF (v2 nJ (ao 0) (vC (.int 320))) (vC (.int 4))))
 (bB (Fo (vB (v2 B7 (ao 5) (vC (.int 2)))) (bB (cX 6 (iB (aj (v2 dF (v2 nJ (ao 0) (vC (.int 1280))) (ao 2)) (aj (v2 dF (v2 nJ (ao 0) (vC (.int 7680))) (ao 4)) (aj (ao 2) aV)))))
 (gG (iB (aj (v2 fE (ao 2) (vC (.int 1))) (aj (qp Np (aj (v2 fE (lj (aj (ao 6) aV)) (dv 1 [2] (N9 (aj (ao 4) aV)) (gN 0) (λ_=>.ok true) bJ)) aV)) (aj (lj (aj (ao 2) aV)) aV)))))) rQ)
 (bB (Fo (vB (v2 B7 (ao 5) (vC (.int 3)))) (gG (iB (aj (ao 2) (aj (lj aV) (aj (qp ph (aj (ao 2) aV)) aV))))) rQ)
 (bB (cX 7 (dv 1 [2,3,4] (iU (ao 1)) (gN 0) (λ_=>.ok true) bx))
 (bB (cX 8 (dv 1 [0] (N9 (aj (v2 fE (ao 2) (ao 3)) aV)) (gN 0) bK bL))
 (gG (iB (aj (v2 fE (ao 2) (ao 3)) (aj (RA (ao 7)) (aj (ao 8) aV))))))))))
def bv:List D->Res R:=iC N__law_machine_by b5
abbrev gS:Stmt:=top 21
noncomputable abbrev N__law_rule_by:List Str:=["_law_cell","_law_rooms","_law_signs","_law_number","_law_kind","_law_room","_law_sign","_law_to","_law_one","_law_put"]
abbrev dQ:List Str:=N__law_rule_by.take 3
def sc__law_rule_by:aR N__law_rule_by dQ (ay gS):=bS
def kA:En->Res Fl:=
 (bB (cX 3 (v2 dF (v2 qo (ao 0) (vC (.int 48271))) (vC (.int 2147483647))))
 (bB (qx (qp dJ (aj (ao 3) (aj (vC (.int 3)) aV))) (gT 2 (aJ (gN 3) (aJ (gN 4) cb))))
 (bB (qx (qp dJ (aj (ao 3) (aj (vC (.int 6)) aV))) (gT 2 (aJ (gN 3) (aJ (gN 5) cb))))
 (bB (qx (qp dJ (aj (ao 3) (aj (vC (.int 60)) aV))) (gT 2 (aJ (gN 3) (aJ (gN 6) cb))))
 (bB (qx (qp dJ (aj (ao 3) (aj (vC (.int 6)) aV))) (gT 2 (aJ (gN 3) (aJ (gN 7) cb))))
 (bB (qx (qp dJ (aj (ao 3) (aj (vC (.int 60)) aV))) (gT 2 (aJ (gN 3) (aJ (gN 8) cb))))
 (bB (cX 9 (lj (aj (v2 dF (ao 8) (ao 2)) (aj (v2 dF (ao 3) (ao 2)) aV))))
 (gG (iB (aj (v2 dF (ao 5) (ao 1)) (aj (v2 dF (ao 6) (ao 2)) (aj (v2 dF (ao 7) (ao 1)) (aj (qp uy (aj (qB (ao 9) Dt (qA (ao 4))) aV)) aV)))))))))))))
def dR:List D->Res R:=iC N__law_rule_by kA
abbrev dS:Stmt:=top 26
noncomputable abbrev N__law_made_by:List Str:=["_law_script","_law_most","_law_shape","_law_seed","_law_rooms","_law_signs","_law_own","_law_many","_law_machine","_law_rules"]
abbrev dU:List Str:=N__law_made_by.take 2
def sc__law_made_by:aR N__law_made_by dU (ay dS):=bS
def lY:((["_law_cell"]:List Str)++(["_law_rooms","_law_signs"]:List Str)).Nodup:=by decide +kernel
def bO:En->Res R:=λenv=>(b9 dR (aj (ao 0) (aj (ao 1) (aj (ao 2) aV)))) env
def kC:En->Res Fl:=
 (bB (kg 2 (b9 bT (aj (ao 0) (aj (vC (.int 0)) aV))))
 (bB (kg 3 (b9 bT (aj (ao 0) (aj (vC (.int 1)) aV))))
 (bB (cX 4 (v2 fE (vC (.int 1)) (v2 dF (ao 2) (vC (.int 3)))))
 (bB (cX 5 (v2 fE (vC (.int 1)) (v2 dF (v2 nJ (ao 2) (vC (.int 3))) (vC (.int 5)))))
 (bB (cX 6 (v2 dF (v2 nJ (ao 2) (vC (.int 15))) (vC (.int 3))))
 (bB (cX 7 (v2 qo (v2 dF (ao 3) (vC (.int 10))) (qp GC (aj (v2 Rr (ao 6) (vC (.int 0))) aV))))
 (bB (kg 8 (b9 bv (aj (ao 3) (aj (qB (ao 0) (qA (vC (.int 4))) (qA (v2 fE (vC (.int 4)) (ao 7)))) (aj (ao 4) (aj (ao 6) (aj (ao 5) aV)))))))
 (bB (cX 9 (dv 1 [4,5] (iU (qB (ao 0) (qA (v2 fE (vC (.int 4)) (ao 7))) (qA (v2 fE (v2 fE (vC (.int 4)) (ao 7)) (ao 1))))) (gN 0) (λ_=>.ok true) bO))
 (gG (iB (aj (iB (aj (ao 4) (aj (ao 5) (aj (ao 9) aV)))) (aj (ao 8) aV))))))))))))
def dW:List D->Res R:=iC N__law_made_by kC
abbrev fT:Stmt:=top 23
noncomputable abbrev N__law_stack_by:List Str:=["_law_cell","_law_size","_law_signs","_law_found","_law_number","_law_k","_law_sign"]
abbrev dc:List Str:=N__law_stack_by.take 3
def sc__law_stack_by:aR N__law_stack_by dc (ay fT):=bS
def dX:En->Res Fl:=λenv=>
 (bB (qx (qp dJ (aj (ao 4) (aj (ao 2) aV))) (gT 2 (aJ (gN 4) (aJ (gN 6) cb))))
 (A4 3 (v2 dF (v2 fE (ao 6) (v2 qo (v2 qo (ao 5) (ao 5)) (v2 nJ (ao 1) (vC (.int 30))))) (ao 2)))) env
def jM:En->Res Fl:=
 (bB (cX 3 (lj aV))
 (bB (cX 4 (v2 qo (v2 dF (ao 0) (v2 DO (vC (.int 10)) (vC (.int 20)))) (v2 DO (vC (.int 1000003)) (vC (.int 4)))))
 (bB (ut (N9 (aj (ao 1) aV)) (gN 5) dX)
 (gG (ao 3)))))
def de:List D->Res R:=iC N__law_stack_by jM
abbrev dk:Stmt:=top 24
noncomputable abbrev N__law_standing_by:List Str:=["_law_cell","_law_rooms","_law_signs","_law_size"]
abbrev ck:List Str:=N__law_standing_by.take 3
def sc__law_standing_by:aR N__law_standing_by ck (ay dk):=bS
def dn:En->Res Fl:=
 (bB (cX 3 (v2 dF (v2 nJ (ao 0) (vC (.int 6))) (vC (.int 6))))
 (bB (Fo (vB (v2 B7 (v2 dF (v2 nJ (ao 0) (vC (.int 36))) (vC (.int 8))) (vC (.int 5)))) (cX 3 (v2 fE (vC (.int 30)) (v2 dF (v2 nJ (ao 0) (vC (.int 288))) (vC (.int 61))))) rQ)
 (gG (iB (aj (v2 dF (v2 dF (ao 0) (vC (.int 6))) (ao 1)) (aj (b9 de (aj (v2 nJ (ao 0) (vC (.int 288))) (aj (ao 3) (aj (ao 2) aV)))) aV))))))
def bU:List D->Res R:=iC N__law_standing_by dn
abbrev kE:Stmt:=top 27
noncomputable abbrev N__law_copy:List Str:=["_law_house","_law_machine"]
abbrev h8:List Str:=N__law_copy.take 2
def uS:aR N__law_copy h8 (ay kE):=bS
def oQ:En->Res Fl:=(gG (lj (aj (iB (aj (bI 0 (vC (.int 0))) (aj (bI 0 (vC (.int 1))) (aj (qp oG (aj (bI 0 (vC (.int 2))) aV)) aV)))) (aj (RB (bI 1 (vC (.int 0))) (qp oG (aj (bI 1 (vC (.int 1))) aV)) (qp oG (aj (bI 1 (vC (.int 2))) aV))) aV))))
def h_:List D->Res R:=iC N__law_copy oQ
abbrev gf:Stmt:=top 16
noncomputable abbrev jm:List Str:=["machine","sums"]
noncomputable abbrev gg:List Str:=["machine","sums"]
def rZ:aR jm gg (ay gf):=bS
def n5:((["end"]:List Str)++(["sums"]:List Str)).Nodup:=by decide +kernel
def cI:En->Res Bool:=λenv=>(vB (v2 Bf (ao 0) (ao 1))) env
def cJ:En->Res R:=λenv=>(iB (aj (v2 Di (v2 qE (ao 1) (ao 0)) (vC (.int 0))) (aj (ao 0) aV))) env
def jn:En->Res Fl:=(gG (tJ (dv 1 [1] (iU (bI 0 (vC (.int 2)))) (gN 0) cI cJ)))
def dY:List D->Res R:=iC jm jn
abbrev iH:Stmt:=top 13
noncomputable abbrev r_:List Str:=["told","leading","arrow","price"]
noncomputable abbrev fA:List Str:=["told"]
def sc_priced_from:aR r_ fA (ay iH):=bS
def iI:List D->Res R:=L4.Nt L4.G4 L4.G5
abbrev jo:Stmt:=top 14
noncomputable abbrev N_sums_ahead:List Str:=["leading","sums","sign","ahead","state","reached","arrow","price","known"]
abbrev gh:List Str:=N_sums_ahead.take 3
def sc_sums_ahead:aR N_sums_ahead gh (ay jo):=bS
def cc:En->Res Fl:=λenv=>
 (bB (cX 8 (zZ (ao 3) (bI 6 (vC (.int 2)))))
 (Fo (QR (DA (ao 8)) (vB (v2 QQ (v2 fE (bI 5 (vC (.int 0))) (ao 7)) (bI 8 (vC (.int 0)))))) (tp 3 (bI 6 (vC (.int 2))) (iB (aj (v2 fE (bI 5 (vC (.int 0))) (ao 7)) (aj (ao 6) aV)))) rQ)) env
def gU:En->Res Fl:=λenv=>(ut (iU (mC (ao 0) (iB (aj (ao 4) (aj (ao 2) aV))) (lj aV))) (gT 2 (aJ (gN 6) (aJ (gN 7) cb))) cc) env
def mQ:En->Res Fl:=
 (bB (cX 3 (λ_=>.ok (.g8 (.cU [] []))))
 (bB (zI (ao 1) (gT 2 (aJ (gN 4) (aJ (gN 5) cb))) gU)
 (gG (ao 3))))
def gm:List D->Res R:=iC N_sums_ahead mQ
abbrev jp:Stmt:=top 15
noncomputable abbrev N_sums_along:List Str:=["told","standing","leading","rows","sign"]
abbrev gn:List Str:=N_sums_along.take 2
def sc_sums_along:aR N_sums_along gn (ay jp):=bS
def gV:En->Res Fl:=λenv=>(A4 3 (b9 gm (aj (ao 2) (aj (bI 3 (Dy (vC (.int 1)))) (aj (ao 4) aV))))) env
def mR:En->Res Fl:=
 (bB (kg 2 (b9 iI (aj (ao 0) aV)))
 (bB (cX 3 (lj (aj (v2 mE (bI 1 (vC (.int 0))) (iB (aj (vC (.int 0)) (aj (vC .bn) aV)))) aV)))
 (bB (ut (iU (bI 1 (vC (.int 1)))) (gN 4) gV)
 (gG (ao 3)))))
def gp:List D->Res R:=iC N_sums_along mR
abbrev jq:Stmt:=top 4
noncomputable abbrev N_is_plain:List Str:=["house","machine"]
abbrev jr:List Str:=N_is_plain.take 2
def wU:aR N_is_plain jr (ay jq):=bS
def qZ:((["arrow"]:List Str)++(["house"]:List Str)).Nodup:=by decide +kernel
def dZ:En->Res R:=λenv=>(v2 Rt (bI 0 (vC (.int 2))) (bI 1 (vC (.int 0)))) env
def q5:En->Res Fl:=(gG (qp GB (aj (dv 1 [0] (iU (bI 1 (vC (.int 1)))) (gN 0) (λ_=>.ok true) dZ) aV)))
def js:List D->Res R:=iC N_is_plain q5
abbrev cw:Stmt:=top 5
noncomputable abbrev eM:List Str:=["house","machine"]
noncomputable abbrev bW:List Str:=["house","machine"]
def jt:aR eM bW (ay cw):=bS
def eU:En->Res Fl:=(Fo (Kx (Kv (b9 js (aj (ao 0) (aj (ao 1) aV))))) (λ_=>.stuck) rQ)
def bX:List D->Res R:=iC eM eU
abbrev eZ:Stmt:=top 9
noncomputable abbrev n8:List Str:=["house","rules","number","rule"]
noncomputable abbrev e_:List Str:=["house"]
def sc_rules_by_start:aR n8 e_ (ay eZ):=bS
abbrev q_:Stmt:=top 11
noncomputable abbrev N_prices:List Str:=["house","machine","pricing","arrow","number","rule"]
abbrev mS:List Str:=N_prices.take 2
def sc_prices:aR N_prices mS (ay q_):=bS
abbrev Mn:Stmt:=fZ (top 7) 0
def P9:aR ["self"] ["self"] (ay Mn):=bS
abbrev Mo:Stmt:=fZ (top 7) 1
def P_:aR ["self","price","thing"] ["self","price","thing"] (ay Mo):=bS
abbrev Mp:Stmt:=fZ (top 7) 2
def Qa:aR ["self"] ["self"] (ay Mp):=bS
abbrev HF:Stmt:=fZ (top 7) 3
def sc_QT:aR ["self","pile","price","thing"] ["self"] (ay HF):=bS
abbrev Mq:Stmt:=fZ (top 10) 0
def Qb:aR ["self","house"] ["self","house"] (ay Mq):=bS
abbrev Mr:Stmt:=fZ (top 10) 1
def sc_PO:aR ["self","arrow","price","number","mid","known"] ["self","arrow","price","number","mid"] (ay Mr):=bS
abbrev Ms:Stmt:=fZ (top 10) 2
def sc_PS:aR ["self","arrow","price","start","number","rule","first"] ["self","arrow","price"] (ay Ms):=bS
abbrev Mv:Stmt:=fZ (top 10) 3
def sc_PF:aR ["self","number","rule","mid","price","start","state","second"] ["self","number","rule","mid","price"] (ay Mv):=bS
abbrev Mw:Stmt:=fZ (top 10) 4
def sc_PA:aR ["self","price","arrow"] ["self"] (ay Mw):=bS
def kF:List D->Res R:=L4.OH bX
abbrev uT:Stmt:=top 17
noncomputable abbrev N_least:List Str:=["house","machine","standing","lowest"]
abbrev pA:List Str:=N_least.take 3
def sc_least:aR N_least pA (ay uT):=bS
def uU:En->Res Fl:=
 (bB (kg 3 (b9 dY (aj (ao 1) (aj (v2 Di (b9 gp (aj (b9 kF (aj (ao 0) (aj (ao 1) aV))) (aj (ao 2) aV))) (Dy (vC (.int 1)))) aV))))
 (gG (Rw (DA (ao 3)) (vC .bn) (bI 3 (vC (.int 0))))))
def mT:List D->Res R:=iC N_least uU
abbrev kG:Stmt:=top 30
noncomputable abbrev N__law_sums:List Str:=["_law_rows_here","_law_standing","_law_sums_here","_law_sign","_law_later","_law_state","_law_total","_law_last","_law_price"]
abbrev ic:List Str:=N__law_sums.take 2
def sc__law_sums:aR N__law_sums ic (ay kG):=bS
def fB:En->Res Fl:=λenv=>(tp 4 (ao 7) (qp zJ (aj (v2 fE (ao 6) (ao 8)) (aj (mC (ao 4) (ao 7) (v2 fE (ao 6) (ao 8))) aV)))) env
def iJ:En->Res Fl:=λenv=>(ut (iU (mC (ao 0) (iB (aj (ao 5) (aj (ao 3) aV))) (lj aV))) (gT 2 (aJ (gN 7) (aJ (gN 8) cb))) fB) env
def cZ:En->Res Fl:=λenv=>
 (bB (cX 4 (λ_=>.ok (.g8 (.cU [] []))))
 (bB (zI (ao 2) (gT 2 (aJ (gN 5) (aJ (gN 6) cb))) iJ)
 (cX 2 (ao 4)))) env
def kH:En->Res Fl:=
 (bB (cX 2 (v2 mE (bI 1 (vC (.int 0))) (vC (.int 0))))
 (bB (ut (iU (bI 1 (vC (.int 1)))) (gN 3) cZ)
 (gG (ao 2))))
def fJ:List D->Res R:=iC N__law_sums kH
abbrev kI:Stmt:=top 29
noncomputable abbrev wV:List Str:=["_law_told","_law_rows_here","_law_arrow","_law_value"]
noncomputable abbrev ie:List Str:=["_law_told"]
def sc__law_rows:aR wV ie (ay kI):=bS
def kJ:List D->Res R:=L4.Nt L4.yI L4.qP
abbrev d4:Stmt:=top 28
noncomputable abbrev N__law_taken:List Str:=["_law_machine","_law_standing","_law_states","_law_sign"]
abbrev gq:List Str:=N__law_taken.take 2
def sc__law_taken:aR N__law_taken gq (ay d4):=bS
def fg:((["_law_first","_law_seen","_law_last"]:List Str)++(["_law_states","_law_sign"]:List Str)).Nodup:=by decide +kernel
def n9:((["_law_state"]:List Str)++(["_law_machine"]:List Str)).Nodup:=by decide +kernel
def cK:En->Res Bool:=λenv=>(Ky (vB (v2 B7 (ao 1) (ao 4))) (vB (v2 Bf (ao 0) (ao 3)))) env
def d5:En->Res R:=λenv=>(ao 2) env
def gW:En->Res Fl:=λenv=>(cX 2 (KR (dv 3 [2,3] (iU (bI 0 (vC (.int 1)))) (gT 3 (aJ (gN 0) (aJ (gN 1) (aJ (gN 2) cb)))) cK d5))) env
def d6:En->Res Bool:=λenv=>(vB (v2 Bf (ao 0) (bI 1 (vC (.int 2))))) env
def d7:En->Res R:=λenv=>(ao 0) env
def mU:En->Res Fl:=
 (bB (cX 2 (lj (aj (bI 1 (vC (.int 0))) aV)))
 (bB (ut (iU (bI 1 (vC (.int 1)))) (gN 3) gW)
 (gG (v2 Fm (dv 1 [0] (iU (ao 2)) (gN 0) d6 d7) (lj aV)))))
def d8:List D->Res R:=iC N__law_taken mU
abbrev jv:Stmt:=top 20
noncomputable abbrev mV:List Str:=["_law_found"]
noncomputable abbrev gr:List Str:=["_law_found"]
def sh:aR mV gr (ay jv):=bS
def mW:En->Res Fl:=(gG (A2 (GA "int" (ao 0)) (Gn (GA "bool" (ao 0)))))
def gs:List D->Res R:=iC mV mW
abbrev z_:Stmt:=top 31
noncomputable abbrev N_law:List Str:=["_law_script","_law_house","_law_machine","_law_standing","_law_handed","_law_given","_law_found","_law_sums_here","_law_due"]
abbrev Aa:List Str:=N_law.take 1
def sc_law:aR N_law Aa (ay z_):=bS
def BP:((["_law_end"]:List Str)++(["_law_sums_here"]:List Str)).Nodup:=by decide +kernel
def jw:En->Res Bool:=λenv=>(vB (v2 Bf (ao 0) (ao 1))) env
def jy:En->Res R:=λenv=>(v2 qE (ao 1) (ao 0)) env
def wW:En->Res Fl:=λenv=>(gG (A2 (b9 gs (aj (ao 6) aV)) (A2 (v2 B7 (ao 6) (ao 8)) (v2 B7 (v2 B7 (ao 8) (vC (.int 0))) (b9 d8 (aj (ao 2) (aj (ao 3) aV))))))) env
def uV:En->Res Fl:=λenv=>
 (bB (Fo (DA (ao 8)) (gG (A2 (Kt (ao 6)) (Gn (b9 d8 (aj (ao 2) (aj (ao 3) aV)))))) rQ)
 wW) env
def Ab:En->Res Fl:=λenv=>
 (bB (cX 8 (tJ (dv 1 [7] (iU (bI 2 (vC (.int 2)))) (gN 0) jw jy)))
 uV) env
def Ac:En->Res Fl:=λenv=>
 (bB (kg 7 (b9 fJ (aj (b9 kJ (aj (b9 kF (aj (ao 1) (aj (ao 2) aV))) aV)) (aj (ao 3) aV))))
 Ab) env
def Ad:En->Res Fl:=λenv=>
 (bB (Fo (QR (vB (v2 Fm (ao 4) (lj (aj (ao 1) (aj (ao 2) aV))))) (vB (v2 Fm (ao 5) (ao 3)))) (gG (vC (.bl false))) rQ)
 Ac) env
def Ae:En->Res Fl:=λenv=>
 (bB (kg 6 (b9 mT (aj (bI 4 (vC (.int 0))) (aj (bI 4 (vC (.int 1))) (aj (ao 5) aV)))))
 Ad) env
def Af:En->Res Fl:=λenv=>
 (bB (cX 5 (iB (aj (bI 3 (vC (.int 0))) (aj (qp oG (aj (bI 3 (vC (.int 1))) aV)) aV))))
 Ae) env
def Ag:En->Res Fl:=λenv=>
 (bB (kg 4 (b9 h_ (aj (ao 1) (aj (ao 2) aV))))
 Af) env
def Ah:En->Res Fl:=λenv=>
 (bB (kg 3 (b9 bU (aj (b9 bT (aj (ao 0) (aj (vC (.int 2)) aV))) (aj (bI 1 (vC (.int 0))) (aj (bI 1 (vC (.int 1))) aV)))))
 Ag) env
def IU:En->Res Fl:=
 (bB (qx (b9 dW (aj (ao 0) (aj (vC (.int 40)) aV))) (gT 2 (aJ (gN 1) (aJ (gN 2) cb))))
 Ah)
def wX:List D->Res R:=iC N_law IU
set_option genInjectivity false in
structure Tx(K:Xu) (mg:Str->Option Xw) where
 Fy:Df K mg "_law_seed_at" gO dP
 Jq:Df K mg "_law_arrow_by" fS c_
 Jz:Df K mg "_law_machine_by" bH cE
 Jm:Df K mg "_law_rule_by" gS dQ
 Jh:Df K mg "_law_made_by" dS dU
 Jf:Df K mg "_law_stack_by" fT dc
 Jg:Df K mg "_law_standing_by" dk ck
 Jn:Df K mg "_law_copy" kE h8
 Je:Df K mg "lowest_end" gf gg
 Jy:Df K mg "priced_from" iH fA
 Jd:Df K mg "sums_ahead" jo gh
 Jw:Df K mg "sums_along" jp gn
 Jx:Df K mg "is_plain" jq jr
 Fw:Df K mg "refuse_unless_plain" cw bW
 Fx:Df K mg "rules_by_start" eZ e_
 HY:Df K mg "prices" q_ mS
 Jv:Df K mg "least" uT pA
 Jj:Df K mg "_law_sums" kG ic
 Jl:Df K mg "_law_rows" kI ie
 HZ:Df K mg "_law_taken" d4 gq
 Jk:Df K mg "_law_whole" jv gr
 Fs:Df K mg "law" z_ Aa
 Nc:mg "all"=none
 HW:mg "bool"=none
 dB:mg "divmod"=none
 m8:mg "enumerate"=none
 Fk:mg "int"=none
 lH:mg "isinstance"=none
 rq:mg "len"=none
 m7:mg "list"=none
 rp:mg "min"=none
 m5:mg "range"=none
 Fe:mg "set"=none
 oj:mg "sorted"=none
 Ff:mg "tuple"=none
 CQ:Addr
 kQ:u_ K CQ
 gQ:mg "Queue"=some (.ref CQ)
 CP:Addr
 kP:lu K CP
 gP:mg "Pricing"=some (.ref CP)
 Nd:Mf K CQ "__init__" "Queue.__init__" Mn ["self"]
 MW:Mk K CQ Nd.f
 H_:Mf K CQ "add" "Queue.add" Mo ["self","price","thing"]
 MX:Mf K CQ "is_empty" "Queue.is_empty" Mp ["self"]
 M8:Mf K CQ "take_lowest" "Queue.take_lowest" HF ["self"]
 MS:Mf K CP "__init__" "Pricing.__init__" Mq ["self","house"]
 MZ:Mk K CP MS.f
 yU:Mf K CP "offer" "Pricing.offer" Mr ["self","arrow","price","number","mid"]
 Nf:Mf K CP "settle" "Pricing.settle" Ms ["self","arrow","price"]
 MY:Mf K CP "settle_first" "Pricing.settle_first" Mv ["self","number","rule","mid","price"]
 Nb:Mf K CP "settle_all" "Pricing.settle_all" Mw ["self"]
section
variable{P:Xv}{w:World}{K:Xu}{mg:Str->Option Xw}{base:Heap}(t:Tx K mg)
def fU:bG P w K mg base jd 1 t.Fy.f t.Fy.fd dP (mw mg 2 bT):=
 eG t.Fy.h.fu sc__law_seed_at λcdv A outer s H E a=>
  have b:=a.units
  (av (be sc__law_seed_at.nd rfl (.inl rfl) aB)
    (av (j6 (cM (Ir) (qv 1) (cp Kz (by rfl) t.rq (by decide +kernel) (ac (qv 0) ax)) (bY _)) (aN (be sc__law_seed_at.nd rfl (.inl rfl) (yi (pv 0) (qv 1) (λ_ _=>rfl)))) fF)
    (aN (bE (aL bC (aL j5 (aL j5 (aL cg (aL bC (qv 2) aB) aB) aB) aB) aB)))))
def n_:bG P w K mg base jd 1 t.Jq.f t.Jq.fd c_ (mw mg 4 db):=
 eG t.Jq.h.fu sc__law_arrow_by λcdv A outer s H E c=>
  have d:=c.units
  (av (be sc__law_arrow_by.nd rfl (.inl rfl) (aL bC (aL j5 (qv 0) aB) aB))
    (av (f_ (cp dw (by rfl) t.dB (by decide +kernel) (ac (qv 4) (ac aB ax))) (cA rfl (aO (aG sc__law_arrow_by.nd rfl (.inl rfl)) (aO (aG sc__law_arrow_by.nd rfl (.inl rfl)) bZ (λ_ a _ b=>az a b)) (λ_ a _ b=>az a b))))
    (av (f_ (cp dw (by rfl) t.dB (by decide +kernel) (ac (qv 4) (ac aB ax))) (cA rfl (aO (aG sc__law_arrow_by.nd rfl (.inl rfl)) (aO (aG sc__law_arrow_by.nd rfl (.inl rfl)) bZ (λ_ a _ b=>az a b)) (λ_ a _ b=>az a b))))
    (aN (bE (cG (ac (aL bC (qv 5) (aL cg (qv 1) (qv 2))) (ac (aL bC (qv 6) (qv 3)) (ac (aL cg (qv 1) (aL bC (qv 4) (qv 2))) ax)))))))))
def lZ:bG P w K mg base jd 2 t.Jz.f t.Jz.fd cE (mw mg 5 bv):=
 eG t.Jz.h.fu sc__law_machine_by λcdv A outer s H E d=>
  have c:=d.units
  (av (be sc__law_machine_by.nd rfl (.inl rfl) (aL bC (aL gF (qv 0) aB) aB))
    (av (j6 (cM (oF c) (qv 5) aB (bY _)) (av (be sc__law_machine_by.nd rfl (.inl rfl) (cG (ac (aL bC (aL gF (qv 0) aB) (qv 2)) (ac (aL bC (aL gF (qv 0) aB) (qv 4)) (ac (qv 2) ax)))))
    (aN (bE (cG (ac (aL cg (qv 2) aB) (ac (cp yq (by rfl) t.oj (by decide +kernel) (ac (aL cg (fR (ac (qv 6) ax)) (kY rfl (cz.of (osc:=ay bH) (N:=N__law_machine_by) (tN:=["_law_sign"]) (capN:=["_law_rooms"]) (caps:=[2]) rfl rfl (by decide +kernel)) (lQ (by rfl) t.m5 (ac (qv 4) ax)) (by decide) (λcl C a b fp=>(aG jO rfl (.inl rfl))) (λcl C a b fp=>mB) (λcl C a b fp=>(cG (ac (qv 1) (ac (qv 0) (ac (qv 1) ax))))))) ax)) (ac (fR (ac (qv 2) ax)) ax))))))) fF)
    (av (j6 (cM (oF c) (qv 5) aB (bY _)) (aN (bE (cG (ac (qv 2) (ac (fR ax) (ac (Bh (by rfl) (by rfl) t.m7 (by decide +kernel) (by rfl) t.m5 (ac (qv 2) ax)) ax)))))) fF)
    (av (qz rfl (cz.of (osc:=ay bH) (N:=N__law_machine_by) (tN:=["_law_one"]) (capN:=["_law_rooms","_law_own","_law_signs"]) (caps:=[2,3,4]) rfl rfl (by decide +kernel)) sc__law_machine_by.nd rfl rfl (c9 (qv 1)) (by decide) (λcl C a b fp=>(aG jP rfl (.inl rfl))) (λcl C a b fp=>mB) (λcl C a b fp=>(a_ (n_ t) (d.mono (by decide)) (by rfl) t.Jq.h cC (ac (qv 0) (ac (qv 1) (ac (qv 2) (ac (qv 3) ax)))) (aw (aw (aw (aw aY)))))))
    (av (qz rfl (cz.of (osc:=ay bH) (N:=N__law_machine_by) (tN:=["_law_state"]) (capN:=["_law_cell"]) (caps:=[0]) rfl rfl (by decide +kernel)) sc__law_machine_by.nd rfl rfl (lQ (by rfl) t.m5 (ac (aL cg (qv 2) (qv 3)) ax)) (by decide) (λcl C a b fp=>(aG jQ rfl (.inl rfl))) (λcl C a b fp=>(j_ (cM (oF c) (aL GF (aL KP (aL bC (aL gF (qv 1) aB) aB) (qv 0)) aB) aB (bY _)))) (λcl C a b fp=>(qv 0)))
    (aN (bE (cG (ac (aL cg (qv 2) (qv 3)) (ac (uB (by rfl) c (qv 7) (by rfl) t.oj (by decide +kernel) (by rfl) t.Fe (by decide +kernel)) (ac (qv 8) ax)))))))))))
def oU:bG P w K mg base jd 1 t.Jm.f t.Jm.fd dQ (mw mg 3 dR):=
 eG t.Jm.h.fu sc__law_rule_by λcdv A outer s H E c=>
  have d:=c.units
  (av (be sc__law_rule_by.nd rfl (.inl rfl) (aL bC (aL j5 (qv 0) aB) aB))
    (av (f_ (cp dw (by rfl) t.dB (by decide +kernel) (ac (qv 3) (ac aB ax))) (cA rfl (aO (aG sc__law_rule_by.nd rfl (.inl rfl)) (aO (aG sc__law_rule_by.nd rfl (.inl rfl)) bZ (λ_ a _ b=>az a b)) (λ_ a _ b=>az a b))))
    (av (f_ (cp dw (by rfl) t.dB (by decide +kernel) (ac (qv 3) (ac aB ax))) (cA rfl (aO (aG sc__law_rule_by.nd rfl (.inl rfl)) (aO (aG sc__law_rule_by.nd rfl (.inl rfl)) bZ (λ_ a _ b=>az a b)) (λ_ a _ b=>az a b))))
    (av (f_ (cp dw (by rfl) t.dB (by decide +kernel) (ac (qv 3) (ac aB ax))) (cA rfl (aO (aG sc__law_rule_by.nd rfl (.inl rfl)) (aO (aG sc__law_rule_by.nd rfl (.inl rfl)) bZ (λ_ a _ b=>az a b)) (λ_ a _ b=>az a b))))
    (av (f_ (cp dw (by rfl) t.dB (by decide +kernel) (ac (qv 3) (ac aB ax))) (cA rfl (aO (aG sc__law_rule_by.nd rfl (.inl rfl)) (aO (aG sc__law_rule_by.nd rfl (.inl rfl)) bZ (λ_ a _ b=>az a b)) (λ_ a _ b=>az a b))))
    (av (f_ (cp dw (by rfl) t.dB (by decide +kernel) (ac (qv 3) (ac aB ax))) (cA rfl (aO (aG sc__law_rule_by.nd rfl (.inl rfl)) (aO (aG sc__law_rule_by.nd rfl (.inl rfl)) bZ (λ_ a _ b=>az a b)) (λ_ a _ b=>az a b))))
    (av (be sc__law_rule_by.nd rfl (.inl rfl) (fR (ac (aL bC (qv 8) (qv 2)) (ac (aL bC (qv 3) (qv 2)) ax))))
    (aN (bE (cG (ac (aL bC (qv 5) (qv 1)) (ac (aL bC (qv 6) (qv 2)) (ac (aL bC (qv 7) (qv 1)) (ac (gv DI (by rfl) t.Ff (by decide +kernel) (ac (qC (qv 9) Du (kc (qv 4))) ax)) ax))))))))))))))
def oV:bG P w K mg base jd 3 t.Jh.f t.Jh.fd dU (mw mg 2 dW):=
 eG t.Jh.h.fu sc__law_made_by λcdv A outer s H E a=>
  have d:=a.units
  (av (dI sc__law_made_by.nd rfl (.inl rfl) (a_ (fU t) (a.mono (by decide)) (by rfl) t.Fy.h cC (ac (qv 0) (ac aB ax)) (aw (aw aY))))
    (av (dI sc__law_made_by.nd rfl (.inl rfl) (a_ (fU t) (a.mono (by decide)) (by rfl) t.Fy.h cC (ac (qv 0) (ac aB ax)) (aw (aw aY))))
    (av (be sc__law_made_by.nd rfl (.inr rfl) (aL cg aB (aL bC (qv 2) aB)))
    (av (be sc__law_made_by.nd rfl (.inr rfl) (aL cg aB (aL bC (aL gF (qv 2) aB) aB)))
    (av (be sc__law_made_by.nd rfl (.inl rfl) (aL bC (aL gF (qv 2) aB) aB))
    (av (be sc__law_made_by.nd rfl (.inl rfl) (aL j5 (aL bC (qv 3) aB) (gv KH (by rfl) t.Fk (by decide +kernel) (ac (nI (N0) (qv 6) aB (bY _)) ax))))
    (av (dI sc__law_made_by.nd rfl (.inl rfl) (a_ (lZ t) (a.mono (by decide)) (by rfl) t.Jz.h cC (ac (qv 3) (ac (qC (qv 0) (kc aB) (kc (aL cg aB (qv 7)))) (ac (qv 4) (ac (qv 6) (ac (qv 5) ax))))) (aw (aw (aw (aw (aw aY)))))))
    (av (qz rfl (cz.of (osc:=ay dS) (N:=N__law_made_by) (tN:=["_law_cell"]) (capN:=["_law_rooms","_law_signs"]) (caps:=[4,5]) rfl rfl (by decide +kernel)) sc__law_made_by.nd rfl rfl (c9 (qC (qv 0) (kc (aL cg aB (qv 7))) (kc (aL cg (aL cg aB (qv 7)) (qv 1))))) (by decide) (λcl C b c fp=>(aG lY rfl (.inl rfl))) (λcl C b c fp=>mB) (λcl C b c fp=>(a_ (oU t) (a.mono (by decide)) (by rfl) t.Jm.h cC (ac (qv 0) (ac (qv 1) (ac (qv 2) ax))) (aw (aw (aw aY))))))
    (aN (bE (cG (ac (cG (ac (qv 4) (ac (qv 5) (ac (qv 9) ax)))) (ac (qv 8) ax)))))))))))))
def oe:bG P w K mg base jd 1 t.Jf.f t.Jf.fd dc (mw mg 3 de):=
 eG t.Jf.h.fu sc__law_stack_by λcdv A outer s H E c=>
  have d:=c.units
  (av (be sc__law_stack_by.nd rfl (.inl rfl) (fR ax))
    (av (be sc__law_stack_by.nd rfl (.inl rfl) (aL j5 (aL bC (qv 0) (aL DP aB aB)) (aL DP aB aB)))
    (av (kX Uk rfl (lQ (by rfl) t.m5 (ac (qv 1) ax)) (aG sc__law_stack_by.nd rfl (.inl rfl)) (av (f_ (cp dw (by rfl) t.dB (by decide +kernel) (ac (qv 4) (ac (qv 2) ax))) (cA rfl (aO (aG sc__law_stack_by.nd rfl (.inl rfl)) (aO (aG sc__law_stack_by.nd rfl (.inl rfl)) bZ (λ_ a _ b=>az a b)) (λ_ a _ b=>az a b))))
    (aN (zx (pv 3) (aL bC (aL cg (qv 6) (aL j5 (aL j5 (qv 5) (qv 5)) (aL gF (qv 1) aB))) (qv 2))))))
    (aN (bE (qv 3))))))
def lq:bG P w K mg base jd 2 t.Jg.f t.Jg.fd ck (mw mg 3 bU):=
 eG t.Jg.h.fu sc__law_standing_by λcdv A outer s H E a=>
  have b:=a.units
  (av (be sc__law_standing_by.nd rfl (.inl rfl) (aL bC (aL gF (qv 0) aB) aB))
    (av (j6 (cM (oF b) (aL bC (aL gF (qv 0) aB) aB) aB (bY _)) (aN (be sc__law_standing_by.nd rfl (.inl rfl) (aL cg aB (aL bC (aL gF (qv 0) aB) aB)))) fF)
    (aN (bE (cG (ac (aL bC (aL bC (qv 0) aB) (qv 1)) (ac (a_ (oe t) (a.mono (by decide)) (by rfl) t.Jf.h cC (ac (aL gF (qv 0) aB) (ac (qv 3) (ac (qv 2) ax))) (aw (aw (aw aY)))) ax)))))))
def uW:bG P w K mg base jd 1 t.Jn.f t.Jn.fd h8 (mw mg 2 h_):=
 eG t.Jn.h.fu uS λcdv A outer s H E a=>
  have b:=a.units
  (aN (bE (fR (ac (cG (ac (bj (pv 0)) (ac (bj (pv 0)) (ac (gv o9 (by rfl) t.m7 (by decide +kernel) (ac (bj (pv 0)) ax)) ax)))) (ac (Om (bj (pv 1)) (gv o9 (by rfl) t.m7 (by decide +kernel) (ac (bj (pv 1)) ax)) (gv o9 (by rfl) t.m7 (by decide +kernel) (ac (bj (pv 1)) ax))) ax)))))
def sj:bG P w K mg base jd 1 t.Je.f t.Je.fd gg (mw mg 2 dY):=
 eG t.Je.h.fu rZ λcdv A outer s H E d=>
  have a:=d.units
  (aN (bE (zY rfl a (by rfl) t.rp (kY rfl (cz.of (osc:=ay gf) (N:=jm) (tN:=["end"]) (capN:=["sums"]) (caps:=[1]) rfl rfl (by decide +kernel)) (c9 (bj (pv 0))) (by decide) (λcl C b c fp=>(aG n5 rfl (.inl rfl))) (λcl C b c fp=>(j_ (cM (ux a) (qv 0) (qv 1) (by rfl)))) (λcl C b c fp=>(cG (ac (Iw (zG a (qv 1) (qv 0) (λ_ _=>rfl)) aB (λ_ _=>rfl)) (ac (qv 0) ax))))))))
def rf:bG P w K mg base jd 1 t.Jy.f t.Jy.fd fA (mw mg 1 iI):=
 t.Jy.h.fu.ok sc_priced_from (λ_ _ _ _ h=>h.1) λcdv A outer s H vs Q E a h=>
  ⟨_,aU (iq (i:=1) sc_priced_from.nd rfl (Or.inl rfl) iO)
    (aU (yn (fM Uk rfl (sU (pv 0)) (gx rfl (az (br (i:=2) sc_priced_from.nd rfl (Or.inl rfl)) (az (br (i:=3) sc_priced_from.nd rfl (Or.inl rfl)) dD)))
      (aW (bV (iN U1 UW UX du (iN T9 Uq UV (jY a.units) (pv 1)
        (ah (cv (ah (bA ix_tup (pv 2) aQ (λ_ _=>rfl)) (ah (bA ix_tup (pv 2) aQ (λ_ _=>rfl)) aC))) (ah (iu aC) aC))) (ah (cv (ah (pv 2) (ah (bA ix_tup (pv 3) aQ (λ_ _=>rfl)) aC))) aC))))))
    (aW (lJ (pv 1)))),zV OR rfl h⟩
def sk:bG P w K mg base jd 1 t.Jd.f t.Jd.fd gh (mw mg 3 gm):=
 eG t.Jd.h.fu sc_sums_ahead λcdv A outer s H E d=>
  have c:=d.units
  (av (be sc_sums_ahead.nd rfl (.inl rfl) zD)
    (av (wv Uk rfl (qv 1) (cA rfl (aO (aG sc_sums_ahead.nd rfl (.inl rfl)) (aO (aG sc_sums_ahead.nd rfl (.inl rfl)) bZ (λ_ a _ b=>az a b)) (λ_ a _ b=>az a b))) (aN (kX Uk rfl (c9 (uz c (qv 0) (cG (ac (qv 4) (ac (qv 2) ax))) (fR ax) ⟨rfl,rfl,rfl,rfl⟩)) (cA rfl (aO (aG sc_sums_ahead.nd rfl (.inl rfl)) (aO (aG sc_sums_ahead.nd rfl (.inl rfl)) bZ (λ_ a _ b=>az a b)) (λ_ a _ b=>az a b))) (av (be sc_sums_ahead.nd rfl (.inl rfl) (Hb c (qv 3) (bj (pv 6)) ⟨rfl,rfl,rfl,rfl⟩))
    (aN (j6 (PWD.pt (Dh (uw (qv 8)) (zu (cM (Ir) (aL cg (bj (pv 5)) (qv 7)) (bj (pv 8)) (bY _))))) (aN (zF c (pv 3) (bj (pv 6)) (cG (ac (aL cg (bj (pv 5)) (qv 7)) (ac (qv 6) ax))))) fF))))))
    (aN (bE (qv 3)))))
def sn:bG P w K mg base jd 2 t.Jw.f t.Jw.fd gn (mw mg 2 gp):=
 eG t.Jw.h.fu sc_sums_along λcdv A outer s H E a=>
  have b:=a.units
  (av (dI sc_sums_along.nd rfl (.inl rfl) (a_ (rf t) (a.mono (by decide)) (by rfl) t.Jy.h cC (ac (qv 0) ax) (aw aY)))
    (av (be sc_sums_along.nd rfl (.inl rfl) (fR (ac (wn (bj (pv 1)) (cG (ac aB (ac Da ax)))) ax)))
    (av (kX Uk rfl (c9 (bj (pv 1))) (aG sc_sums_along.nd rfl (.inl rfl)) (aN (zx (pv 3) (a_ (sk t) (a.mono (by decide)) (by rfl) t.Jd.h cC (ac (qv 2) (ac (yi (pv 3) (Dz aB) (λ_ _=>rfl)) (ac (qv 4) ax))) (aw (aw (aw aY)))))))
    (aN (bE (qv 3))))))
def wY:bG P w K mg base jd 1 t.Jx.f t.Jx.fd jr (mw mg 2 js):=
 eG t.Jx.h.fu wU λcdv A outer s H E c=>
  have d:=c.units
  (aN (bE (cp (KD (by rfl)) (by rfl) t.Nc (by decide +kernel) (ac (kY rfl (cz.of (osc:=ay jq) (N:=N_is_plain) (tN:=["arrow"]) (capN:=["house"]) (caps:=[0]) rfl rfl (by decide +kernel)) (c9 (bj (pv 1))) (by decide) (λcl C a b fp=>(aG qZ rfl (.inl rfl))) (λcl C a b fp=>mB) (λcl C a b fp=>(nI (N1) (bj (pv 0)) (bj (pv 1)) (bY _)))) ax))))
def jz:bG P w K mg base jd 2 t.Fw.f t.Fw.fd bW (mw mg 2 bX):=
 eG t.Fw.h.fu jt λcdv A outer s H E a=>
  have b:=a.units
  (aN (j6 (Gq (Kw (a_ (wY t) (a.mono (by decide)) (by rfl) t.Jx.h cC (ac (qv 0) (ac (qv 1) ax)) (aw (aw aY))))) (aN Bj) fF))
def Qc:bG P w K mg base jd 1 t.Nd.f t.Nd.fd ["self"] (nc t.CQ):=t.Nd.h.fu.ok P9 (λ_ _ _ _ h=>wG h) λcdv A outer s H vs Q E a h=>⟨_,aU (jT (pv 0) aQ rfl) (aW (jT (pv 0) vK rfl)),yA t.kQ h⟩
def IV:bG P w K mg base jd 1 t.H_.f t.H_.fd ["self","price","thing"] (tS t.CQ):=
 t.H_.h.fu.ok P_ (λ_ _ _ _ h=>Bt h) λcdv A outer s H vs Q E a h=>
  ⟨_,aW (bV (iN U1 UW UX du (iN T9 Uq UV F1 (cu (pv 0) rfl)
    (ah (Cs PySem.F.plainAttrs_int PySem.F.slot_int_bit_length PySem.F.type_int_bit_length GS (pE JY (pv 1) (cu (pv 0) rfl))) (ah (iu aC) aC))) (ah (cv (ah (pv 1) (ah (pv 2) aC))) aC))),DW t.kQ h rfl⟩
def Qd:bG P w K mg base jd 1 t.MX.f t.MX.fd ["self"] (mZ t.CQ):=t.MX.h.fu.ok Qa (λ_ _ _ _ h=>wH h) λcdv A outer s H vs Q E a h=>⟨_,aW (lJ (yY yX (cW Bv (by rfl) t.rq W8 (ah (cu (pv 0) rfl) aC)) aQ (bY _))),yB t.kQ h⟩
def wZ:bG P w K mg base jd 2 t.yU.f t.yU.fd ["self","arrow","price","number","mid"] (fC t.CP t.CQ):=
 t.yU.h.fu.ok sc_PO (λ_ _ _ _ h=>wI h) λcdv A outer s H vs Q E a h=>
  ⟨_,aU (iq (i:=5) sc_PO.nd rfl (Or.inl rfl) (CB (sH a) (cu (pv 0) rfl) (pv 1) ⟨rfl,rfl,rfl,rfl⟩))
    (aW (sA (PW.pt (Ib (jc K8 (pv 5) lI (bY _)) (Ca (jc Ic (pv 2) (bA ix_tup (pv 5) aQ (λ_ _=>rfl)) (bY _)))))
      (aU (FV (sH a) (cu (pv 0) rfl) (pv 1) (cv (ah (pv 2) (ah (pv 3) (ah (pv 4) aC)))) rfl)
        (aW (bV (fY (cu (pv 0) rfl) t.kQ.cl t.H_.h.me (IV t) a t.H_.h.bi .nil gB (ah (pv 2) (ah (pv 1) aC))))))
      l9)),yD t.kP t.kQ h⟩
def ER:((["price","thing"]:List Str)++([]:List Str)).Nodup:=by decide +kernel
def Qe:bG P w K mg base jd 2 t.M8.f t.M8.fd ["self"] (rC t.CQ):=
 t.M8.h.fu.ok sc_QT (λ_ _ _ _ h=>yC h) λcdv A outer s H vs Q E a h=>
  ⟨_,aU (iq (i:=1) sc_QT.nd rfl (Or.inl rfl) (vL (cu (pv 0) rfl) (cW (Bu rfl) (by rfl) t.rp (by decide +kernel) (ah (Cs T9 PySem.F.slot_dict_keys PySem.F.type_dict_keys GT (cu (pv 0) rfl)) aC)) ⟨rfl,rfl,rfl,rfl⟩))
    (aU (jT (pv 0) (cW (BB rfl) (by rfl) t.rp (by decide +kernel) (ah (Eh (tN:=["price","thing"]) (capN:=[]) (caps:=[]) rfl (cz.of (osc:=ay HF) (N:=["self","pile","price","thing"]) rfl rfl (by decide +kernel)) (ja (pv 1))) aC)) rfl)
    (aU (fM Uk rfl (ja (pv 1)) (gx rfl (az (br (i:=2) sc_QT.nd rfl (Or.inl rfl)) (az (br (i:=3) sc_QT.nd rfl (Or.inl rfl)) dD)))
      (aW (bV (fY (pv 0) t.kQ.cl t.H_.h.me (IV t) a t.H_.h.bi .nil gB (ah (pv 2) (ah (pv 3) aC))))))
    (aW (lJ (vL (cu (pv 0) rfl) aQ ⟨rfl,rfl,rfl,rfl⟩))))),
    Bw t.kQ (λ_ _=>rfl) (BC rfl (λ_ _ _ _ _=>gx rfl (az (br (i:=0) ER rfl (Or.inl rfl)) (az (br (i:=1) ER rfl (Or.inl rfl)) dD))) λ_ _ _ _ _=>pv 0) h⟩
def Qf:bG P w K mg base jd 3 t.MY.f t.MY.fd ["self","number","rule","mid","price"] (ng t.CP t.CQ):=
 t.MY.h.fu.ok sc_PF (λ_ _ _ _ h=>wK h) λcdv A outer s H vs Q E a h=>
  ⟨_,aU (iq (i:=5) sc_PF.nd rfl (Or.inl rfl) (cv (ah (pv 3) (ah (bA ix_tup (bA ix_tup (pv 2) aQ (λ_ _=>rfl)) aQ (λ_ _=>rfl)) aC))))
    (aU (bV (iN U1 UW UX du (iN T9 Uq UV (jY a.units) (cu (pv 0) rfl) (ah (pv 5) (ah (iu aC) aC))) (ah (cv (ah (pv 1) (ah (pv 2) (ah (pv 4) aC)))) aC)))
    (aW (fM Uk rfl (ja (pR (sH a) (cu (pv 0) rfl) (pv 5) (iu aC) ⟨rfl,rfl,rfl,rfl⟩)) (gx rfl (az (br (i:=6) sc_PF.nd rfl (Or.inl rfl)) (az (br (i:=7) sc_PF.nd rfl (Or.inl rfl)) dD)))
      (aW (bV (fY (pv 0) t.kP.cl t.yU.h.me (wZ t) a t.yU.h.bi .nil gB (ah (cv (ah (bA ix_tup (pv 2) aQ (λ_ _=>rfl)) (ah (bA ix_tup (pv 2) aQ (λ_ _=>rfl)) (ah (pv 6) aC))))
        (ah (pE op_add (pE op_add (pv 4) (pv 7)) aQ) (ah (pv 1) (ah (pv 3) aC)))))))))),yE t.kP h⟩
def Qg:bG P w K mg base jd 4 t.Nf.f t.Nf.fd ["self","arrow","price"] (kN t.CP t.CQ):=
 t.Nf.h.fu.ok sc_PS (λ_ _ _ _ h=>uN h) λcdv A outer s H vs Q E a h=>
  have b:dt 2 _:=a.mono (by decide)
  ⟨_,aU (iq (i:=3) sc_PS.nd rfl (Or.inl rfl) (cv (ah (bA ix_tup (pv 1) aQ (λ_ _=>rfl)) (ah (bA ix_tup (pv 1) aQ (λ_ _=>rfl)) aC))))
    (aU (bV (iN U1 UW UX du (iN T9 Uq UV (jY a.units) (cu (pv 0) rfl) (ah (pv 3) (ah (iu aC) aC))) (ah (cv (ah (bA ix_tup (pv 1) aQ (λ_ _=>rfl)) (ah (pv 2) aC))) aC)))
    (aU (fM Uk rfl (ja (pR (sH a) (cu (pv 0) rfl) (pv 3) (iu aC) ⟨rfl,rfl,rfl,rfl⟩)) (gx rfl (az (br (i:=4) sc_PS.nd rfl (Or.inl rfl)) (az (br (i:=5) sc_PS.nd rfl (Or.inl rfl)) (az (br (i:=6) sc_PS.nd rfl (Or.inl rfl)) dD))))
      (aW (bV (fY (pv 0) t.kP.cl t.yU.h.me (wZ t) b t.yU.h.bi .nil gB (ah (cv (ah (bA ix_tup (pv 5) aQ (λ_ _=>rfl)) (ah (bA ix_tup (pv 5) aQ (λ_ _=>rfl)) (ah (bA ix_tup (pv 1) aQ (λ_ _=>rfl)) aC))))
        (ah (pE op_add (pE op_add (pv 6) (pv 2)) aQ) (ah (pv 4) (ah (bA ix_tup (pv 1) aQ (λ_ _=>rfl)) aC))))))))
    (aW (fM Uk rfl (ja (pR (sH a) (cu (pv 0) rfl) (pv 3) (iu aC) ⟨rfl,rfl,rfl,rfl⟩)) (gx rfl (az (br (i:=4) sc_PS.nd rfl (Or.inl rfl)) (az (br (i:=5) sc_PS.nd rfl (Or.inl rfl)) dD)))
      (aW (sA (jc yX (cW nX (by rfl) t.rq W8 (ah (bA ix_tup (pv 5) aQ (λ_ _=>rfl)) aC)) aQ (bY _))
        (aW (bV (fY (pv 0) t.kP.cl t.yU.h.me (wZ t) b t.yU.h.bi .nil gB (ah (cv (ah (bA ix_tup (pv 5) aQ (λ_ _=>rfl)) (ah (bA ix_tup (pv 5) aQ (λ_ _=>rfl)) (ah (bA ix_tup (pv 1) aQ (λ_ _=>rfl)) aC))))
          (ah (pE op_add (pv 2) aQ) (ah (pv 4) (ah lI aC)))))))
        (aW (bV (fY (pv 0) t.kP.cl t.MY.h.me (Qf t) a t.MY.h.bi .nil gB (ah (pv 4) (ah (pv 5) (ah (bA ix_tup (pv 1) aQ (λ_ _=>rfl)) (ah (pv 2) aC))))))))))))),wM t.kP h⟩
def Qh:bG P w K mg base jd 5 t.Nb.f t.Nb.fd ["self"] (xq t.CP t.CQ):=
 t.Nb.h.fu.ok sc_PA (λ_ _ _ _ h=>Bx h) λcdv A outer s H vs Q E a h=>
  ⟨_,aW (Ce Uk (Cb (JJ (pI (cu (pv 0) rfl) t.kQ.cl t.MX.h.me (Qd t) (a.mono (by decide)) t.MX.h.bi .nil gB)))
    (aW (fM Uk rfl (ja (pI (cu (pv 0) rfl) t.kQ.cl t.M8.h.me (Qe t) (a.mono (by decide)) t.M8.h.bi .nil gB)) (gx rfl (az (br (i:=1) sc_PA.nd rfl (Or.inl rfl)) (az (br (i:=2) sc_PA.nd rfl (Or.inl rfl)) dD)))
      (aW (sA (jc yX (bA ix_tup (za (sH a) (cu (pv 0) rfl) (pv 2) (λ_ _=>rfl)) aQ (λ_ _=>rfl)) (pv 1) (bY _))
        (aW (bV (fY (pv 0) t.kP.cl t.Nf.h.me (Qg t) a t.Nf.h.bi .nil gB (ah (pv 2) (ah (pv 1) aC))))) l9))))),Ea t.kP h⟩
def mX:bG P w K mg base jd 1 t.Fx.f t.Fx.fd ["house"] Fd:=
 t.Fx.h.fu.ok sc_rules_by_start (λ_ _ _ _ h=>Eb h) λcdv A outer s H vs Q E a h=>
  ⟨_,aU (iq (i:=1) sc_rules_by_start.nd rfl (Or.inl rfl) iO)
    (aU (fM Uk rfl (zC rfl t.m8 (ah (bA ix_tup (pv 0) aQ (λ_ _=>rfl)) aC)) (gx rfl (az (br (i:=2) sc_rules_by_start.nd rfl (Or.inl rfl)) (az (br (i:=3) sc_rules_by_start.nd rfl (Or.inl rfl)) dD)))
      (aW (sA (jc Ie (cW nX (by rfl) t.rq W8 (ah (bA ix_tup (pv 3) aQ (λ_ _=>rfl)) aC)) aQ (bY _))
        (aW (bV (iN U1 UW UX du (iN T9 Uq UV (jY a.units) (pv 1)
          (ah (cv (ah (bA ix_tup (pv 3) aQ (λ_ _=>rfl)) (ah (bA ix_tup (bA ix_tup (pv 3) aQ (λ_ _=>rfl)) aQ (λ_ _=>rfl)) aC))) (ah (iu aC) aC))) (ah (cv (ah (pv 2) (ah (pv 3) aC))) aC)))) l9)))
    (aW (lJ (pv 1)))),G0 h⟩
def Qi:bG P w K mg base jd 3 t.MS.f t.MS.fd ["self","house"] (m6 t.CP t.CQ):=
 t.MS.h.fu.ok Qb (λ_ _ _ _ h=>wN h) λcdv A outer s H vs Q E a h=>
  ⟨_,aU (jT (pv 0) (tW (mX t) (a.mono (by decide)) rfl t.Fx.h.gl t.Fx.h.fu.kp t.Fx.h.bi .nil gB (ah (pv 1) aC)) rfl)
    (aU (jT (pv 0) iO rfl) (aU (jT (pv 0) (Cm t.MW (Qc t) a rfl t.gQ t.Nd.h.bi .nil gB) rfl) (aU (jT (pv 0) iO rfl) (aW (jT (pv 0) iO rfl))))),yG t.kP h⟩
def tP:bG P w K mg base jd 6 t.HY.f t.HY.fd mS (mw mg 2 kF):=
 t.HY.h.fu.ok sc_prices (λ_ _ _ _ h=>h.1) λcdv A outer s H vs Q E b h=>
  have a:dt 2 _:=b.mono (by decide)
  ⟨_,aU (bV (tW (jz t) (b.mono (by decide)) rfl t.Fw.h.gl t.Fw.h.fu.kp t.Fw.h.bi .nil cC (ah (pv 0) (ah (pv 1) aC))))
    (aU (iq (i:=2) sc_prices.nd rfl (Or.inl rfl) (FN t.MZ (Qi t) (b.mono (by decide)) rfl t.gP t.MS.h.bi .nil gB (ah (pv 0) aC)))
    (aU (fM Uk rfl (ja (bA ix_tup (pv 1) aQ (λ_ _=>rfl))) (br (i:=3) sc_prices.nd rfl (Or.inl rfl)) (aW (bV (fY (pv 2) t.kP.cl t.yU.h.me (wZ t) a t.yU.h.bi .nil gB (ah (pv 3) (ah aQ (ah lI (ah lI aC))))))))
    (aU (fM Uk rfl (zC rfl t.m8 (ah (bA ix_tup (pv 0) aQ (λ_ _=>rfl)) aC)) (gx rfl (az (br (i:=4) sc_prices.nd rfl (Or.inl rfl)) (az (br (i:=5) sc_prices.nd rfl (Or.inl rfl)) dD)))
      (aW (sA (jc yX (cW nX (by rfl) t.rq W8 (ah (bA ix_tup (pv 5) aQ (λ_ _=>rfl)) aC)) aQ (bY _))
        (aW (bV (fY (pv 2) t.kP.cl t.yU.h.me (wZ t) a t.yU.h.bi .nil gB (ah (cv (ah (bA ix_tup (pv 5) aQ (λ_ _=>rfl)) (ah (bA ix_tup (pv 5) aQ (λ_ _=>rfl)) (ah (bA ix_tup (pv 5) aQ (λ_ _=>rfl)) aC))))
          (ah aQ (ah (pv 4) (ah lI aC))))))) l9)))
    (aU (bV (pI (pv 2) t.kP.cl t.Nb.h.me (Qh t) b t.Nb.h.bi .nil gB))
    (aW (lJ (cu (pv 2) rfl))))))),wO t.kP h⟩
def ES:bG P w K mg base jd 7 t.Jv.f t.Jv.fd pA (mw mg 3 mT):=
 eG t.Jv.h.fu sc_least λcdv A outer s H E a=>
  have b:=a.units
  (av (dI sc_least.nd rfl (.inl rfl) (a_ (sj t) (a.mono (by decide)) (by rfl) t.Je.h cC (ac (qv 1) (ac (Iw (a_ (sn t) (a.mono (by decide)) (by rfl) t.Jw.h cC (ac (a_ (tP t) (a.mono (by decide)) (by rfl) t.HY.h cC (ac (qv 0) (ac (qv 1) ax)) (aw (aw aY))) (ac (qv 2) ax)) (aw (aw aY))) (Dz aB) (λ_ _=>rfl)) ax)) (aw (aw aY))))
    (aN (bE (N3 (uw (qv 3)) Da (bj (pv 3))))))
def uX:bG P w K mg base jd 1 t.Jj.f t.Jj.fd ic (mw mg 2 fJ):=
 eG t.Jj.h.fu sc__law_sums λcdv A outer s H E d=>
  have c:=d.units
  (av (be sc__law_sums.nd rfl (.inl rfl) (wn (bj (pv 1)) aB))
    (av (kX Uk rfl (c9 (bj (pv 1))) (aG sc__law_sums.nd rfl (.inl rfl)) (av (be sc__law_sums.nd rfl (.inl rfl) zD)
    (av (wv Uk rfl (qv 2) (cA rfl (aO (aG sc__law_sums.nd rfl (.inl rfl)) (aO (aG sc__law_sums.nd rfl (.inl rfl)) bZ (λ_ a _ b=>az a b)) (λ_ a _ b=>az a b))) (aN (kX Uk rfl (c9 (uz c (qv 0) (cG (ac (qv 5) (ac (qv 3) ax))) (fR ax) ⟨rfl,rfl,rfl,rfl⟩)) (cA rfl (aO (aG sc__law_sums.nd rfl (.inl rfl)) (aO (aG sc__law_sums.nd rfl (.inl rfl)) bZ (λ_ a _ b=>az a b)) (λ_ a _ b=>az a b))) (aN (zF c (pv 4) (qv 7) (cp (GK (by rfl)) (by rfl) t.rp (by decide +kernel) (ac (aL cg (qv 6) (qv 8)) (ac (uz c (qv 4) (qv 7) (aL cg (qv 6) (qv 8)) ⟨rfl,rfl,rfl,rfl⟩) ax))))))))
    (aN (be sc__law_sums.nd rfl (.inl rfl) (qv 4))))))
    (aN (bE (qv 2)))))
def uY:bG P w K mg base jd 1 t.Jl.f t.Jl.fd ie (mw mg 1 kJ):=
 t.Jl.h.fu.ok sc__law_rows (λ_ _ _ _ h=>h.1) λcdv A outer s H vs Q E a h=>
  ⟨_,aU (iq (i:=1) sc__law_rows.nd rfl (Or.inl rfl) iO)
    (aU (yn (fM Uk rfl (sU (pv 0)) (gx rfl (az (br (i:=2) sc__law_rows.nd rfl (Or.inl rfl)) (az (br (i:=3) sc__law_rows.nd rfl (Or.inl rfl)) dD)))
      (aW (bV (iN U1 UW UX du (iN T9 Uq UV (jY a.units) (pv 1)
        (ah (cv (ah (bA ix_tup (pv 2) aQ (λ_ _=>rfl)) (ah (bA ix_tup (pv 2) aQ (λ_ _=>rfl)) aC))) (ah (iu aC) aC))) (ah (cv (ah (bA ix_tup (pv 2) aQ (λ_ _=>rfl)) (ah (bA ix_tup (pv 3) aQ (λ_ _=>rfl)) aC))) aC))))))
    (aW (lJ (pv 1)))),zV G6 rfl h⟩
def lF:bG P w K mg base jd 1 t.HZ.f t.HZ.fd gq (mw mg 2 d8):=
 eG t.HZ.h.fu sc__law_taken λcdv A outer s H E g=>
  have e:=g.units
  (av (be sc__law_taken.nd rfl (.inr rfl) (fR (ac (bj (pv 1)) ax)))
    (av (kX Uk rfl (c9 (bj (pv 1))) (aG sc__law_taken.nd rfl (.inr rfl)) (aN (be sc__law_taken.nd rfl (.inr rfl) (rV (by rfl) (kY rfl (cz.of (osc:=ay d4) (N:=N__law_taken) (tN:=["_law_first","_law_seen","_law_last"]) (capN:=["_law_states","_law_sign"]) (caps:=[2,3]) rfl rfl (by decide +kernel)) (c9 (bj (pv 0))) (by decide) (λcl C c d fp=>(cA rfl (aO (aG fg rfl (.inl rfl)) (aO (aG fg rfl (.inl rfl)) (aO (aG fg rfl (.inl rfl)) bZ (λ_ a _ b=>az a b)) (λ_ a _ b=>az a b)) (λ_ a _ b=>az a b)))) (λcl C c d fp=>(j_ (PWD.pt (Gr (cM (oF e) (qv 1) (qv 4) (bY _)) (Dg (cM (ux e) (qv 0) (qv 3) (by rfl))))))) (λcl C c d fp=>(qv 2))) (by rfl) t.oj (by decide +kernel) (by rfl) t.Fe (by decide +kernel)))))
    (aN (bE (nI (Dc e) (kY rfl (cz.of (osc:=ay d4) (N:=N__law_taken) (tN:=["_law_state"]) (capN:=["_law_machine"]) (caps:=[0]) rfl rfl (by decide +kernel)) (c9 (qv 2)) (by decide) (λcl C c d fp=>(aG n9 rfl (.inl rfl))) (λcl C c d fp=>(j_ (cM (ux e) (qv 0) (bj (pv 1)) (by rfl)))) (λcl C c d fp=>(qv 0))) (fR ax) (bY _))))))
def sq:bG P w K mg base jd 1 t.Jk.f t.Jk.fd gr (mw mg 1 gs):=
 eG t.Jk.h.fu sh λcdv A outer s H E a=>
  have b:=a.units
  (aN (bE (uk (Dx Dv (by rfl) t.lH (by rfl) t.Fk (by decide +kernel) (qv 0)) (yh (Dd (Dx Bb (by rfl) t.lH (by rfl) t.HW (by decide +kernel) (qv 0)))))))
def Mx:bG P w K mg base jd 8 t.Fs.f t.Fs.fd Aa (mw mg 1 wX):=
 eG t.Fs.h.fu sc_law λcdv A outer s H E c=>
  have d:=c.units
  (av (f_ (a_ (oV t) (c.mono (by decide)) (by rfl) t.Jh.h cC (ac (qv 0) (ac aB ax)) (aw (aw aY))) (cA rfl (aO (aG sc_law.nd rfl (.inl rfl)) (aO (aG sc_law.nd rfl (.inl rfl)) bZ (λ_ a _ b=>az a b)) (λ_ a _ b=>az a b))))
    (av (dI sc_law.nd rfl (.inl rfl) (a_ (lq t) (c.mono (by decide)) (by rfl) t.Jg.h cC (ac (a_ (fU t) (c.mono (by decide)) (by rfl) t.Fy.h cC (ac (qv 0) (ac aB ax)) (aw (aw aY))) (ac (bj (pv 1)) (ac (bj (pv 1)) ax))) (aw (aw (aw aY)))))
    (av (dI sc_law.nd rfl (.inl rfl) (a_ (uW t) (c.mono (by decide)) (by rfl) t.Jn.h cC (ac (qv 1) (ac (qv 2) ax)) (aw (aw aY))))
    (av (be sc_law.nd rfl (.inl rfl) (cG (ac (bj (pv 3)) (ac (gv o9 (by rfl) t.m7 (by decide +kernel) (ac (bj (pv 3)) ax)) ax))))
    (av (dI sc_law.nd rfl (.inl rfl) (a_ (ES t) (c.mono (by decide)) (by rfl) t.Jv.h cC (ac (bj (pv 4)) (ac (bj (pv 4)) (ac (qv 5) ax))) (aw (aw (aw aY)))))
    (av (j6 (PWD.pt (Dh (cM (Dc d) (qv 4) (fR (ac (qv 1) (ac (qv 2) ax))) (bY _)) (zu (cM (Dc d) (qv 5) (qv 3) (bY _))))) (aN (bE NZ)) fF)
    (av (dI sc_law.nd rfl (.inr rfl) (a_ (uX t) (c.mono (by decide)) (by rfl) t.Jj.h cC (ac (a_ (uY t) (c.mono (by decide)) (by rfl) t.Jl.h cC (ac (a_ (tP t) (c.mono (by decide)) (by rfl) t.HY.h cC (ac (qv 1) (ac (qv 2) ax)) (aw (aw aY))) ax) (aw aY)) (ac (qv 3) ax)) (aw (aw aY))))
    (av (be sc_law.nd rfl (.inl rfl) (zY rfl d (by rfl) t.rp (kY rfl (cz.of (osc:=ay z_) (N:=N_law) (tN:=["_law_end"]) (capN:=["_law_sums_here"]) (caps:=[7]) rfl rfl (by decide +kernel)) (c9 (bj (pv 2))) (by decide) (λcl C e g fp=>(aG BP rfl (.inl rfl))) (λcl C e g fp=>(j_ (cM (ux d) (qv 0) (qv 1) (by rfl)))) (λcl C e g fp=>(zG d (qv 1) (qv 0) (λ_ _=>rfl))))))
    (av (j6 (uw (qv 8)) (aN (bE (uk (Ku (qv 6)) (yh (Dd (a_ (lF t) (c.mono (by decide)) (by rfl) t.HZ.h cC (ac (qv 2) (ac (qv 3) ax)) (aw (aw aY)))))))) fF)
    (aN (bE (uk (a_ (sq t) (c.mono (by decide)) (by rfl) t.Jk.h cC (ac (qv 6) ax) (aw aY)) (uk (nI (oF d) (qv 6) (qv 8) (bY _)) (yh (nI (oF d) (nI (oF d) (qv 8) aB (bY _)) (a_ (lF t) (c.mono (by decide)) (by rfl) t.HZ.h cC (ac (qv 2) (ac (qv 3) ax)) (aw (aw aY))) (bY _))))))))))))))))
end
def Qj{K KK:Xu}{mg:Str->Option Xw}{h:Heap}(X:K.In h)(G:h.Ns mainGlobals mg)(U:xw K KK)
 (Fy:FK K "_law_seed_at" gO) (Jq:FK K "_law_arrow_by" fS) (Jz:FK K "_law_machine_by" bH) (Jm:FK K "_law_rule_by" gS) (Jh:FK K "_law_made_by" dS) (Jf:FK K "_law_stack_by" fT) (Jg:FK K "_law_standing_by" dk) (Jn:FK K "_law_copy" kE) (Je:FK K "lowest_end" gf) (Jy:FK K "priced_from" iH) (Jd:FK K "sums_ahead" jo) (Jw:FK K "sums_along" jp) (Jx:FK K "is_plain" jq) (Fw:FK K "refuse_unless_plain" cw) (Fx:FK K "rules_by_start" eZ) (HY:FK K "prices" q_) (Jv:FK K "least" uT) (Jj:FK K "_law_sums" kG) (Jl:FK K "_law_rows" kI) (HZ:FK K "_law_taken" d4) (Jk:FK K "_law_whole" jv) (Fs:FK K "law" z_)
 (m:nsIn K mainGlobals "all"=some none)
 (k:nsIn K mainGlobals "bool"=some none)
 (d:nsIn K mainGlobals "divmod"=some none)
 (c:nsIn K mainGlobals "enumerate"=some none)
 (n:nsIn K mainGlobals "int"=some none)
 (a:nsIn K mainGlobals "isinstance"=some none)
 (o:nsIn K mainGlobals "len"=some none)
 (l:nsIn K mainGlobals "list"=some none)
 (p:nsIn K mainGlobals "min"=some none)
 (f:nsIn K mainGlobals "range"=some none)
 (q:nsIn K mainGlobals "set"=some none)
 (e:nsIn K mainGlobals "sorted"=some none)
 (g:nsIn K mainGlobals "tuple"=some none)
 {CQ:Addr} (R:CK K KK "Queue" CQ) (z:findIn KK (.ref CQ) "last"=some none) (A:findIn KK (.ref CQ) "piles"=some none)
 {CP:Addr} (S:CK K KK "Pricing" CP) (B:findIn KK (.ref CP) "rules"=some none) (C:findIn KK (.ref CP) "told"=some none) (D:findIn KK (.ref CP) "offers"=some none) (E:findIn KK (.ref CP) "settled"=some none) (F:findIn KK (.ref CP) "lacking"=some none)
 {H:Addr} (i:MK KK CQ "__init__" "Queue.__init__" Mn H)
 {I:Addr} (r:MK KK CQ "add" "Queue.add" Mo I)
 {J:Addr} (s:MK KK CQ "is_empty" "Queue.is_empty" Mp J)
 {L:Addr} (u:MK KK CQ "take_lowest" "Queue.take_lowest" HF L)
 {M:Addr} (j:MK KK CP "__init__" "Pricing.__init__" Mq M)
 {N:Addr} (v:MK KK CP "offer" "Pricing.offer" Mr N)
 {O:Addr} (w:MK KK CP "settle" "Pricing.settle" Ms O)
 {P:Addr} (x:MK KK CP "settle_first" "Pricing.settle_first" Mv P)
 {Q:Addr} (y:MK KK CP "settle_all" "Pricing.settle_all" Mw Q)
 : ∃t:Tx KK mg,True:=by
 obtain⟨Fy⟩:=df (ps:=dP) X G U Fy;obtain⟨Jq⟩:=df (ps:=c_) X G U Jq;obtain⟨Jz⟩:=df (ps:=cE) X G U Jz;obtain⟨Jm⟩:=df (ps:=dQ) X G U Jm;obtain⟨Jh⟩:=df (ps:=dU) X G U Jh;obtain⟨Jf⟩:=df (ps:=dc) X G U Jf;obtain⟨Jg⟩:=df (ps:=ck) X G U Jg;obtain⟨Jn⟩:=df (ps:=h8) X G U Jn;obtain⟨Je⟩:=df (ps:=gg) X G U Je;obtain⟨Jy⟩:=df (ps:=fA) X G U Jy;obtain⟨Jd⟩:=df (ps:=gh) X G U Jd;obtain⟨Jw⟩:=df (ps:=gn) X G U Jw;obtain⟨Jx⟩:=df (ps:=jr) X G U Jx;obtain⟨Fw⟩:=df (ps:=bW) X G U Fw;obtain⟨Fx⟩:=df (ps:=e_) X G U Fx;obtain⟨HY⟩:=df (ps:=mS) X G U HY;obtain⟨Jv⟩:=df (ps:=pA) X G U Jv;obtain⟨Jj⟩:=df (ps:=ic) X G U Jj;obtain⟨Jl⟩:=df (ps:=ie) X G U Jl;obtain⟨HZ⟩:=df (ps:=gq) X G U HZ;obtain⟨Jk⟩:=df (ps:=gr) X G U Jk;obtain⟨Fs⟩:=df (ps:=Aa) X G U Fs;have MW:=OS R i;obtain⟨Nd,rfl⟩:=mf (ps:=["self"]) i;obtain⟨H_,rfl⟩:=mf (ps:=["self","price","thing"]) r;obtain⟨MX,rfl⟩:=mf (ps:=["self"]) s;obtain⟨M8,rfl⟩:=mf (ps:=["self"]) u;have MZ:=OS S j;obtain⟨MS,rfl⟩:=mf (ps:=["self","house"]) j;obtain⟨yU,rfl⟩:=mf (ps:=["self","arrow","price","number","mid"]) v;obtain⟨Nf,rfl⟩:=mf (ps:=["self","arrow","price"]) w;obtain⟨MY,rfl⟩:=mf (ps:=["self","number","rule","mid","price"]) x;obtain⟨Nb,rfl⟩:=mf (ps:=["self"]) y;exact⟨⟨Fy,Jq,Jz,Jm,Jh,Jf,Jg,Jn,Je,Jy,Jd,Jw,Jx,Fw,Fx,HY,Jv,Jj,Jl,HZ,Jk,Fs,Ut X G m,Ut X G k,Ut X G d,Ut X G c,Ut X G n,Ut X G a,Ut X G o,Ut X G l,Ut X G p,Ut X G f,Ut X G q,Ut X G e,Ut X G g,CQ,⟨R.cl,z,A⟩,PySem.W.mg_of X G R.b,CP,⟨S.cl,B,C,D,E,F⟩,PySem.W.mg_of X G S.b,Nd,MW,H_,MX,M8,MS,MZ,yU,Nf,MY,Nb⟩,True.intro⟩
def My{l:PySem.W.OpenLaw}{w:World}{K:Xu}{mg:Str->Option Xw}{fa:Addr}(a:mg "law"=some (.ref fa)) (T:∃t:Tx K mg,True) :
 ∃fd:FuncData,(∀(s:Xt)(v:Xw),BindsTo s fd ⟨[v],[]⟩ [("_law_script",v)])/\∀base:Heap,bG l.prog w K mg base jd 8 fa fd ["_law_script"] (QU wX):=by
 obtain⟨t,_⟩:=T;have e:=a.symm.trans t.Fs.h.gl;cases e;obtain⟨oc,od,kV,doc,pm,an,cdv,ct,osl,b,lk,c⟩:=t.Fs.h.fu.ex;exact⟨t.Fs.fd,λs v=>by rw[b];exact .of_eq rfl,λbase=>bG.top (Mx t)⟩
end W
namespace W
open PySem L2 L3 L4
def rg(h:0<y)(a:y<1073741824):dJ [.val (.int x) f al,.val (.int y) g bl]=.ok (.val (.tup [.int (x/y),.int (x%y)]) true []):=Tv ⟨h,a⟩
def Mz(f:En->Res R)(env:En):Kt f env=(f env).bind λra=>.ok (.val (.bl ra.d.kR) true []):=(rfl)
def ET:uy [.new ds f]=.ok (jJ (.tup ds) f []):=(rfl)
def MA:GC [.val (.bl b) f al]=.ok (.val (.int (if b then 1 else 0)) true []):=(rfl)
def uZ(c:i<env.length)(d:j<env.length):EJ (gT 2 (aJ (gN i) (aJ (gN j) cb))) env (.val (.tup [a,b]) f [])=.ok (.nx ((env.set i (some (.val a f))).set j (some (.val b f)))):=by refine EK ?_;show(aJ (gN i) (aJ (gN j) cb)) [a,b] f env=_;rw[pz,Hv c];show(aJ (gN j) cb) [b] f _=_;rw[pz,Hv (by grind)];rfl
theorem Ai(k:List Int):∀l,(rS k l).length<=l.length+1
 |[]=>by simp[rS]
 |h::t=>by
  have:=Ai k t;unfold rS;split
  .simp
  .split<;>simp<;>lia
theorem w6:∀ks,(eJ ks).length<=ks.length
 |[]=>Tt _
 |k::r=>by have h1:=Ai k (eJ r);have a:=w6 r;unfold eJ;simp only[T2];lia
def Qk(a:r.d=.lst (ks.map iV))(h:ks.length<=63)(b:ks.all (λk=>!k.isEmpty)=true)(nd:ks.Nodup):Np [r]=.ok (.new ((eJ ks).map iV) true):=by
 simp_all [R,iV,Np,eJ,GL,lg]
abbrev vv(d:D)(f:Bool):Option Sl:=some (.val d f)
abbrev ow(d:List D)(f:Bool):Option Sl:=some (.own d f)
def sd(ns:List Int)(k:Int):Int:=((if k<ns.length then(fP ns k).getD 0 else 0)%2147483647+11)*48271*69621%2147483629
def EU(ns:List Int)(k:Int):0<=sd ns k:=by unfold sd;lia
def u4(ns:List Int)(k:Int)(c:0<=k):bT [.lst (ns.map .int),.int k]=.ok (.val (.int (sd ns k)) true []):=by
 by_cases h:k<ns.length
 .have hd:decide (k<(ns.length:Int))=true:=T4 h;obtain⟨a,b,_⟩:=Mm c h;have ha:fP (ns.map D.int) k=some (.int a):=by rw[HE,b];rfl
  simp_arith[bT,gR,TN,hd,ha];unfold sd;rw[Tv h,b];rfl
 .have hd:decide (k<(ns.length:Int))=false:=Uc h;simp_arith[bT,gR,TN,hd];unfold sd;rw[TJ h]
def fj(t:Pz.ba):(b7 t).flat=true:=(rfl)
def EV(t:Pz.ba):(b7 t).dep<=1:=Tt _
def jA(r:Pz.aX):(dM r).flat=true:=by unfold dM;simp only[wQ,jk,qV,cj,tO,WT]
def BQ(r:Pz.aX):(dM r).dep<=2:=by have:=i8 r.2.2.2;unfold dM;simp only[mM,eY,mL,gM];lia
structure RR(ro sg:Int) (r:Pz.aX):Prop where
 a:0<=r.1/\r.1<ro
 s:0<=r.2.1/\r.2.1<sg
 t:0<=r.2.2.1/\r.2.2.1<ro
 p:r.2.2.2.length<=2
 q:∀x∈r.2.2.2,0<=x/\x<sg
def Mc(n:Int)(ts:List Pz.ba)(es:List Int):D:=.tup [.int n,.lst (ts.map b7),.lst (es.map .int)]
def d9(n:Int)(ts:List Pz.ba)(es:List Int):(Mc n ts es).flat=false:=by constructor<;>grind
structure PM(ro sg n:Int) (ts:List Pz.ba) (es:List Int):Prop where
 rn:ro<=n
 SU:n<=ro+22
 arr:∀t∈ts,0<=t.1/\t.1<n/\0<=t.2.1/\t.2.1<sg/\ro<=t.2.2/\t.2.2<n
 lt:ts.length<=29
 nd:ts.Nodup
 ends:∀e∈es,0<=e/\e<n
 le:es.length<=6
def Hs(ro sg:Int)(RL:List Pz.aX):D:=.tup [.int ro,.int sg,.lst (RL.map dM)]
def rh(h:f env=.ok (.val (.lst ds) fr al)):dv n caps (iU f) asg ft fe env=lE n caps asg ft fe env ⟨ds,fr,al⟩:=by rw[lX,Ex,h];rfl
def jB(ro sg:Int)(RL:List Pz.aX):(Hs ro sg RL).flat=false:=by constructor<;>grind
def MB(ro sg:Int)(RL:List Pz.aX):(Hs ro sg RL).dep<=4:=by have:=qY (g:=dM) (xs:=RL) BQ;unfold Hs;simp only[mM,eY,mL,gM,k_];lia
def MC(n:Int)(ts:List Pz.ba)(es:List Int):(Mc n ts es).dep<=3:=by have:=qY (g:=b7) (xs:=ts) EV;have:=i8 es;unfold Mc;simp only[mM,eY,mL,gM,k_];lia
def EW(P:PM ro sg n ts es):bX [Hs ro sg RL,Mc n ts es]=.ok (.val .bn true []):=by
 have a:js [Hs ro sg RL,Mc n ts es]=.ok (.val (.bl true) true []):=by
  have f:=P.lt;have h:=i7 (mk:=λd=>gN 0 d false (gY [vv (Hs ro sg RL) false,vv (Mc n ts es) false] 1 [0])) (test:=λ_=>.ok true) (elt:=dZ) b7 (λ_=>.val (.bl true) true []) ts λt b=>⟨_,rfl,rfl,by show dZ [vv (b7 t) false,vv (Hs ro sg RL) false]=_;have:=P.arr t b;have hd:decide (ro<=t.2.2)=true:=T4 (by lia);unfold b7 Hs;simp_arith[dZ,hd]⟩;have e:dv 1 [0] (iU (bI 1 (vC (.int 1)))) (gN 0) (λ_=>.ok true) dZ [vv (Hs ro sg RL) false,vv (Mc n ts es) false]=.ok (.new (ts.map λ_=>D.bl true) true):=by have g:D.bw (ts.map b7)=true:=bD _ _ fj;rw[rh (ds:=ts.map b7) (fr:=false) (al:=[]) (by unfold Mc;simp_arith)];rw[gc (by grind) h,mP,dN,iG (bD _ _ λc=>rfl)]
  simp_arith[-lX,js,q5,e,BM]
 simp_arith[bX,eU,jB,d9,a]
noncomputable def og(ro sg n:Int):List Pz.ba:=(List.range ro.toNat).flatMap λa=>(List.range sg.toNat).flatMap λs=>(List.range n.toNat).map λt=>(((a:Nat):Int),((s:Nat):Int),((t:Nat):Int))
def univ_mem:((a,s,t):Pz.ba)∈og ro sg n↔(0<=a/\a<ro)/\(0<=s/\s<sg)/\0<=t/\t<n:=by
 unfold og;simp only[Xn,TV,Ur,Prod.mk.injEq];constructor
 .rintro⟨x,b,y,c,z,hz,rfl,rfl,rfl⟩;lia
 .rintro⟨h1,d,e⟩;exact⟨a.toNat,by lia,s.toNat,by lia,t.toNat,by lia,by lia,by lia,by lia⟩
def BR{α:Type}(c:Nat):∀l:List α,(l.map λ_=>c).sum=l.length*c:=by intro l;induction l<;>grind
def EX(ro sg n:Int):(og ro sg n).length=ro.toNat*(sg.toNat*n.toNat):=by
 simp_all [og,BR]
def jC(t:Pz.TD):(fI t).flat=false:=kz _ _
def IW(c ro sg:Int):Pz.aX:=
 let n:=c*48271%2147483647
 (n/3%6%ro,n/3/6%60%sg,n/3/6/60%6%ro,dG [n/3/6/60/6%60%sg,n/3/6/60/6/60%sg] none (some (n%3)))
def HG(c ro sg:Int)(h1:0<ro)(d:0<sg):dR [.int c,.int ro,.int sg]=.ok (.val (dM (IW c ro sg)) true []):=by have e:∀a b:Int,∀k:Option Int,dG [D.int a,D.int b] none k=(dG [a,b] none k).map D.int:=λa b k=>wR D.int [a,b] none k;simp_arith[dR,kA,h1,d,rg,uZ,e,cj,ET];rfl
def ME(c ro sg:Int)(h1:0<ro)(d:0<sg):RR ro sg (IW c ro sg):=
 have e:∀a b:Int,0<b->0<=a%b/\a%b<b:=λa b h=>⟨V8 _ (by lia),VH _ h⟩
 ⟨e _ _ h1,e _ _ d,e _ _ h1,EN _ _ _,λx f=>by
   have:=EO _ _ _ x f;rcases TH.mp this with h|h
   .rw[h];exact e _ _ d
   .rw[T8.mp h];exact e _ _ d⟩
noncomputable def BS(c ro own sg:Int):Pz.ba:=
 let n:=c*69621%2147483629
 (n%60%(ro+own),n/60%60%sg,ro+n/60/60%own)
def EY(c ro own sg:Int)(h1:0<ro)(a:0<own)(b:0<sg):db [.int c,.int ro,.int own,.int sg]=.ok (.val (b7 (BS c ro own sg)) true []):=by
 have d:0<ro+own:=by lia
 simp_arith[db,jL,d,a,b,rg,uZ];rfl
def MF(c ro own sg:Int)(h1:0<ro)(d:0<own)(e:0<sg):0<=(BS c ro own sg).1/\(BS c ro own sg).1<ro+own/\0<=(BS c ro own sg).2.1/\(BS c ro own sg).2.1<sg/\ro<=(BS c ro own sg).2.2/\(BS c ro own sg).2.2<ro+own:=by unfold BS;have a:=V8 (c*69621%2147483629/60/60) (show own≠0 by lia);have b:=VH (c*69621%2147483629/60/60) d;refine⟨V8 _ (by lia),VH _ (by lia),V8 _ (by lia),VH _ e,?_,?_⟩<;>(simp only[];lia)
def Ql(a:r.d=.lst (ks.map iV))(h:ks.length<=63)(b:ks.all (λk=>!k.isEmpty)=true):IA r=.ok (.new ((eJ ks).map iV) true):=by grind [IA,GH,lg,iV]
noncomputable def IX:List Int->Pz.ba
 |[a,b,c]=>(a,b,c)
 |_=>(0,0,0)
noncomputable def w8(t:Pz.ba):List Int:=[t.1,t.2.1,t.2.2]
def fq(ts:List Pz.ba):List Pz.ba:=(eJ (ts.map w8)).map IX
def w_(ts:List Pz.ba):(fq ts).length<=ts.length:=by grind [w6,w8,fq]
def Aj(ts:List Pz.ba):(eJ (ts.map w8)).map iV=(fq ts).map b7:=by unfold fq;rw[T7];refine U0 λk a=>?_;obtain⟨t,_,rfl⟩:=TV.mp ((iW k _).mp a);rfl
theorem jD(t:Pz.ba):IX (w8 t)=t:=(rfl)
theorem xa(ts:List Pz.ba)(t:Pz.ba):t∈fq ts↔t∈ts:=by induction ts<;>grind [fq,w8,iW,jD]
theorem lh{α c:Type}(f:α->c):∀{l:List α},l.Nodup->(∀a∈l,∀b∈l,f a=f b->a=b)->(l.map f).Nodup
 |[],_,_=>by simp
 |a::r,h,d=>by
  have h':=UA.mp h;rw[Tw,UA];refine⟨λi=>?_,lh f h'.2 λx e y g=>d x (by simp[e]) y (by simp[g])⟩
  grind
def ri(ts:List Pz.ba):(fq ts).Nodup:=by
 unfold fq;refine lh _ ((pd _).imp λ{a b} h e=>?_) λa ha b c e=>?_
 .subst e;rw[mo]at h;cases h
 .grind [iW,jD]
def yM(ts:List Pz.ba)(h:ts.length<=63)(a:r.d=.lst (ts.map b7)):IA r=.ok (.new ((fq ts).map b7) true):=by
 have e:r.d=.lst ((ts.map w8).map iV):=by rw[a,T7];rfl
 rw[Ql e (by grind) (by rw[Xq,UK];intro t _;rfl),Aj]
def MG(ts:List Pz.ba)(h:ts.length<=63)(nd:ts.Nodup)(c:r.d=.lst (ts.map b7)):Np [r]=.ok (.new ((fq ts).map b7) true):=by
 have e:r.d=.lst ((ts.map w8).map iV):=by rw[c,T7];rfl
 rw[Qk e (by grind) (by rw[Xq,UK];intro t _;rfl) (lh w8 nd λa _ b _ e=>by rw[<- jD a,e,jD]),Aj]
noncomputable def rl(ro:Int)(k:Nat):Pz.ba:=(ro,(k:Int),ro)
noncomputable def IY(bits:Int)(k:Nat):Bool:=Builtin.bitAnd (bits/2^((k:Int)).toNat) 1==1
def jE(bits:Int)(n:Nat):List Int:=((List.range n).filter (IY bits)).map λk=>((k:Nat):Int)
def EZ(bits:Int)(n:Nat):(jE bits n).length<=n:=by grind [jE]
def HH(bits:Int)(n:Nat):∀e∈jE bits n,0<=e/\e<n:=λe a=>by grind [jE]
section
variable{e0 e1 e2 e3 e4 e5 e6 e7 e8:Option Sl}{g1 g2 g3 fr:Bool}
def Sn(n:Nat)(a:n<=1000000):lE 1 [2] (gN 0) (λ_=>.ok true) bJ [e0,e1,vv (.int ro) g1,e3,e4,e5,e6,e7,e8] ⟨fW 0 n,fr,[]⟩=.ok (.new (((List.range n).map (rl ro)).map b7) true):=by have h:=i7 (mk:=λd=>gN 0 d fr (gY [e0,e1,vv (.int ro) g1,e3,e4,e5,e6,e7,e8] 1 [2])) (test:=λ_=>.ok true) (elt:=bJ) (λk:Nat=>D.int k) (λk:Nat=>.val (b7 (rl ro k)) true []) (List.range n) λk b=>⟨_,rfl,rfl,by show bJ [vv (.int (k:Nat)) fr,vv (.int ro) g1]=_;simp_arith[bJ];rfl⟩;rw[px,gc (by grind) h,mP,dN,iG (bD _ _ λc=>rfl),T7];rfl
def Sq(h1:0<ro)(a:0<own)(b:0<sg)(xs:List Int)(e:xs.length<=1000000):lE 1 [2,3,4] (gN 0) (λ_=>.ok true) bx [e0,e1,vv (.int ro) g1,vv (.int own) g2,vv (.int sg) g3,e5,e6,e7,e8] ⟨xs.map .int,fr,[]⟩=.ok (.new ((xs.map λc=>BS c ro own sg).map b7) true):=by have h:=i7 (mk:=λd=>gN 0 d fr (gY [e0,e1,vv (.int ro) g1,vv (.int own) g2,vv (.int sg) g3,e5,e6,e7,e8] 1 [2,3,4])) (test:=λ_=>.ok true) (elt:=bx) D.int (λc=>.val (b7 (BS c ro own sg)) true []) xs λc f=>⟨_,rfl,rfl,by show bx [vv (.int c) fr,vv (.int ro) g1,vv (.int own) g2,vv (.int sg) g3]=_;simp_arith[bx,EY c ro own sg h1 a b,fj]⟩;rw[gc (by grind) h,mP,dN,iG (bD _ _ λc=>rfl),T7];rfl
def Qm(n:Nat)(b:n<=1000000):lE 1 [0] (gN 0) bK bL [vv (.int c) g1,e1,e2,e3,e4,e5,e6,e7,e8] ⟨fW 0 n,fr,[]⟩=.ok (.new ((jE (c/10%32) n).map .int) true):=by
 have h:=cN (mk:=λd=>gN 0 d fr (gY [vv (.int c) g1,e1,e2,e3,e4,e5,e6,e7,e8] 1 [0])) (test:=bK) (elt:=bL) (λk:Nat=>D.int k) (IY (c/10%32)) (λk=>.val (.int k) true []) (List.range n) λk e=>⟨_,rfl,by
  show bK [vv (.int (k:Nat)) fr,vv (.int c) g1]=_;have a:(0:Int)<=((k:Nat):Int):=by lia
  simp_arith[bK,a,rY];rfl,λ_=>by
  show bL [vv (.int (k:Nat)) fr,vv (.int c) g1]=_;simp_arith[bL]⟩
 rw[px,gc (by grind) h,mP,dN,iG (bD _ _ λc=>rfl)];unfold jE;rw[T7];rfl
end
def Qn(c:Int)(N:0<=c)(xs:List Int)(O:xs.length<=9)(ro own sg:Int)(h1:0<ro)(H:ro<=3)(P:0<=own)(I:own<=2)(r:own=0->xs=[])(m:0<sg)(J:sg<=5) :
 ∃n ts es al,PM ro sg n ts es/\(c/320%4<2->ts.length<=9/\es.length<=5/\n<=ro+2)/\bv [.int c,.lst (xs.map .int),.int ro,.int own,.int sg]=.ok (.val (Mc n ts es) true al):=by
 have s:D.bw (List.map D.int xs)=true:=cj _;generalize o:c/320%4=g;have em:∀a b:Int,0<b->0<=a%b/\a%b<b:=λa b h=>⟨V8 _ (by lia),VH _ h⟩;have s1:-4611686018427387904<=sg:=by lia
 have s2:sg<4611686018427387904:=by lia
 have z:-4611686018427387904<=ro+own:=by lia
 have A:ro+own<4611686018427387904:=by lia
 by_cases B:g=2
 .have j:(g==2)=true:=V_.mpr B;generalize C:c/1280%ro=a;generalize E:c/7680%sg=b;have ha:0<=a/\a<ro:=by rw[<- C];exact em _ _ h1
  have Q:0<=b/\b<sg:=by rw[<- E];exact em _ _ m
  have nd:((a,b,ro)::(List.range sg.toNat).map (rl ro)).Nodup:=by
   rw[UA];refine⟨λh=>?_,lh _ VZ λx _ y _ e=>?_⟩
   .obtain⟨k,_,e⟩:=TV.mp h;have:ro=a:=Vv (λt:Pz.ba=>t.1) e;lia
   .have:(x:Int)=(y:Int):=Vv (λt:Pz.ba=>t.2.1) e;lia
  have R:((a,b,ro)::(List.range sg.toNat).map (rl ro)).length<=6:=by simp;lia
  have al:=w_ ((a,b,ro)::(List.range sg.toNat).map (rl ro));refine⟨ro+1,fq ((a,b,ro)::(List.range sg.toNat).map (rl ro)),[ro],?_,⟨by lia,by lia,λt i=>?_,by lia,ri _,λe p=>?_,by simp⟩,λh=>by lia,?_⟩
  rotate_left
  .grind [xa,rl]
  .rw[T8]at p;lia
  .have d:∀f,Np [.new (D.tup [.int a,.int b,.int ro]::((List.range sg.toNat).map (rl ro)).map b7) f]=.ok (.new ((fq ((a,b,ro)::(List.range sg.toNat).map (rl ro))).map b7) true):=λf=>MG ((a,b,ro)::(List.range sg.toNat).map (rl ro)) (by lia) nd (mN _ f);have fl:D.bw (((List.range sg.toNat).map (rl ro)).map b7)=true:=bD _ _ fj;have u:[D.tup [.int a,.int b,.int ro]].length+(((List.range sg.toNat).map (rl ro)).map b7).length<=1000000:=by simp;lia
   simp_arith[bv,b5,o,rY,j,h1,m,C,E,z4,s1,s2,Sn sg.toNat (show sg.toNat<=1000000 by lia),Lr u,fl,d];rfl
 .have j:(g==2)=false:=VS.mpr B;by_cases F:g=3
  .have q:(g==3)=true:=V_.mpr F;refine⟨ro,[],(List.range ro.toNat).map λk=>((k:Nat):Int),?_,⟨by lia,by lia,λt i=>(nomatch i),by simp,Ub,λe p=>?_,by simp;lia⟩,λh=>by lia,?_⟩
   rotate_left
   .grind
   .have r:0<=ro:=by lia
    have K:ro<=1000:=by lia
    simp_arith[bv,b5,o,rY,j,q,EM r K,px];unfold Mc;rw[T7];rfl
  .have q:(g==3)=false:=VS.mpr F;have L:=EZ (c/10%32) (ro+own).toNat;have ends:∀e∈jE (c/10%32) (ro+own).toNat,0<=e/\e<ro+own:=λe p=>by have:=HH _ _ e p;lia
   have G:(ro+own).toNat<=1000000:=by lia
   by_cases M:own=0
   .have v:∀f al,IA (.val (.lst []) f al)=.ok (.new [] true):=λf al=>yM [] (by simp) (lb _ f al);have d:∀f,IA (.new [] f)=.ok (.new [] true):=λf=>yM [] (by simp) (mN _ f);refine⟨ro+own,[],jE (c/10%32) (ro+own).toNat,?_,⟨by lia,by lia,λt i=>(nomatch i),by simp,Ub,ends,by lia⟩,λ_=>⟨by simp,by lia,by lia⟩,?_⟩
    rotate_left
    .have w:∀(env:En)(fr:Bool),lE 1 [2,3,4] (gN 0) (λ_=>.ok true) bx env ⟨[],fr,[]⟩=.ok (.new [] true):=λ_ _=>rfl;rw[r M];simp_arith[bv,b5,o,rY,j,q,w,v,d,Qm (c:=c) (ro+own).toNat G,z4,z,A,cj];rfl
   .have l:0<own:=by lia
    have al:=w_ (xs.map λc=>BS c ro own sg);rw[TN]at al;refine⟨ro+own,fq (xs.map λc=>BS c ro own sg),jE (c/10%32) (ro+own).toNat,?_,⟨by lia,by lia,λt i=>?_,by lia,ri _,ends,by lia⟩,λ_=>⟨by lia,by lia,by lia⟩,?_⟩
    rotate_left
    .obtain⟨x,_,rfl⟩:=TV.mp ((xa _ t).mp i);exact MF x ro own sg h1 l m
    .have v:∀f al,IA (.val (.lst ((xs.map λc=>BS c ro own sg).map b7)) f al)=_:=λf al=>yM _ (by grind) (lb _ f al);simp_arith[bv,b5,o,rY,j,q,s,Sq h1 l m xs (show xs.length<=1000000 by lia),v,Qm (c:=c) (ro+own).toNat G,z4,z,A,cj];rfl
def HI:h_ [Hs ro sg RL,Mc n ts es]=.ok (.new [Hs ro sg RL,Mc n ts es] true):=by have a:D.bw (RL.map dM)=true:=bD _ _ jA;have b:D.bw (ts.map b7)=true:=bD _ _ fj;have c:D.bw (es.map D.int)=true:=cj _;unfold Hs Mc;simp_arith[h_,oQ,a,b,c,Mj]
def xb(d:ro<=3)(s2:sg<=5)(e:n<=25):(og ro sg n).length<=375:=by
 rw[EX];have a:ro.toNat<=3:=by lia
 have b:sg.toNat<=5:=by lia
 have c:n.toNat<=25:=by lia
 exact Ua (Wj a (Wj b c)) (by decide)
def MH(j:0<ro)(f:ro<=3)(s1:0<sg)(s2:sg<=5)(b:∀r∈RL,RR ro sg r)(e:RL.length<=60)(P:PM ro sg n ts es):Pz.Set RL ts (ts++og ro sg n):=by
 have l:=P.SU;have g:=P.rn;have i:=P.lt;have u:=xb (n:=n) f s2 (by lia);have c:(ts++og ro sg n).length<=404:=by rw[T_];lia
 have d:∀s x t:Int,((s,x,t):Pz.ba)∈ts++og ro sg n->0<=t/\t<n:=λs x t h=>by
  rcases T1.mp h with h|h
  .have:=P.arr _ h;simp only[]at this;lia
  .exact(univ_mem.mp h).2.2
 refine⟨λr h=>(b r h).p,λa h=>T1.mpr (.inl h),λr h=>T1.mpr (.inr (univ_mem.mpr ⟨(b r h).a,(b r h).s,?_⟩)),λr h s x t k=>T1.mpr (.inr (univ_mem.mpr ⟨(b r h).a,(b r h).s,d s x t k⟩)),?_,?_,?_⟩
 .have:=(b r h).t;lia
 .have:RL.length*((ts++og ro sg n).length*(ts++og ro sg n).length)<=60*(404*404):=Wj e (Wj c c);unfold Pz.L;lia
 .have:RL.length*(ts++og ro sg n).length<=60*404:=Wj e c;unfold Pz.L;lia
 .unfold Pz.L;lia
def BU(c:0<ro)(b:ro<=3)(s1:0<sg)(s2:sg<=5)(d:∀r∈RL,RR ro sg r)(e:RL.length<=60)(P:PM ro sg n ts es) :
 ∃t,kF [Hs ro sg RL,Mc n ts es]=.ok (.g8 (fI t))/\Pz.Good RL ts (ts++og ro sg n) t/\t.length<=404:=by
 obtain⟨t,h,G⟩:=Lg (MH c b s1 s2 d e P) (EW P);refine⟨t,h,G,?_⟩;have i:=P.SU;have f:=P.lt;have u:=xb (n:=n) b s2 (by lia);have:=Pz.mH _ (ts++og ro sg n) G.nd λa ha=>by obtain⟨x,g,rfl⟩:=TV.mp ha;exact G.u x.1 x.2 (Pz.qJ G.nd (by obtain⟨a,v⟩:=x;exact g))
 rw[TN,T_]at this;lia
theorem Ak{a:Type}(el:Pz.ba×Pz.nh->a)(k:Int×Int):∀(t:Pz.TD)(d:Pz.MD (Int×Int) a),(t.foldl (λd x=>d.app (x.1.1,x.1.2.1) (el x)) d).get k=d.get k++(t.filter λx=>decide ((x.1.1,x.1.2.1)=k)).map el
 |[],d=>by simp
 |x::t,d=>by
  rw[Vo,Ak el k t,Pz.pj,VY]
  grind
def rj{a:Type}(el:Pz.ba×Pz.nh->a)(k:Int×Int)(t:Pz.TD):(jj el t).get k=(t.filter λx=>decide ((x.1.1,x.1.2.1)=k)).map el:=by unfold jj;rw[Ak];rfl
theorem E1{a:Type}(eD:a->D)(k:Int×Int):∀d:Pz.MD (Int×Int) a,getD (d.map λe=>(.inr (k2 e.1):DK)) (d.map λe=>.lst (e.2.map eD)) (.inr (k2 k))=if d.has k then some (.lst ((d.get k).map eD))else none
 |[]=>rfl
 |x::d=>by
  have b:=E1 eD k d;rw[Tw,Tw];unfold getD;rw[b,Pz.cY];unfold Pz.MD.has
  grind [qN]
def HJ{b:Type}(k:Int×Int)(d:Pz.MD (Int×Int) b)(h:d.has k=false):d.get k=[]:=by
 induction d with
 |nil=>rfl
 |cons x d a=>unfold Pz.MD.has at h a;rw[VF,Bool.or_eq_false_iff]at h;rw[Pz.cY,TJ (of_decide_eq_false h.1)];exact a h.2
def MI{a:Type}(k:Int×Int)(d:Pz.MD (Int×Int) a):(d.map λe=>(.inr (k2 e.1):DK)).all (lT (.inr (k2 k)))=true:=by rw[Xq,UK];intro x _;rfl
def Al{c:Type}{eD:c->D}{d:Pz.MD (Int×Int) c}{fa fk fx:En->Res R}{env:En}{f:Bool}{a b:Int}{r:R}(h1:fa env=.ok (.val (rF eD d) f []))(g:fk env=.ok r)(i:r.d=.tup [.int a,.int b])(j:fx env=.ok (.new [] true)) :
 ∃f',mC fa fk fx env=.ok (.val (.lst ((d.get (a,b)).map eD)) f' []):=by
 have k:ga r.d=some (.inr (k2 (a,b))):=by rw[i];rfl
 have e:mC fa fk fx env=KQ (.val (rF eD d) f []) (d.map λe=>(.inr (k2 e.1):DK)) (d.map λe=>.lst (e.2.map eD)) r (.new [] true):=by rw[nZ,h1,qW,IS (ks:=d.map λe=>(.inr (k2 e.1):DK)) (ds:=d.map λe=>.lst (e.2.map eD)) rfl,g,qW,EL,j,qW]
 rw[e];unfold KQ;rw[k];dsimp only;rw[Tv (MI (a,b) d),E1];cases h:d.has (a,b)with
 |true=>exact⟨f,by rw[Tv rfl];dsimp only;rw[qT (mK _)];rfl⟩
 |false=>exact⟨true,by rw[TJ (by simp),HJ _ _ h];dsimp only;rw[mN,qT (mK _)];rfl⟩
def fK{a:Type}(eD:a->D)(d:Pz.MD (Int×Int) a):(rF eD d).flat=false:=kz _ _
def E2(h1:0<ro)(a:0<sg)(xs:List Int)(b:xs.length<=1000000):lE 1 [4,5] (gN 0) (λ_=>.ok true) bO [e0,e1,e2,e3,vv (.int ro) g4,vv (.int sg) g5,e6,e7,e8,e9] ⟨xs.map .int,fr,[]⟩=.ok (.new ((xs.map λc=>IW c ro sg).map dM) true):=by have h:=i7 (mk:=λd=>gN 0 d fr (gY [e0,e1,e2,e3,vv (.int ro) g4,vv (.int sg) g5,e6,e7,e8,e9] 1 [4,5])) (test:=λ_=>.ok true) (elt:=bO) D.int (λc=>.val (dM (IW c ro sg)) true []) xs λc e=>⟨_,rfl,rfl,by show bO [vv (.int c) fr,vv (.int ro) g4,vv (.int sg) g5]=_;simp_arith[bO,HG c ro sg h1 a,jA]⟩;rw[gc (by grind) h,mP,dN,iG (bD _ _ λc=>jA _),T7];rfl
def Am{α:Type}(xs:List α)(a b:Int)(ha:0<=a)(c:0<=b):(dG xs (some a) (some (a+b))).length<=b.toNat:=by
 unfold dG;rw[Vp,Xj];have e1:HT.sIx xs.length 0 (some a)=min a.toNat xs.length:=by have:=HT.sIx_nat xs.length 0 a.toNat;rw[Int.toNat_of_nonneg ha]at this;exact this
 have e2:HT.sIx xs.length xs.length (some (a+b))=min (a+b).toNat xs.length:=by have:=HT.sIx_nat xs.length xs.length (a+b).toNat;rw[Int.toNat_of_nonneg (by lia)]at this;exact this
 rw[e1,e2];refine Ua (Nat.min_le_left _ _) ?_;generalize xs.length=n;lia
def HK(ns:List Int)(M:ns.length<=63)(d:Int)(w:0<=d)(x:d<=60) :
 ∃ro sg RL n ts es al,0<ro/\ro<=3/\0<sg/\sg<=5/\(∀r∈RL,RR ro sg r)/\RL.length<=d.toNat/\PM ro sg n ts es/\dW [.lst (ns.map .int),.int d]=.ok (.val (.tup [Hs ro sg RL,Mc n ts es]) true al):=by
 have y:=EU ns 0;have q1:=EU ns 1;have k0:=u4 ns 0 (by decide);have k1:=u4 ns 1 (by decide);generalize sd ns 0=shape at y k0;generalize sd ns 1=f at q1 k1;generalize m:1+shape%3=ro;generalize o:1+shape/3%5=sg;generalize p:shape/15%3=own;generalize e:f%10*(if decide (0<own)then 1 else 0)=a;have l:0<ro:=by lia
 have u:ro<=3:=by lia
 have s1:0<sg:=by lia
 have s2:sg<=5:=by lia
 have o1:0<=own:=by lia
 have z:own<=2:=by lia
 have A:0<=a/\a<=9/\(own=0->a=0):=by
  by_cases h:0<own
  .rw[T4 h]at e;simp only[Vd]at e;lia
  .rw[Uc h]at e;simp only[TY,UI]at e;lia
 obtain⟨m0,N,B⟩:=A;have v:=Am ns 4 a (by decide) m0;have C:=Am ns (4+a) d (by lia) w;have E:own=0->dG ns (some 4) (some (4+a))=[]:=λh=>by rw[B h]at v ⊢;exact UD.mp (by simpa using v)
 obtain⟨n,ts,es,al,pm,_,q⟩:=Qn f q1 (dG ns (some 4) (some (4+a))) (by lia) ro own sg l u o1 z E s1 s2;have s:D.bw (ns.map D.int)=true:=cj _;have g:∀{e0 e1 e2 e3 e6 e7 e8 F:Option Sl}{G g5 fr:Bool},lE 1 [4,5] (gN 0) (λ_=>.ok true) bO [e0,e1,e2,e3,vv (.int ro) G,vv (.int sg) g5,e6,e7,e8,F] ⟨(dG ns (some (4+a)) (some (4+a+d))).map .int,fr,[]⟩=_:=λ{_ _ _ _ _ _ _ _ _ _ _}=>E2 l s1 _ (by lia);have H:∀b:Bool,(-18446744073709551616:Int)<(if b then 1 else 0):=λb=>by cases b<;>decide
 have I:∀b:Bool,(if b then 1 else 0:Int)<18446744073709551616:=λb=>by cases b<;>decide
 have i:∀r∈(dG ns (some (4+a)) (some (4+a+d))).map (λc=>IW c ro sg),RR ro sg r:=λr J=>by obtain⟨c,_,rfl⟩:=TV.mp J;exact ME c ro sg l s1
 have j:((dG ns (some (4+a)) (some (4+a+d))).map (λc=>IW c ro sg)).length<=d.toNat:=by rw[TN];exact C
 have k:D.bw (((dG ns (some (4+a)) (some (4+a+d))).map (λc=>IW c ro sg)).map dM)=true:=bD _ _ jA;have t:∀lo K,D.bw ((dG ns lo K).map D.int)=true:=λ_ _=>cj _;generalize L:(dG ns (some (4+a)) (some (4+a+d))).map (λc=>IW c ro sg)=RL at g i j k;refine⟨ro,sg,RL,n,ts,es,?_,l,u,s1,s2,i,j,pm,?_⟩
 rotate_left
 .simp_arith[dW,kC,k0,k1,m,o,p,MA,e,H,I,wR,t,q,d9,g,s,k];rfl
noncomputable def oW(t:Pz.TD):Int->List Int->Int->Int->Prop
 |a,[],b,v=>b=a/\v=0
 |a,x::w,b,v=>∃m p u,Pz.At t (a,x,m) p/\oW t m w b u/\v=p+u
def pth_app{a:Int}:oW t a (w++z) b v↔∃m u p,oW t a w m u/\oW t m z b p/\v=u+p:=by
 induction w generalizing a v with
 |nil=>simp only[List.nil_append,oW];grind
 |cons x w f=>
  simp only[List.cons_append,oW,f];constructor
  .rintro⟨m,p,_,h1,⟨c,u2,p2,d,e,rfl⟩,rfl⟩;exact⟨c,p+u2,p2,⟨m,p,u2,h1,d,rfl⟩,e,by lia⟩
  .rintro⟨c,_,p2,⟨m,p,u2,h1,d,rfl⟩,e,rfl⟩;exact⟨m,p,u2+p2,h1,⟨c,u2,p2,d,e,rfl⟩,by lia⟩
def pth_one:oW t a [x] b v↔Pz.At t (a,x,b) v:=by simp only[oW];grind
section
variable{β:Type}
noncomputable abbrev AL(β:Type):=List (Int×β)
noncomputable def bP:AL β->Int->Option β
 |[],_=>none
 |x::l,k=>if x.1=k then some x.2 else bP l k
noncomputable def jF:AL β->Int->β->AL β
 |[],k,v=>[(k,v)]
 |x::l,k,v=>if x.1=k then(k,v)::l else x::jF l k v
def aD(w:β->D)(l:AL β):D:=.cU (l.map λx=>ik x.1) (l.map λx=>w x.2)
def MJ(h:ik a=ik b):a=b:=by unfold ik at h;injection h with h;injection h
theorem u5{a b:Int}:ik a=ik b↔a=b:=⟨MJ,λh=>by rw[h]⟩
def E3(w:β->D)(k:Int)(l:AL β):getD (l.map λx=>ik x.1) (l.map λx=>w x.2) (ik k)=(bP l k).map w:=by
 induction l with
 |nil=>rfl
 |cons x l a=>simp only[Tw,getD,u5,a,bP];split<;>rfl
def tQ(k:Int)(l:AL β):(l.map λx=>ik x.1).all (lT (ik k))=true:=by rw[Xq,UK];intro x _;rfl
def IZ(k:Int)(l:AL β):nN (l.map λx=>ik x.1) (ik k)=(bP l k).isSome:=by
 induction l with
 |nil=>rfl
 |cons x l a=>unfold nN at *;grind [u5,bP]
def Qo(k:Int)(v:β)(l:AL β):bP l k=none->jF l k v=l++[(k,v)]:=by induction l<;>grind [bP,jF]
def Qp(w:β->D)(k:Int)(v:β)(l:AL β)(h:¬k∈l.map (·.1)):ti (l.map λx=>ik x.1) (l.map λx=>w x.2) (ik k) (w v)=l.map λx=>w x.2:=by
 induction l with
 |nil=>rfl
 |cons x l a=>simp only[Tw,ti,u5];grind
def Qq(w:β->D)(k:Int)(v:β)(l:AL β):(l.map (·.1)).Nodup->(bP l k).isSome=true->((jF l k v).map λx=>ik x.1)=(l.map λx=>ik x.1)/\((jF l k v).map λx=>w x.2)=ti (l.map λx=>ik x.1) (l.map λx=>w x.2) (ik k) (w v):=by
 induction l with
 |nil=>grind [bP]
 |cons x l a=>have:=Qp w k v l;simp only[Tw,ti,u5];grind [bP,jF]
def I0(w:β->D)(k:Int)(v:β)(l:AL β)(nd:(l.map (·.1)).Nodup):ke (l.map λx=>ik x.1) (l.map λx=>w x.2) (ik k) (w v)=aD w (jF l k v):=by have:=Qq w k v l nd;have:=Qo k v l;unfold ke aD;rw[IZ];cases e:bP l k<;>simp_all
theorem xc(k:Int)(v:β)(j:Int)(l:AL β):bP (jF l k v) j=if k=j then some v else bP l j:=by induction l<;>grind [bP,jF]
def BV(k:Int)(v:β)(l:AL β):(∀j,j∈(jF l k v).map (·.1)->j=k\/j∈l.map (·.1))/\((l.map (·.1)).Nodup->((jF l k v).map (·.1)).Nodup):=by induction l<;>grind [jF]
def BW{l:AL β}:bP l k=some b->(k,b)∈l:=by induction l<;>grind [bP]
def xf{l:AL β}:(l.map (·.1)).Nodup->(k,b)∈l->bP l k=some b:=by induction l<;>grind [bP]
structure Lw(pr:β->Int) (l:AL β) (C:List (Int×Int)):Prop where
 nd:(l.map (·.1)).Nodup
 on:∀k b,bP l k=some b->(k,pr b)∈C/\∀s,(k,s)∈C->pr b<=s
 no:∀k,bP l k=none->∀s,¬(k,s)∈C
def Lw.nil(pr:β->Int):Lw pr [] []:=⟨Ub,λ_ _ h=>(nomatch h),λ_ _ _=>TU⟩
def Lw.put(h:Lw pr l C)(k:Int)(v:β)(a:∀b,bP l k=some b->pr v<=pr b):Lw pr (jF l k v) (C++[(k,pr v)]):=by
 refine⟨(BV k v l).2 h.nd,λj b e=>?_,λj e s hs=>?_⟩
 .have:=h.no j;have:=h.on j;rw[xc]at e;cases z:bP l j<;>grind
 .have:=h.no j
  grind [xc]
def Lw.keep(h:Lw pr l C)(e:bP l k=some b)(hs:pr b<=s):Lw pr l (C++[(k,s)]):=by cases h;constructor<;>grind
structure yR(t:Pz.TD) (a:Int) (w:List Int) (pr:β->Int) (l:AL β):Prop where
 nd:(l.map (·.1)).Nodup
 on:∀k b,bP l k=some b->oW t a w k (pr b)/\∀s,oW t a w k s->pr b<=s
 no:∀k,bP l k=none->∀s,¬oW t a w k s
def xg(t:Pz.TD)(pr:β->Int)(x:Int)(l:AL β):List (Int×Int):=l.flatMap λy=>((jj qP t).get (y.1,x)).map λz=>(z.1,pr y.2+z.2)
def HL(nd:(t.map (·.1)).Nodup):(d,p)∈(jj qP t).get (c,x)↔Pz.At t (c,x,d) p:=by
 rw[rj,TV];constructor
 .rintro⟨⟨⟨f,g,h⟩,v⟩,a,e⟩;have:=Pz.qJ nd (Ug.mp a).1
  grind [qP,Pz.At]
 .rintro⟨v,b,rfl⟩;exact⟨((c,x,d),v),Ug.mpr ⟨Pz.mG b,T4 rfl⟩,rfl⟩
def u6(nt:(t.map (·.1)).Nodup):(k,s)∈xg t pr x l↔∃q b p,(q,b)∈l/\Pz.At t (q,x,k) p/\s=pr b+p:=by
 simp only[xg,Xn,TV,Prod.mk.injEq,Prod.exists,HL nt]
 grind
def yR.next{i:Type}{t:Pz.TD}{a x:Int}{w:List Int}{pr:β->Int}{l:AL β}{pr2:i->Int}{j:AL i}(nt:(t.map (·.1)).Nodup)(h:yR t a w pr l)(f:Lw pr2 j (xg t pr x l)):yR t a (w++[x]) pr2 j:=by
 have le:∀k s,oW t a (w++[x]) k s->∃u,(k,u)∈xg t pr x l/\u<=s:=λk s n=>by
  obtain⟨m,u,p,d,g,rfl⟩:=pth_app.mp n;cases e:bP l m with
  |none=>exact absurd d (h.no m e u)
  |some b=>exact⟨pr b+p,(u6 nt).mpr ⟨m,b,p,BW e,pth_one.mp g,rfl⟩,by have:=(h.on m b e).2 u d;lia⟩
 have:=f.on;have:=f.no;refine⟨f.nd,λk b e=>⟨?_,by grind⟩,by grind⟩;obtain⟨q,c,p,o,r,e5⟩:=(u6 nt).mp (f.on k b e).1;exact pth_app.mpr ⟨q,pr c,p,(h.on q c (xf h.nd o)).1,pth_one.mpr r,e5⟩
def yR.one(h:pr b=0):yR t a [] pr [(a,b)]:=by constructor<;>grind [bP,oW]
def Lw.m_{e:Type}{t:Pz.TD}{x:Int}{pr:β->Int}{l:AL β}{pr2:e->Int}{a:AL e}{C:List (Int×Int)}(nt:(t.map (·.1)).Nodup)(d:Lw pr2 a C)(f:∀y∈C,y∈xg t pr x l):a.length<=t.length:=by
 have:=Pz.mH (a.map (·.1)) (t.map λy=>y.1.2.2) d.nd λk g=>by obtain⟨⟨k,b⟩,h,rfl⟩:=TV.mp g;obtain⟨q,c,p,_,⟨v,i,_⟩,_⟩:=(u6 nt).mp (f _ (d.on k b (xf d.nd h)).1);exact TV.mpr ⟨_,Pz.mG i,rfl⟩
 simpa using this
end
structure HX(t:Pz.TD) (es:List Int) (a:Int) (w:List Int) (o:Option Int):Prop where
 on:∀v,o=some v->(∃e∈es,oW t a w e v)/\∀e∈es,∀s,oW t a w e s->v<=s
 no:o=none->∀e∈es,∀s,¬oW t a w e s
def HX.eq(h:HX t es a w o)(h':HX t es a w o'):o=o':=by cases o<;>cases o'<;>grind [HX]
def Qr(h:ra.d=.cU ks ds):OU gk env ra=(gk env).bind (QY ra ks ds):=by unfold OU;rw[h]
def ML(fa a:En->Res R)(env:En):zZ fa a env=(fa env).bind (OU a env):=(rfl)
def I_(a:En->Res Bool)(fa c:En->Res R)(env:En):Rw a fa c env=(a env).bind λb=>if b then fa env else c env:=(rfl)
theorem E4{a:Type}(w:a->D):∀l:AL a,nO (l.map λx=>ik x.1) (l.map λx=>w x.2)=some (l.map λx=>.tup [.int x.1,w x.2])
 |[]=>rfl
 |x::l=>by rw[Tw,Tw];show Option.map _ (nO _ _)=_;rw[E4 w l];rfl
def Qs{b:Type}{w:b->D}{asg:D->Bool->En->Option En}{a:En->Res Fl}{env:En}{fr:Bool}{l:AL b}:wt asg a env (.val (aD w l) fr [])=iE (j7 asg fr a (l.map λx=>.tup [.int x.1,w x.2]) env):=by show(match nO _ _ with|some xs=>iE (j7 asg fr a xs env)|none=>.stuck)=_;rw[E4]
def bp{a:Type}(w:a->D)(l:AL a):(aD w l).flat=false:=kz _ _
abbrev PV:=Int×Option Pz.ba
def oA:Option Pz.ba->D
 |none=>.bn
 |some a=>b7 a
def cV(b:PV):D:=.tup [.int b.1,oA b.2]
def d_(b:PV):(cV b).flat=true:=by obtain⟨s,_|a⟩:=b<;>rfl
abbrev PL:=AL PV
noncomputable def pF(b:PV):Int:=b.1
def HN(l:PL)(s:Int)(x:Pz.ba×Int):PL:=match bP l x.1.2.2 with
 |none=>jF l x.1.2.2 (s+x.2,some x.1)
 |some b=>if s+x.2<b.1 then jF l x.1.2.2 (s+x.2,some x.1)else l
def E5(h:Lw pF l C):Lw pF (HN l s x) (C++[(x.1.2.2,s+x.2)]):=by
 unfold HN;cases e:bP l x.1.2.2 with
 |none=>exact h.put _ _ λb d=>by grind
 |some b=>
  dsimp only;by_cases z:s+x.2<b.1
  .rw[Tv z];exact h.put _ _ λc a=>by rw[e]at a;injection a with a;subst a;exact V6 z
  .rw[TJ z];exact h.keep e (by unfold pF;lia)
abbrev eR(A:PL)(b:PV)(x:Pz.ba×Int)(e0 e1 e2 e4 e8:Option Sl)(g f:Bool):En:=[e0,e1,e2,some (.g9 (aD cV A)),e4,vv (cV b) g,vv (b7 x.1) f,vv (.int x.2) f,e8]
def MM(nd:(A.map (·.1)).Nodup)(q:A.length<1000000) :
 ∃j,cc (eR A b x e0 e1 e2 e4 e8 g5 f')=.ok (.nx (eR (HN A b.1 x) b x e0 e1 e2 e4 j g5 f')):=by
 have a:zZ (ao 3) (bI 6 (vC (.int 2))) (eR A b x e0 e1 e2 e4 e8 g5 f')=.ok (match bP A x.1.2.2 with|some c=>.val (cV c) true []|none=>.val .bn true []):=by
  have h1:ao 3 (eR A b x e0 e1 e2 e4 e8 g5 f')=.ok (.val (aD cV A) true [3]):=by simp_arith[bp]
  have g:bI 6 (vC (.int 2)) (eR A b x e0 e1 e2 e4 e8 g5 f')=.ok (.val (.int x.1.2.2) true []):=by unfold eR b7;simp_arith
  rw[ML,h1,qW,Qr (ra:=.val (aD cV A) true [3]) rfl,g,qW];unfold QY;have p:ga (R.val (.int x.1.2.2) true []).d=some (ik x.1.2.2):=rfl;rw[p];dsimp only;rw[Tv (tQ _ A),E3];cases bP A x.1.2.2 with
  |none=>rfl
  |some c=>show Res.ok (jJ (cV c) true [3])=_;rw[yL (d_ c)]
 have g:uP (b7 x.1) (.int 2) true []=.ok (.val (.int x.1.2.2) true []):=by unfold b7;simp_arith
 have k:∀c:PV,∀f,uP (cV c) (.int 0) f []=.ok (.val (.int c.1) true []):=λc f=>by have:=d_ c;unfold cV at *;simp_arith
 have h:∀i l m env,putAt i l m env (some (some (.g9 (aD cV A))))=(m env).bind (wg i l env (A.map λx=>ik x.1) (A.map λx=>cV x.2)):=λ_ _ _ _=>rfl;have n:∀env,tj 3 env (A.map λx=>ik x.1) (A.map λx=>cV x.2) (.tup [.int (b.1+x.2),b7 x.1]) (.val (.int x.1.2.2) true [])=.ok (.nx (env.set 3 (some (.g9 (aD cV (jF A x.1.2.2 (b.1+x.2,some x.1))))))):=λenv=>by rw[z9 (x:=ik x.1.2.2) rfl (tQ _ A) (by grind),<- I0 cV _ _ A nd];rfl
 have fl:=d_ b;unfold HN;cases e:bP A x.1.2.2 with
 |none=>rw[e]at a;refine⟨vv .bn true,?_⟩;simp_arith[cc,d_,a,g,k,h,n,uQ,fj]
 |some c=>
  rw[e]at a;refine⟨vv (cV c) true,?_⟩;have o:(cV c).kR=false:=rfl;have r:=d_ c;by_cases z:b.1+x.2<c.1
  .have hd:decide (b.1+x.2<c.1)=true:=T4 z;simp_arith[cc,d_,a,g,k,o,hd,h,n,uQ,fj];rw[Tv z]
  .have hd:decide (b.1+x.2<c.1)=false:=Uc z;simp_arith[cc,d_,a,g,k,o,hd,fj];rw[TJ z]
def QZ(t:Pz.TD)(a p1:Int):List (Pz.ba×Int):=(jj G5 t).get (a,p1)
def Ja(t:Pz.TD)(q x s:Int):(QZ t q x).map (λy=>(y.1.2.2,s+y.2))=((jj qP t).get (q,x)).map λz=>(z.1,s+z.2):=by unfold QZ;rw[rj,rj,T7,T7];rfl
def pB{a:Type}(t:Pz.TD)(pr:a->Int)(x:Int)(l:AL a)(y:Int×a):xg t pr x (l++[y])=xg t pr x l++((jj qP t).get (y.1,x)).map λz=>(z.1,pr y.2+z.2):=by unfold xg;rw[Wn];simp
def An{b:Type}{t:Pz.TD}{pr:b->Int}{x:Int}{pre a:AL b}{z:Int×Int}(h:z∈xg t pr x pre):z∈xg t pr x (pre++a):=by unfold xg at *;rw[Wn];exact T1.mpr (.inl h)
abbrev eA(t:Pz.TD)(S:PL)(x:Int)(A:PL)(e4 e5 e6 e7 e8:Option Sl):En:=[vv (rF G4 (jj G5 t)) false,vv (aD cV S) false,vv (.int x) false,some (.g9 (aD cV A)),e4,e5,e6,e7,e8]
def E6(nd:(t.map (·.1)).Nodup)(w:t.length<=1000):∃A,Lw pF A (xg t pF x S)/\gm [rF G4 (jj G5 t),aD cV S,.int x]=.ok (.val (aD cV A) true [3]):=by
 obtain⟨p,h1,A,e4,e5,e6,e7,e8,rfl,k⟩:=gd (λy:Int×PV=>.tup [.int y.1,cV y.2]) (asg:=gT 2 (aJ (gN 4) (aJ (gN 5) cb))) (fr:=false) (body:=gU) S (λpre env=>∃A e4 e5 e6 e7 e8,env=(eA t S x A e4 e5 e6 e7 e8)/\Lw pF A (xg t pF x pre)) S [] (eA t S x [] none none none none none) rfl ⟨[],none,none,none,none,none,rfl,Lw.nil pF⟩ (by
  rintro pre c ⟨q,b⟩ env g ⟨A,e4,e5,e6,e7,e8,rfl,k⟩;obtain⟨f',s⟩:=Al (d:=jj G5 t) (eD:=G4) (fa:=ao 0) (fk:=iB (aj (ao 4) (aj (ao 2) aV))) (fx:=lj aV) (env:=(eA t S x A (vv (.int q) false) (vv (cV b) false) e6 e7 e8)) (f:=false) (a:=q) (b:=x) (r:=.val (.tup [.int q,.int x]) true []) (by simp_arith[fK]) (by simp_arith) rfl (by simp_arith);obtain⟨p,h1,B,m,n,j,rfl,i⟩:=gd G4 (asg:=gT 2 (aJ (gN 6) (aJ (gN 7) cb))) (fr:=f') (body:=cc) (QZ t q x) (λo env=>∃A e6 e7 e8,env=(eA t S x A (vv (.int q) false) (vv (cV b) false) e6 e7 e8)/\Lw pF A (xg t pF x pre++o.map λy=>(y.1.2.2,b.1+y.2))) (QZ t q x) [] _ rfl ⟨A,e6,e7,e8,rfl,by grind⟩ (by
   rintro o po y env e ⟨B,m,n,j,rfl,i⟩;have C:=i.m_ (pr:=pF) (x:=x) (l:=S) nd λz hz=>by
    rw[g];have:pre++(q,b)::c=(pre++[(q,b)])++c:=by simp
    rw[this];refine An ?_;rw[pB];rcases T1.mp hz with h|h
    .exact T1.mpr (.inl h)
    .refine T1.mpr (.inr ?_);show z∈((jj qP t).get (q,x)).map λz=>(z.1,b.1+z.2);rw[<- Ja,e,UB];exact T1.mpr (.inl h)
   obtain⟨D,u⟩:=MM (A:=B) (x:=y) (b:=b) (e0:=vv (rF G4 (jj G5 t)) false) (e1:=vv (aD cV S) false) (e2:=vv (.int x) false) (e4:=vv (.int q) false) (e8:=j) (g5:=false) (f':=f') i.nd (by lia);refine⟨_,_,rfl,u,_,_,_,_,rfl,?_⟩;rw[UB,<- VQ];exact E5 i)
  refine⟨(eA t S x A (vv (.int q) false) (vv (cV b) false) e6 e7 e8),_,rfl,?_,B,vv (.int q) false,vv (cV b) false,m,n,j,rfl,?_⟩
  .simp_arith[-nZ,gU,s];exact h1
  .rw[pB,<- Ja];exact i)
 refine⟨A,k,?_⟩;have v:aD cV []=.cU [] []:=rfl;unfold eA at h1;rw[v]at h1;simp_arith[gm,mQ,fK,bp,uR,Qs,h1,qX]
abbrev eS(t:Pz.TD)(a:Int)(w:List Int)(l:List D)(e:Option Sl):En:=[vv (fI t) false,vv (.tup [.int a,.lst (w.map .int)]) false,vv (rF G4 (jj G5 t)) true,ow l true,e]
def E7(nd:(t.map (·.1)).Nodup)(i:t.length<=1000)(q:w.length<=1000):∃(b:List PL)(S:PL),yR t a w pF S/\gp [fI t,.tup [.int a,.lst (w.map .int)]]=.ok (.val (.lst (b.map (aD cV)++[aD cV S])) true [3]):=by
 have j:iI [fI t]=.ok (.g8 (rF G4 (jj G5 t))):=Ej (by lia);have fl:∀(b:List PL)(S:PL),D.bw (b.map (aD cV)++[aD cV S])=false:=λb S=>by
  cases b with
  |nil=>exact jl (bp _ _)
  |cons s b=>exact jl (bp _ _)
 obtain⟨r,h1,b,S,e4,rfl,c,_⟩:=gd D.int (asg:=gN 4) (fr:=false) (body:=gV) w (λpre env=>∃(b:List PL)(S:PL)(e4:Option Sl),env=(eS t a w (b.map (aD cV)++[aD cV S]) e4)/\yR t a pre pF S/\b.length=pre.length) w [] (eS t a w [aD cV [(a,(0,none))]] none) rfl ⟨[],[(a,(0,none))],none,rfl,yR.one rfl,rfl⟩ (by
  rintro pre e x env h ⟨b,S,e4,rfl,c,k⟩;have l:pre.length<=1000:=by grind
  obtain⟨A,m,ha⟩:=E6 (t:=t) (x:=x) (S:=S) nd i;refine⟨(eS t a w (b.map (aD cV)++[aD cV S]) (vv (.int x) false)),(eS t a w ((b++[S]).map (aD cV)++[aD cV A]) (vv (.int x) false)),rfl,?_,b++[S],A,_,rfl,c.next nd m,by simp[k]⟩;have n:Fq true [] (fP (b.map (aD cV)++[aD cV S]) (-1))=.ok (.val (aD cV S) true []):=by have:fP (b.map (aD cV)++[aD cV S]) (-1)=some (aD cV S):=z5 _ _;rw[this];show Res.ok (jJ (aD cV S) true [])=_;rw[qT (bp _ _)]
  have o:∀rs,iS rs (.val (aD cV A) true [3])=.g8 (aD cV A):=λrs=>qU rs (bp _ _);have d:(b.map (aD cV)++[aD cV S]).length<1000000:=by simp;lia
  simp_arith[gV,fK,bp,fl,n,ha,o,EB d];rw[UB,Tw,VE])
 refine⟨b,S,c,?_⟩;have hd:∀f g al bl,mE (.val (.int a) f al) (.val (.tup [.int 0,.bn]) g bl)=.ok (.g8 (aD cV [(a,(0,none))])):=λ_ _ _ _=>rfl;have p:D.bw [aD cV [(a,((0:Int),(none:Option Pz.ba)))]]=false:=fl [] _;simp_arith[gp,mR,j,jC,fK,hd,bp,p,h1,fl]
def yN(f:En->Res R)(env:En):tJ f env=(f env).bind qS:=(rfl)
def MN(h:r.d=.lst ((k::ks).map iV)):qS r=.ok (.val (iV (rX (k::ks))) true []):=by grind [lg,qS]
def MO(h:r.d=.lst ((n::ns).map .int)):qS r=.ok (.val (.int ((rX ((n::ns).map λn=>[n])).headD 0)) true []):=by have:=lc (n::ns);unfold qS;rw[h];rw[Tw]at this ⊢;dsimp only;rw[this];rfl
def HP(h1:k≠[])(c:y≠[]):(qR k y=k\/qR k y=y)/\(qR k y).headD 0<=k.headD 0/\(qR k y).headD 0<=y.headD 0:=by
 cases k with
 |nil=>exact absurd rfl h1
 |cons a k=>
  cases y with
  |nil=>exact absurd rfl c
  |cons b y=>
   unfold qR HT.lexLt
   grind
theorem Ao:∀(r:List (List Int))(k:List Int),(∀x∈k::r,x≠[])->r.foldl qR k∈k::r/\∀x∈k::r,(r.foldl qR k).headD 0<=x.headD 0
 |[],k,_=>by grind
 |y::r,k,h=>by
  obtain⟨h1,a,b⟩:=HP (h k TF) (h y (TB _ TF));have c:=Ao r (qR k y) λx d=>by grind
  grind
section
variable{β:Type}{pr:β->Int}{S:AL β}{t:Pz.TD}{a:Int}{w es:List Int}
def nY(pr:β->Int)(S:AL β)(e:Int):Int:=((bP S e).map pr).getD 0
def xh(S:AL β)(e:Int):Bool:=(bP S e).isSome
def yR.lst(h:yR t a w pr S)(f:Int->List Int)(n:∀e,(f e).headD 0=nY pr S e)(o:∀e,f e≠[]):match es.filter (xh S)with
 |[]=>HX t es a w none
 |e::r=>HX t es a w (some ((rX ((e::r).map f)).headD 0))/\∃g,rX ((e::r).map f)=f g:=by
 have on:∀e,xh S e=true->oW t a w e (nY pr S e)/\∀s,oW t a w e s->nY pr S e<=s:=λe c=>by
  unfold xh at c;unfold nY;cases z:bP S e with
  |none=>rw[z]at c;cases c
  |some b=>exact h.on e b z
 have no:∀e s,oW t a w e s->xh S e=true:=λe s i=>by
  unfold xh;cases z:bP S e with
  |none=>exact absurd i (h.no e z s)
  |some b=>rfl
 cases k:es.filter (xh S)with
 |nil=>exact⟨λv d=>(nomatch d),λ_ e c s i=>by have:e∈es.filter (xh S):=Ug.mpr ⟨c,no e s i⟩;rw[k]at this;cases this⟩
 |cons e r=>
  have l:=Ao (r.map f) (f e) λx p=>by grind
  have j:rX ((e::r).map f)∈(e::r).map f:=l.1;obtain⟨g,h1,m⟩:=TV.mp j;rw[<- k]at h1;obtain⟨q,u⟩:=Ug.mp h1;refine⟨⟨λv d=>?_,λd=>(nomatch d)⟩,g,m.symm⟩
  grind [rX]
end
def Jb{a:Type}(w:a->D)(e:Int)(S:AL a):BN false (.int e) (aD w S)=.ok (.val (.bl (xh S e)) true []):=by unfold xh;rw[<- IZ];exact Tv (tQ e S)
def Jc{a:Type}{w:a->D}{e:Int}{S:AL a}{b:a}{f g:Bool}{al:List Nat}(h:bP S e=some b)(c:(w b).flat=true):qE (.val (aD w S) f []) (.val (.int e) g al)=.ok (.val (w b) true []):=by rw[Ml (ra:=.val (aD w S) f []) (rk:=.val (.int e) g al) (x:=ik e) rfl rfl (tQ e S) (by rw[E3,h];rfl),yL c]
def MP(h:yR t a w pF S)(C:es.length<=1000):∃o l,HX t es a w o/\dY [Mc n ts es,aD cV S]=.ok (.val (match o with|none=>.bn|some v=>.tup [.int v,.int l]) true []):=by
 have x:bI 0 (vC (.int 2)) [vv (Mc n ts es) false,vv (aD cV S) false]=.ok (.val (.lst (es.map .int)) false []):=by unfold Mc;simp_arith
 have y:=cN (mk:=λd=>gN 0 d false (gY [vv (Mc n ts es) false,vv (aD cV S) false] 1 [1])) (test:=cI) (elt:=cJ) D.int (xh S) (λe=>.val (.tup [.int (nY pF S e),.int e]) true []) es λe _=>⟨_,rfl,by
  show cI [vv (.int e) false,vv (aD cV S) false]=_;have m:=Jb cV e S;simp_arith[cI,bp,m],λp=>by
  show cJ [vv (.int e) false,vv (aD cV S) false]=_;unfold xh at p;unfold nY;cases z:bP S e with
  |none=>rw[z]at p;cases p
  |some b=>
   have A:=Jc (f:=false) (g:=true) (al:=[]) z (d_ b);have B:∀f,uP (cV b) (.int 0) f []=.ok (.val (.int b.1) true []):=λf=>by have:=d_ b;unfold cV at *;simp_arith
   simp_arith[cJ,bp,A,B];rfl⟩
 have j:dv 1 [1] (iU (bI 0 (vC (.int 2)))) (gN 0) cI cJ [vv (Mc n ts es) false,vv (aD cV S) false]=.ok (.new ((es.filter (xh S)).map λe=>.tup [.int (nY pF S e),.int e]) true):=by rw[rh x,gc (by grind) y,mP,dN,iG (bD _ _ λc=>rfl)]
 have i:=h.lst (es:=es) (λe=>[nY pF S e,e]) (λ_=>rfl) (λ_=>by simp);cases q:es.filter (xh S)with
 |nil=>rw[q]at i j;refine⟨none,0,i,?_⟩;simp_arith[-lX,dY,jn,yN,d9,bp,j];rfl
 |cons e r=>rw[q]at i j;obtain⟨i,l,s⟩:=i;rw[s]at i;refine⟨_,l,i,?_⟩;have u:=MN (r:=.new ((e::r).map λe=>.tup [.int (nY pF S e),.int e]) true) (k:=[nY pF S e,e]) (ks:=r.map λe=>[nY pF S e,e]) (by rw[<- Tw (f:=λe=>[nY pF S e,e]),T7];rfl);rw[<- Tw (f:=λe=>[nY pF S e,e]),s,Tw]at u;simp_arith[-lX,dY,jn,yN,d9,bp,j,u];rfl
def E8(d:kF [Hs ro sg RL,Mc n ts es]=.ok (.g8 (fI t)))(nd:(t.map (·.1)).Nodup)(h:t.length<=1000)(i:w.length<=1000)(j:es.length<=1000) :
 ∃o,HX t es a w o/\mT [Hs ro sg RL,Mc n ts es,.tup [.int a,.lst (w.map .int)]]=.ok (.val (oD o) true []):=by
 obtain⟨e,S,k,ha⟩:=E7 (a:=a) nd h i;obtain⟨o,m,l,c⟩:=MP (n:=n) (ts:=ts) k j;refine⟨o,l,?_⟩;have hs:(D.tup [D.int a,D.lst (w.map .int)]).flat=false:=rfl;have g:∀f al,Fq f al (fP (e.map (aD cV)++[aD cV S]) (-1))=.ok (.val (aD cV S) f al):=λf al=>by rw[z5];show Res.ok (jJ (aD cV S) f al)=_;rw[qT (bp _ _)]
 have b:(D.lst (e.map (aD cV)++[aD cV S])).flat=false:=mK _;cases o with
 |none=>dsimp only at c;simp_arith[mT,uU,jB,d9,hs,d,ha,b,g,c,jC,bp,I_];rfl
 |some v=>dsimp only at c;simp_arith[mT,uU,jB,d9,hs,d,ha,b,g,c,jC,bp,I_,oD];rfl
theorem yO(ps:∀a v,Pz.bF t a=some v->0<=v.1):∀{w:List Int}{a v:Int},oW t a w b v->0<=v
 |[],_,_,h=>by have:=h.2;lia
 |x::w,a,v,⟨m,p,u,⟨z,h1,d⟩,c,e⟩=>by have a:=ps _ _ h1;have b:=yO ps c;lia
def cF(G:Pz.Good RL M U t)(a:Pz.ba):Pz.At t a 0↔a∈M:=by
 constructor
 .rintro⟨⟨p,n,m⟩,h,e⟩;have j:=G.ju a _ h;have e:p=0:=e;subst e;cases n with
  |none=>exact j.2.2
  |some i=>
   obtain⟨j,r,_,_,_,_,k⟩:=j;have q:=λa q (h:Pz.At t a q)=>(h.elim λw h=>h.2▸G.ps a w h.1:0<=q);obtain⟨f,g,o,put⟩:=r;rcases put with _|⟨x,_|⟨y,_|⟨z,l⟩⟩⟩
   .have:=k.2.1;simp at this
   .obtain⟨_,q1,h1,b⟩:=k;have:=q _ _ h1;simp only[]at b;lia
   .obtain⟨d,q1,q2,_,h1,b,c⟩:=k;have:=q _ _ h1;have:=q _ _ b;simp only[]at c;lia
   .exact k.elim
 .intro h;exact⟨_,G.m0 a h,rfl⟩
def E9:fP [a,b] 0=some a:=(rfl)
def E_:fP [a,b] 1=some b:=(rfl)
def HQ(es:List Int)(x:Int):((es.map D.int).any λe=>gE e (.int x))=decide (x∈es):=by induction es<;>grind [gE]
def Ap(es:List Int)(x:Int):BN false (.int x) (.lst (es.map .int))=.ok (.val (.bl (decide (x∈es))) true []):=by rw[PY (by have:=i8 es;lia) (by simp[D.dep]),HQ];rfl
theorem xj(k:Int):∀l,(qH k l).length<=l.length+1
 |[]=>by simp[qH]
 |h::t=>by
  have:=xj k t;unfold qH;split
  .simp
  .split<;>simp<;>lia
theorem tR:∀ks,(iX ks).length<=ks.length
 |[]=>Tt _
 |k::r=>by have h1:=xj k (iX r);have a:=tR r;unfold iX;simp only[T2];lia
abbrev eQ(n:Int)(ts:List Pz.ba)(es:List Int)(a:Int)(w:List Int)(l:List D)(e:Option Sl):En:=[vv (Mc n ts es) false,vv (.tup [.int a,.lst (w.map .int)]) false,ow l true,e]
def Fa(G:Pz.Good RL ts U t)(M:ts.length<=63) :
 ∃b,d8 [Mc n ts es,.tup [.int a,.lst (w.map .int)]]=.ok (.val (.bl b) true [])/\(b=true↔∃e∈es,oW t a w e 0):=by
 have step:∀pre x q,oW t a (pre++[x]) q 0↔∃m,oW t a pre m 0/\(m,x,q)∈ts:=λpre x q=>by
  rw[pth_app];constructor
  .rintro⟨m,u,p,h1,j,e⟩;have j:=pth_one.mp j;have:=yO G.ps h1;have z:0<=p:=j.elim λw h=>h.2▸G.ps _ w h.1;obtain⟨rfl,rfl⟩ : u=0/\p=0:=by lia
   exact⟨m,h1,(cF G _).mp j⟩
  .rintro⟨m,h1,j⟩;exact⟨m,0,0,h1,pth_one.mpr ((cF G _).mpr j),rfl⟩
 obtain⟨N,h1,Q,e3,rfl,o,H⟩:=gd D.int (asg:=gN 3) (fr:=false) (body:=gW) w (λpre env=>∃(Q:List Int)(e3:Option Sl),env=(eQ n ts es a w (Q.map .int) e3)/\(∀q,q∈Q↔oW t a pre q 0)/\Q.length<=64) w [] (eQ n ts es a w [.int a] none) rfl ⟨[a],none,rfl,λq=>⟨λh=>⟨T8.mp h,rfl⟩,λh=>T8.mpr h.1⟩,by simp⟩ (by
  rintro pre C x env _ ⟨Q,e3,rfl,o,H⟩;have I:bI 0 (vC (.int 1)) (eQ n ts es a w (Q.map .int) (vv (.int x) false))=.ok (.val (.lst (ts.map b7)) false []):=by unfold eQ Mc;simp_arith
  have s:=cN (mk:=λd=>gT 3 (aJ (gN 0) (aJ (gN 1) (aJ (gN 2) cb))) d false (gY (eQ n ts es a w (Q.map .int) (vv (.int x) false)) 3 [2,3])) (test:=cK) (elt:=d5) b7 (λy=>(y.2.1==x)&&decide (y.1∈Q)) (λy=>.val (.int y.2.2) true []) ts λy _=>⟨[vv (.int y.1) false,vv (.int y.2.1) false,vv (.int y.2.2) false,vv (.lst (Q.map .int)) true,vv (.int x) false],rfl,by
   have k:=Ap Q y.1;cases E:(y.2.1==x)
   .simp_arith[cK,rY,E]
   .simp_arith[cK,rY,E,k],λ_=>by simp_arith[d5]⟩
  have l:=rh (n:=3) (caps:=[2,3]) (asg:=gT 3 (aJ (gN 0) (aJ (gN 1) (aJ (gN 2) cb)))) (ft:=cK) (fe:=d5) I;rw[gc (by grind) s,mP,dN,iG (bD _ _ λc=>rfl)]at l;generalize v:(ts.filter λy=>(y.2.1==x)&&decide (y.1∈Q))=i at l;have rl:i.length<=ts.length:=by grind
  have hs:=Me (r:=.new (i.map λy=>.int y.2.2) true) (is:=i.map λy=>y.2.2) (by rw[T7];rfl) (by grind);refine⟨(eQ n ts es a w (Q.map .int) (vv (.int x) false)),(eQ n ts es a w ((iX (i.map λy=>y.2.2)).map .int) (vv (.int x) false)),rfl,?_,iX (i.map λy=>y.2.2),_,rfl,λq=>?_,?_⟩
  .simp_arith[-lX,gW,l,hs]
  .rw[nP,step,TV,<- v];constructor
   .rintro⟨⟨J,O,P⟩,h1,rfl⟩;obtain⟨j,F⟩:=Ug.mp h1;rw[Um,V_,Vg]at F;obtain⟨rfl,K⟩:=F;exact⟨J,(o _).mp K,j⟩
   .rintro⟨m,h1,j⟩;exact⟨(m,x,q),Ug.mpr ⟨j,by grind⟩,rfl⟩
  .have:=tR (i.map λy=>y.2.2);rw[TN]at this;lia)
 have A:ao 2 (eQ n ts es a w (Q.map .int) e3)=.ok (.val (.lst (Q.map .int)) true [2]):=by simp_arith
 have s:=cN (mk:=λd=>gN 0 d true (gY (eQ n ts es a w (Q.map .int) e3) 1 [0])) (test:=d6) (elt:=d7) D.int (λq=>decide (q∈es)) (λq=>.val (.int q) true []) Q λq _=>⟨[vv (.int q) true,vv (Mc n ts es) false],rfl,by have k:=Ap es q;unfold Mc;simp_arith[d6,k],λ_=>by simp_arith[d7]⟩;have l:=rh (n:=1) (caps:=[0]) (asg:=gN 0) (ft:=d6) (fe:=d7) A;rw[gc (by grind) s,mP,dN,iG (bD _ _ λc=>rfl)]at l;generalize v:(Q.filter λq=>decide (q∈es))=i at l;have L:(D.lst (i.map .int)).dep<=50:=by have:=i8 i;rw[k_];lia
 have B:∀f g,Fm (.new (i.map .int) f) (.new [] g)=.ok (.val (.bl (!gE (.lst (i.map .int)) (.lst []))) true []):=λf g=>Lq (a:=.new (i.map .int) f) (b:=.new [] g) L (by show(D.lst []).dep<=50;decide);refine⟨!gE (.lst (i.map .int)) (.lst []),?_,?_⟩
 .simp_arith[-lX,d8,mU,d9,E9,E_,h1,l,B]
 .have:(∃e∈es,oW t a w e 0)↔∃e,e∈i:=by rw[<- v];exact⟨λ⟨e,h1,j⟩=>⟨e,Ug.mpr ⟨(o e).mpr j,T4 h1⟩⟩,λ⟨e,h⟩=>⟨e,UO (Ug.mp h).2,(o e).mp (Ug.mp h).1⟩⟩
  rw[this];cases i with
  |nil=>exact⟨λh=>(nomatch h),λ⟨e,h⟩=>(nomatch h)⟩
  |cons e r=>exact⟨λ_=>⟨e,TF⟩,λ_=>rfl⟩
def BX{a:Type}{k:Int}{b:a}{l:AL a}:bP l k=some b->jF l k b=l:=by induction l<;>grind [bP,jF]
def lo2(l:AL Int)(k s:Int):Int:=if(bP l k).getD s<s then(bP l k).getD s else s
abbrev HR(l:AL Int)(k s:Int):AL Int:=jF l k (lo2 l k s)
def Fb(h:Lw id l C):Lw id (HR l k s) (C++[(k,s)]):=by
 unfold HR lo2;cases e:bP l k with
 |none=>rw[Xk,TJ (Int.lt_irrefl _)];exact h.put k s (by grind)
 |some b=>
  rw[Option.getD_some];by_cases z:b<s
  .rw[Tv z,BX e];exact h.keep e (V6 z)
  .rw[TJ z];exact h.put k s (by grind [id])
abbrev eL(A:AL Int)(s:Int)(y:Int×Int)(e0 e1 e2 e3 e5:Option Sl)(g f:Bool):En:=[e0,e1,e2,e3,some (.g9 (aD D.int A)),e5,vv (.int s) g,vv (.int y.1) f,vv (.int y.2) f]
def HS{A:AL Int}{y:Int×Int}(nd:(A.map (·.1)).Nodup)(m:A.length<1000000) :
 fB (eL A s y e0 e1 e2 e3 e5 g6 f')=.ok (.nx (eL (HR A y.1 (s+y.2)) s y e0 e1 e2 e3 e5 g6 f')):=by
 have g:mC (ao 4) (ao 7) (v2 fE (ao 6) (ao 8)) (eL A s y e0 e1 e2 e3 e5 g6 f')=.ok (.val (.int ((bP A y.1).getD (s+y.2))) true []):=by
  have h1:ao 4 (eL A s y e0 e1 e2 e3 e5 g6 f')=.ok (.val (aD D.int A) true [4]):=by simp_arith[bp]
  have h:ao 7 (eL A s y e0 e1 e2 e3 e5 g6 f')=.ok (.val (.int y.1) true []):=by simp_arith
  have j:v2 fE (ao 6) (ao 8) (eL A s y e0 e1 e2 e3 e5 g6 f')=.ok (.val (.int (s+y.2)) true []):=by simp_arith
  have e:mC (ao 4) (ao 7) (v2 fE (ao 6) (ao 8)) (eL A s y e0 e1 e2 e3 e5 g6 f')=KQ (.val (aD D.int A) true [4]) (A.map λx=>ik x.1) (A.map λx=>.int x.2) (.val (.int y.1) true []) (.val (.int (s+y.2)) true []):=by rw[nZ,h1,qW,IS (ks:=A.map λx=>ik x.1) (ds:=A.map λx=>D.int x.2) rfl,h,qW,EL,j,qW]
  rw[e];have k:ga (R.val (.int y.1) true []).d=some (ik y.1):=rfl;unfold KQ;rw[k];dsimp only;rw[Tv (tQ _ A),E3 D.int];cases bP A y.1 with
  |none=>rfl
  |some c=>rfl
 have a:∀c,zJ [.val (.int (s+y.2)) true [],.val (.int c) true []]=.ok (.val (.int (if c<s+y.2 then c else s+y.2)) true []):=λ_=>rfl;have b:∀i fk f env,putAt i fk f env (some (some (.g9 (aD D.int A))))=(f env).bind (wg i fk env (A.map λx=>ik x.1) (A.map λx=>.int x.2)):=λ_ _ _ _=>rfl;have l:∀env,tj 4 env (A.map λx=>ik x.1) (A.map λx=>.int x.2) (.int (if(bP A y.1).getD (s+y.2)<s+y.2 then(bP A y.1).getD (s+y.2)else s+y.2)) (.val (.int y.1) true [])=.ok (.nx (env.set 4 (some (.g9 (aD D.int (HR A y.1 (s+y.2))))))):=λenv=>by rw[z9 (x:=ik y.1) rfl (tQ _ A) (by grind),<- I0 D.int _ _ A nd];rfl
 simp_arith[-nZ,fB,g,a,b,l,uQ]
abbrev eT(t:Pz.TD)(S:AL Int)(x:Int)(A:AL Int)(e1 e5 e6 e7 e8:Option Sl):En:=[vv (rF yI (jj qP t)) false,e1,vv (aD D.int S) true,vv (.int x) false,some (.g9 (aD D.int A)),e5,e6,e7,e8]
def HU{t:Pz.TD}{x:Int}(nd:(t.map (·.1)).Nodup)(I:t.length<=1000)(C:e2=some (.g9 (aD D.int S))\/e2=vv (aD D.int S) true):∃A E f5 m n o,Lw id A (xg t id x S)/\cZ [vv (rF yI (jj qP t)) false,e1,e2,vv (.int x) false,e4,e5,e6,e7,e8]=.ok (.nx [vv (rF yI (jj qP t)) false,e1,vv (aD D.int A) true,vv (.int x) false,E,f5,m,n,o]):=by
 obtain⟨F,h1,A,f5,m,n,o,rfl,s⟩:=gd (λy:Int×Int=>.tup [.int y.1,.int y.2]) (asg:=gT 2 (aJ (gN 5) (aJ (gN 6) cb))) (fr:=true) (body:=iJ) S (λpre env=>∃A e5 e6 e7 e8,env=(eT t S x A e1 e5 e6 e7 e8)/\Lw id A (xg t id x pre)) S [] (eT t S x [] e1 e5 e6 e7 e8) rfl ⟨[],e5,e6,e7,e8,rfl,Lw.nil id⟩ (by
  rintro pre c ⟨q,b⟩ env g ⟨A,e5,e6,e7,e8,rfl,s⟩;obtain⟨f',G⟩:=Al (d:=jj qP t) (eD:=yI) (fa:=ao 0) (fk:=iB (aj (ao 5) (aj (ao 3) aV))) (fx:=lj aV) (env:=(eT t S x A e1 (vv (.int q) true) (vv (.int b) true) e7 e8)) (f:=false) (a:=q) (b:=x) (r:=.val (.tup [.int q,.int x]) true []) (by simp_arith[fK]) (by simp_arith) rfl (by simp_arith);obtain⟨F,h1,B,u,v,rfl,i⟩:=gd yI (asg:=gT 2 (aJ (gN 7) (aJ (gN 8) cb))) (fr:=f') (body:=fB) ((jj qP t).get (q,x)) (λw env=>∃A e7 e8,env=(eT t S x A e1 (vv (.int q) true) (vv (.int b) true) e7 e8)/\Lw id A (xg t id x pre++w.map λy=>(y.1,b+y.2))) ((jj qP t).get (q,x)) [] _ rfl ⟨A,e7,e8,rfl,by grind⟩ (by
   rintro w po y env e ⟨B,u,v,rfl,i⟩;have J:=i.m_ (pr:=id) (x:=x) (l:=S) nd λz hz=>by
    rw[g];have:pre++(q,b)::c=(pre++[(q,b)])++c:=by simp
    rw[this];refine An ?_;rw[pB];rcases T1.mp hz with h|h
    .exact T1.mpr (.inl h)
    .refine T1.mpr (.inr ?_);show z∈((jj qP t).get (q,x)).map λz=>(z.1,b+z.2);rw[e,UB];exact T1.mpr (.inl h)
   refine⟨_,_,rfl,HS (y:=y) (f':=f') i.nd (by lia),_,_,_,rfl,?_⟩;rw[UB,<- VQ];exact Fb i)
  refine⟨(eT t S x A e1 (vv (.int q) true) (vv (.int b) true) e7 e8),_,rfl,?_,B,vv (.int q) true,vv (.int b) true,u,v,rfl,?_⟩
  .simp_arith[-nZ,iJ,G];exact h1
  .rw[pB];exact i)
 have H:aD D.int []=.cU [] []:=rfl;unfold eT at h1;rw[H]at h1;have j:∀asg k env fr al,wt asg k env (.val (aD D.int S) fr al)=iE (j7 asg fr k (S.map λx=>.tup [.int x.1,.int x.2]) (aZ env al)):=λasg k env fr al=>by show(match nO _ _ with|some xs=>iE (j7 asg fr k xs (aZ env al))|none=>.stuck)=_;rw[E4 D.int]
 have hz:aZ [vv (rF yI (jj qP t)) false,e1,some (.g9 (aD D.int S)),vv (.int x) false,some (.g9 (.cU [] [])),e5,e6,e7,e8] [2]=[vv (rF yI (jj qP t)) false,e1,vv (aD D.int S) true,vv (.int x) false,some (.g9 (.cU [] [])),e5,e6,e7,e8]:=rfl;have p:aZ [vv (rF yI (jj qP t)) false,e1,vv (aD D.int S) true,vv (.int x) false,some (.g9 (.cU [] [])),e5,e6,e7,e8] []=[vv (rF yI (jj qP t)) false,e1,vv (aD D.int S) true,vv (.int x) false,some (.g9 (.cU [] [])),e5,e6,e7,e8]:=rfl;refine⟨A,vv (aD D.int A) true,f5,m,n,o,s,?_⟩;rcases C with rfl|rfl
 .simp_arith[cZ,bp,uR,j,hz,h1,qX];rfl
 .simp_arith[cZ,bp,uR,j,p,h1,qX];rfl
def HV(nd:(t.map (·.1)).Nodup)(h:t.length<=1000):∃(S:AL Int)(al:List Nat),yR t a w id S/\fJ [rF yI (jj qP t),.tup [.int a,.lst (w.map .int)]]=.ok (.val (aD D.int S) true al):=by
 obtain⟨k,h1,S,e2,e3,e4,e5,e6,e7,e8,rfl,c,b⟩:=gd D.int (asg:=gN 3) (fr:=false) (body:=cZ) w (λpre env=>∃(S:AL Int)(e2 e3 e4 e5 e6 e7 e8:Option Sl),env=[vv (rF yI (jj qP t)) false,vv (.tup [.int a,.lst (w.map .int)]) false,e2,e3,e4,e5,e6,e7,e8]/\(e2=some (.g9 (aD D.int S))\/e2=vv (aD D.int S) true)/\yR t a pre id S) w [] [vv (rF yI (jj qP t)) false,vv (.tup [.int a,.lst (w.map .int)]) false,some (.g9 (aD D.int [(a,0)])),none,none,none,none,none,none] rfl ⟨[(a,0)],some (.g9 (aD D.int [(a,0)])),none,none,none,none,none,none,rfl,.inl rfl,yR.one rfl⟩ (by rintro pre d x env e ⟨S,e2,e3,e4,e5,e6,e7,e8,rfl,c,b⟩;obtain⟨A,l,f5,m,n,o,i,j⟩:=HU (t:=t) (x:=x) (S:=S) (e1:=vv (.tup [.int a,.lst (w.map .int)]) false) (e4:=e4) (e5:=e5) (e6:=e6) (e7:=e7) (e8:=e8) nd h c;exact⟨_,_,rfl,j,A,_,_,_,_,_,_,_,rfl,.inr rfl,b.next nd i⟩);have hd:∀f g al bl,mE (.val (.int a) f al) (.val (.int 0) g bl)=.ok (.g8 (aD D.int [(a,0)])):=λ_ _ _ _=>rfl;rcases c with rfl|rfl
 .exact⟨S,[2],b,by simp_arith[fJ,kH,fK,E9,E_,hd,bp,h1]⟩
 .exact⟨S,[],b,by simp_arith[fJ,kH,fK,E9,E_,hd,bp,h1]⟩
def Qu:DO (.val (.int 10) f al) (.val (.int 20) g bl)=.ok (.val (.int 100000000000000000000) true []):=(rfl)
def Qw:DO (.val (.int 1000003) f al) (.val (.int 4) g bl)=.ok (.val (.int 1000012000054000108000081) true []):=(rfl)
def oh(c:0<=x)(h1:x<18446744073709551616):qo (.val (.int x) f al) (.val (.int y) g bl)=.ok (.val (.int (x*y)) true []):=by
 have a:(-(2^64)<x):=by lia
 have b:x<2^64:=by lia
 refine Tv ?_;unfold A1;rw[T4 a,T4 b];rfl
def xk(m:0<=c)(o:c<10000000)(p:0<=sz)(q:sz<=100)(h1:0<sg)(r:sg<=5):∃w:List Int,w.length<=100/\de [.int c,.int sz,.int sg]=.ok (.val (.lst (w.map .int)) true [3]):=by
 obtain⟨s,h,w,n,e5,e6,rfl,b⟩:=gd (λk:Nat=>D.int (k:Nat)) (asg:=gN 5) (fr:=true) (body:=dX) (List.range sz.toNat) (λpre env=>∃(w:List Int)(n:Int)(e5 e6:Option Sl),env=[vv (.int c) false,vv (.int sz) false,vv (.int sg) false,ow (w.map .int) true,vv (.int n) true,e5,e6]/\w.length=pre.length) (List.range sz.toNat) [] [vv (.int c) false,vv (.int sz) false,vv (.int sg) false,ow [] true,vv (.int (c%100000000000000000000*1000012000054000108000081)) true,none,none] rfl ⟨[],_,none,none,rfl,rfl⟩ (by
  rintro pre g k env a ⟨w,n,e5,e6,rfl,b⟩;have t:k<100:=by
   have:k∈List.range sz.toNat:=by grind
   have:=Ur.mp this;lia
  have u:w.length<100:=by have:=Vv List.length a;rw[WF,T_,T2]at this;lia
  have d:(w.map D.int).length<1000000:=by grind
  have k0:(0:Int)<=(k:Nat):=by lia
  have k1:((k:Nat):Int)<18446744073709551616:=by lia
  have e:(0:Int)<=((k:Nat):Int)*((k:Nat):Int):=Int.mul_nonneg k0 k0;have f:((k:Nat):Int)*((k:Nat):Int)<18446744073709551616:=by have:((k:Nat):Int)*((k:Nat):Int)<=100*100:=Int.mul_le_mul (by lia) (by lia) (by lia) (by lia);lia
  have s1:sg<1073741824:=by lia
  refine⟨[vv (.int c) false,vv (.int sz) false,vv (.int sg) false,ow (w.map .int) true,vv (.int n) true,vv (.int (k:Nat)) true,e6],[vv (.int c) false,vv (.int sz) false,vv (.int sg) false,ow ((w++[(n%sg+((k:Nat):Int)*((k:Nat):Int)*(sz/30))%sg]).map .int) true,vv (.int (n/sg)) true,vv (.int (k:Nat)) true,vv (.int (n%sg)) true],rfl,?_,_,_,_,_,rfl,by simp[b]⟩;rw[UB,Tw,VE];simp_arith[dX,rg,h1,s1,uZ,oh k0 k1,oh e f,EB d])
 rw[WF]at b;refine⟨w,by lia,?_⟩;have m0:0<=c%100000000000000000000:=by lia
 have i:c%100000000000000000000<18446744073709551616:=by lia
 have j:-4611686018427387904<=sz:=by lia
 have l:sz<4611686018427387904:=by lia
 simp_arith[de,jM,Qu,Qw,oh m0 i,z4,j,l,px,h]
def xm(g:0<=c)(h:c<2147483648)(b:0<ro)(s1:0<sg)(s2:sg<=5):∃(a:Int)(w:List Int),0<=a/\a<ro/\w.length<=100/\bU [.int c,.int ro,.int sg]=.ok (.val (.tup [.int a,.lst (w.map .int)]) true []):=by
 have e:=V8 (c%6) (show ro≠0 by lia);have an:=VH (c%6) b;cases f:(c/36%8==5)
 .obtain⟨w,d,hs⟩:=xk (c:=c/288) (sz:=c/6%6) (by lia) (by lia) (by lia) (by lia) s1 s2;refine⟨c%6%ro,w,e,an,d,?_⟩;simp_arith[bU,dn,rY,f,b,hs]
 .obtain⟨w,d,hs⟩:=xk (c:=c/288) (sz:=30+c/288%61) (by lia) (by lia) (by lia) (by lia) s1 s2;refine⟨c%6%ro,w,e,an,d,?_⟩;simp_arith[bU,dn,rY,f,b,hs]
def Sr:fP [a,b,c] 0=some a:=(rfl)
def Qx(ns:List Int)(k:Int):sd ns k<2147483648:=by unfold sd;lia
def MQ{ts:List Pz.ba}{S:AL Int}{e0 e1 e3 e4 e5 e6 e8:Option Sl}{g2 g7:Bool}(h:yR t a w id S)(u:es.length<=1000):∃o,HX t es a w o/\tJ (dv 1 [7] (iU (bI 2 (vC (.int 2)))) (gN 0) jw jy) [e0,e1,vv (Mc n ts es) g2,e3,e4,e5,e6,vv (aD D.int S) g7,e8]=.ok (.val (oD o) true []):=by
 have m:bI 2 (vC (.int 2)) [e0,e1,vv (Mc n ts es) g2,e3,e4,e5,e6,vv (aD D.int S) g7,e8]=.ok (.val (.lst (es.map .int)) g2 []):=by unfold Mc;simp_arith
 have p:=cN (mk:=λd=>gN 0 d g2 (gY [e0,e1,vv (Mc n ts es) g2,e3,e4,e5,e6,vv (aD D.int S) g7,e8] 1 [7])) (test:=jw) (elt:=jy) D.int (xh S) (λe=>.val (.int (nY id S e)) true []) es λe _=>⟨_,rfl,by
  show jw [vv (.int e) g2,vv (aD D.int S) g7]=_;have j:=Jb D.int e S;simp_arith[jw,bp,j],λk=>by
  show jy [vv (.int e) g2,vv (aD D.int S) g7]=_;unfold xh at k;unfold nY;cases z:bP S e with
  |none=>rw[z]at k;cases k
  |some b=>have q:=Jc (w:=D.int) (f:=g7) (g:=true) (al:=[]) z rfl;simp_arith[jy,bp,q];rfl⟩
 have s:dv 1 [7] (iU (bI 2 (vC (.int 2)))) (gN 0) jw jy [e0,e1,vv (Mc n ts es) g2,e3,e4,e5,e6,vv (aD D.int S) g7,e8]=.ok (.new ((es.filter (xh S)).map λe=>.int (nY id S e)) true):=by rw[rh m,gc (by grind) p,mP,dN,iG (bD _ _ λc=>rfl)]
 have i:=h.lst (es:=es) (λe=>[nY id S e]) (λ_=>rfl) (λ_=>by simp);rw[yN,s,qW];cases l:es.filter (xh S)with
 |nil=>rw[l]at i;exact⟨none,i,rfl⟩
 |cons e r=>rw[l]at i;refine⟨_,i.1,?_⟩;rw[MO (n:=nY id S e) (ns:=r.map (nY id S)) (by rw[<- Tw (f:=nY id S),T7];rfl),<- Tw (f:=nY id S),T7];rfl
def Fc(v:Int):gs [.int v]=.ok (.val (.bl true) true []):=by simp_arith[gs,mW]
def MR(ns:List Int)(K:ns.length<=63):wX [.lst (ns.map .int)]=.ok (.val (.bl true) true []):=by
 obtain⟨ro,sg,RL,n,ts,es,al,F,L,s1,s2,M,h,P,N⟩:=HK ns K 40 (by decide) (by decide);have h:RL.length<=40:=h;obtain⟨t,H,G,Z⟩:=BU F L s1 s2 M (by lia) P;obtain⟨a,w,a0,a1,I,k⟩:=xm (EU ns 2) (Qx ns 2) F s1 s2;have k2:=u4 ns 2 (by decide);have le:=P.le;have lt:=P.lt;obtain⟨o,l,m⟩:=E8 (a:=a) (w:=w) H G.nd (by lia) (by lia) (by lia);obtain⟨S,RT,O,p⟩:=HV (a:=a) (w:=w) G.nd (by lia);obtain⟨b,i,q⟩:=Fa G (n:=n) (a:=a) (w:=w) (es:=es) (by lia);have r:=HI (ro:=ro) (sg:=sg) (n:=n) (RL:=RL) (ts:=ts) (es:=es);have c:kJ [fI t]=.ok (.g8 (rF yI (jj qP t))):=Ej (by lia);have s:D.bw (ns.map D.int)=true:=cj _;have fp:(D.tup [Hs ro sg RL,Mc n ts es]).flat=false:=jl (jB _ _ _);have Q:D.bw [Hs ro sg RL,Mc n ts es]=false:=jl (jB _ _ _);have J:(D.lst [Hs ro sg RL,Mc n ts es]).dep<=50:=by have a:=MB ro sg RL;have b:=MC n ts es;simp only[k_,eY,gM];lia
 have ds:(D.tup [D.int a,D.lst (w.map .int)]).dep<=50:=by have:=i8 w;simp only[mM,mL,k_,eY,gM];lia
 have u:∀f al g,Fm (.val (.lst [Hs ro sg RL,Mc n ts es]) f al) (.new [Hs ro sg RL,Mc n ts es] g)=.ok (.val (.bl false) true []):=λf al g=>by rw[Lq (a:=.val (.lst [Hs ro sg RL,Mc n ts es]) f al) (b:=.new [Hs ro sg RL,Mc n ts es] g) J J,lb,mN,jZ];rfl
 have j:∀f al g bl,Fm (.val (.tup [.int a,.lst (w.map .int)]) f al) (.val (.tup [.int a,.lst (w.map .int)]) g bl)=.ok (.val (.bl false) true []):=λf al g bl=>by rw[Lq (a:=.val (.tup [.int a,.lst (w.map .int)]) f al) (b:=.val (.tup [.int a,.lst (w.map .int)]) g bl) ds ds,lb,lb,jZ];rfl
 have hs:(D.tup [D.int a,D.lst (w.map .int)]).flat=false:=rfl;have x:∀f:Bool,uP (Hs ro sg RL) (.int 0) f []=.ok (.val (.int ro) true []):=λf=>by unfold Hs;simp_arith[Sr]
 have y:∀f:Bool,uP (Hs ro sg RL) (.int 1) f []=.ok (.val (.int sg) true []):=λf=>by unfold Hs;simp_arith
 have R:∀e0 e1 e2 e3 e5 e6 e7 e8:Option Sl,bI 4 (vC (.int 0)) [e0,e1,e2,e3,vv (.lst [Hs ro sg RL,Mc n ts es]) true,e5,e6,e7,e8]=.ok (.val (Hs ro sg RL) true []):=λ_ _ _ _ _ _ _ _=>by simp_arith[E9,jB]
 have T:∀e0 e1 e2 e3 e5 e6 e7 e8:Option Sl,bI 4 (vC (.int 1)) [e0,e1,e2,e3,vv (.lst [Hs ro sg RL,Mc n ts es]) true,e5,e6,e7,e8]=.ok (.val (Mc n ts es) true []):=λ_ _ _ _ _ _ _ _=>by simp_arith[E_,d9]
 have hd:∀e0 e1 e3 e4 e5 e6 e8:Option Sl,tJ (dv 1 [7] (iU (bI 2 (vC (.int 2)))) (gN 0) jw jy) [e0,e1,vv (Mc n ts es) true,e3,e4,e5,e6,vv (aD D.int S) true,e8]=.ok (.val (oD o) true []):=λe0 e1 e3 e4 e5 e6 e8=>by obtain⟨o',h1,d⟩:=MQ (n:=n) (ts:=ts) (e0:=e0) (e1:=e1) (e3:=e3) (e4:=e4) (e5:=e5) (e6:=e6) (e8:=e8) (g2:=true) (g7:=true) O (es:=es) (by lia);rw[d,l.eq h1]
 have A:∀rs,iS rs (.val (aD D.int S) true RT)=.g8 (aD D.int S):=λrs=>qU rs (bp _ _);have U:(oD o).flat=true:=by cases o<;>rfl
 simp_arith[wX,IU,N,s,fp,HD,Ah,jB,d9,k2,x,y,E9,E_,k,Ag,r,Q,tM,Af,hs,Ae,R,T,m,U,Ad,u,j,Ac,H,jC,c,fK,p,A,bp,Ab,hd];cases o with
 |none=>
  have B:b=false:=by
   cases b with
   |false=>rfl
   |true=>obtain⟨e,h1,d⟩:=q.mp rfl;exact absurd d (l.no rfl e h1 0)
  subst B;simp_arith[uV,oD,i,Mz,d9,hs]
 |some v=>
  have C:(v==0)=b:=by
   obtain⟨⟨e,h1,d⟩,V⟩:=l.on v rfl;cases b with
   |false=>refine VS.mpr λz=>?_;subst z;exact Bool.noConfusion (q.mpr ⟨e,h1,d⟩)
   |true=>obtain⟨W,X,Y⟩:=q.mp rfl;have a:=V W X 0 Y;have b:=yO G.ps d;exact V_.mpr (by lia)
  have I:=Fc v;have E:(v==v)=true:=V_.mpr rfl;simp_arith[uV,oD,i,wW,I,rY,E,C,d9,hs];cases b<;>rfl
end W
open PySem PySem.W PyProof.Rows
def PySem.W.Vw:PySem.Program:={PySem.Challenge.pw_callwalk_k24_least_by_prices with main:={PySem.Challenge.pw_callwalk_k24_least_by_prices.main with body:=PySem.Challenge.pw_callwalk_k24_least_by_prices.main.body.filter fun s=>match s with|.FunctionDef ..=>true|.ClassDef ..=>true|_=>false}}
local macro_rules | `(tactic| o_head $H) => `(tactic| refine holds_open (q := PySem.W.Vw) (loose := []) (Xt := fun s => xlAt PySem.W.Vw [] s && recOk (RowW.records PySem.Challenge.rw_callwalk_k24_least_by_prices.row.toRowW) s) (XP := XL PySem.W.Vw []) (Yf := Hook.obs $H) (Ya := Hook.val $H) (YP := Hook.says $H) (N := 3800) (fun w => by kernel_rfl) (Hook.of $H) (Hook.keeps $H) (fun s e => xl_of s (Bool.and_eq_true_iff.mp e).1) XL.keeps (by rfl) (by rfl) (by rfl) (fun s e => recFacts_of (Bool.and_eq_true_iff.mp e).2) (by rfl) (by first | assumption | decide +kernel) (by decide +kernel) ⟨rfl, rfl, rfl, rfl, rfl, by decide +kernel⟩ ?_ ?_)
set_option maxRecDepth 100000 in
set_option maxHeartbeats 0 in
theorem PySem.Challenge.cw_callwalk_k24_least_by_prices_holds : PySem.Challenge.rw_callwalk_k24_least_by_prices.Holds := by
 w_on;o_law;k_head;(· w_witness2)
 k_fill
 refine L2.C6 (l:=PySem.Challenge.rw_callwalk_k24_least_by_prices) (n:=63) (k:=8) (x:="_law_script") (CX:=fun w=>L2.jd) (sp:=fun _=>L3.QU W.wX) rfl (by decide) rfl ⟨rfl,by decide,by decide⟩ (fun w h Y=>PySem.W.kIn_of Y) ?kL ?F ?S ?C
 case kL=>exact fun w=>⟨by rfl,by rfl⟩
 case F=>
  intro w mg fa h KX G hmg
  refine' Exists.imp (fun _ z=>⟨z.1,fun base _ _=>z.2 base⟩) (W.My hmg ?_)
  refine' (W.Qj KX G L2.AY (L4.fk ?_ ?_ ?_) (L4.fk ?_ ?_ ?_) (L4.fk ?_ ?_ ?_) (L4.fk ?_ ?_ ?_) (L4.fk ?_ ?_ ?_) (L4.fk ?_ ?_ ?_) (L4.fk ?_ ?_ ?_) (L4.fk ?_ ?_ ?_) (L4.fk ?_ ?_ ?_) (L4.fk ?_ ?_ ?_) (L4.fk ?_ ?_ ?_) (L4.fk ?_ ?_ ?_) (L4.fk ?_ ?_ ?_) (L4.fk ?_ ?_ ?_) (L4.fk ?_ ?_ ?_) (L4.fk ?_ ?_ ?_) (L4.fk ?_ ?_ ?_) (L4.fk ?_ ?_ ?_) (L4.fk ?_ ?_ ?_) (L4.fk ?_ ?_ ?_) (L4.fk ?_ ?_ ?_) (L4.fk ?_ ?_ ?_) ?_ ?_ ?_ ?_ ?_ ?_ ?_ ?_ ?_ ?_ ?_ ?_ ?_ ⟨?_,?_,?_,?_,?_,?_,?_⟩ ?_ ?_ ⟨?_,?_,?_,?_,?_,?_,?_⟩ ?_ ?_ ?_ ?_ ?_ (L4.mk ?_ ?_ ?_ ?_ ?_) (L4.mk ?_ ?_ ?_ ?_ ?_) (L4.mk ?_ ?_ ?_ ?_ ?_) (L4.mk ?_ ?_ ?_ ?_ ?_) (L4.mk ?_ ?_ ?_ ?_ ?_) (L4.mk ?_ ?_ ?_ ?_ ?_) (L4.mk ?_ ?_ ?_ ?_ ?_) (L4.mk ?_ ?_ ?_ ?_ ?_) (L4.mk ?_ ?_ ?_ ?_ ?_))
  all_goals try k_is
 case S=>exact fun w H a ns hl hS=>L3.KF (fun ns hn=>⟨_,_,W.MR ns hn⟩) H a ns hl hS
 case C=>exact fun _ _ _ _ _ z=>z
